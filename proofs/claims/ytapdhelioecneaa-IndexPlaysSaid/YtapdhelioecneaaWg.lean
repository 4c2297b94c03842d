/- What is given, and where a key and a start have their place. Condition: less than a thousand items. -/
import Derived.Test.YtapdhelioecneaaWf
namespace Go.Proofs.Ytapdhelioecneaa
open Go.RowKit
namespace Idx
theorem eqpIn_nil (w : World) (d : Nat) (a : Addr) : (Op.equalIn (d + 1) 23 (.pointer none) (.pointer (some a))).run Try.prog w = .ok false w := by
  simp [Op.equalIn, run_underlying Try.underlying23]
theorem eqp_nil (w : World) (a : Addr) : (binOp .eql 23 (.pointer none) (.pointer (some a))).run Try.prog w = .ok (.bool false) w := by
  simp only [binOp, Sem.run_bind]
  rw [show Op.equal 23 (.pointer none) (.pointer (some a)) = Op.equalIn (9999 + 1) 23 (.pointer none) (.pointer (some a)) from rfl, eqpIn_nil]
  rfl
theorem eqpIn_same (w : World) (d : Nat) (a : Addr) : (Op.equalIn (d + 1) 23 (.pointer (some a)) (.pointer (some a))).run Try.prog w = .ok true w := by
  have hs : (sizeOf 69).run Try.prog w = .ok 3 w := by simp [go_sem]
  simp [Op.equalIn, run_underlying Try.underlying23, hs, run_sameAddr_same]
theorem eqp_same (w : World) (a : Addr) : (binOp .eql 23 (.pointer (some a)) (.pointer (some a))).run Try.prog w = .ok (.bool true) w := by
  simp only [binOp, Sem.run_bind]
  rw [show Op.equal 23 (.pointer (some a)) (.pointer (some a)) = Op.equalIn (9999 + 1) 23 (.pointer (some a)) (.pointer (some a)) from rfl, eqpIn_same]
  rfl
set_option maxHeartbeats 1000000 in
set_option maxRecDepth 100000 in
theorem given_yes (R : Nat) (w : World) (h : w.cell? ⟨R, 0, none⟩ = some (.pointer (some ⟨R, 0, none⟩))) : Calls Try.prog 33 #[.pointer (some ⟨R, 0, none⟩)] w fun e w' => e = .returned (.bool true) ∧ w' = w := by
  have he := fun w => eqp_same w ⟨R, 0, none⟩
  go_enter Try.func33, Try.ntmps33
  go_wp2_with fail
  go_ret
  exact ⟨rfl, rfl⟩
/-- One that New did not give. -/
def NotGiven (p : Option Addr) (w : World) : Prop := p = none ∨ ∃ Z, p = some ⟨Z, 0, none⟩ ∧ w.cell? ⟨Z, 0, none⟩ = some (.pointer none)
theorem NotGiven.later {p : Option Addr} {w w' : World} (h : NotGiven p w) (hb : Below w.heap.size w w') : NotGiven p w' := by
  rcases h with h | ⟨Z, h, hc⟩
  · exact .inl h
  · exact .inr ⟨Z, h, cell_later hb hc⟩
set_option maxHeartbeats 1000000 in
set_option maxRecDepth 100000 in
theorem given_no {p : Option Addr} {w : World} (h : NotGiven p w) : Calls Try.prog 33 #[.pointer p] w fun e w' => e = .returned (.bool false) ∧ w' = w := by
  rcases h with rfl | ⟨Z, rfl, hc⟩
  · go_enter Try.func33, Try.ntmps33
    go_wp2_with fail
    go_ret
    exact ⟨rfl, rfl⟩
  · have he := fun w => eqp_nil w ⟨Z, 0, none⟩
    go_enter Try.func33, Try.ntmps33
    go_wp2_with fail
    go_ret
    exact ⟨rfl, rfl⟩
/-- A box of an item beside the index. -/
structure Hx (R : Nat) (n : Int) (Bs : List Bkm) (v : Value) (t : It) (w u : World) : Prop where
  s : St R n Bs v u
  x : Bx t w.heap.size u
  l : Below w.heap.size w u
theorem Hx.later {R : Nat} {n : Int} {Bs : List Bkm} {v : Value} {t : It} {w u u' : World} (h : Hx R n Bs v t w u) (hb : Below u.heap.size u u') : Hx R n Bs v t w u' := ⟨h.s.later hb (Nat.le_refl _), h.x.later hb h.x.lt, h.l.trans (hb.mono h.l.size)⟩
theorem Hx.new {R : Nat} {n : Int} {Bs : List Bkm} {v : Value} {w : World} (h : St R n Bs v w) (t : It) : Hx R n Bs v t w (w.alloc (.cells #[.string (S t.k), .int .i64 t.s, .int .i64 t.e, .int .i64 t.id] 31)) := ⟨h.later (below_alloc _ _) (Nat.le_refl _), Bx.new w t 31, below_alloc _ _⟩
theorem Hx.ob {R : Nat} {n : Int} {Bs : List Bkm} {v : Value} {t : It} {w u : World} (h : Hx R n Bs v t w u) : u.cell? ⟨R, 2, none⟩ = some v ∧ u.cell? ⟨w.heap.size, 0, none⟩ = some (.string (S t.k)) ∧ u.cell? ⟨w.heap.size, 1, none⟩ = some (.int .i64 t.s) ∧ u.cell? ⟨w.heap.size, 2, none⟩ = some (.int .i64 t.e) ∧ u.cell? ⟨w.heap.size, 3, none⟩ = some (.int .i64 t.id) := ⟨h.s.c2, h.x.c0, h.x.c1, h.x.c2, h.x.c3⟩
theorem St.all {R : Nat} {n : Int} {Bs : List Bkm} {v : Value} {w : World} (h : St R n Bs v w) (hl : (its Bs).length ≤ 999) : (∀ b, b ∈ Bs → ItemsAt b.xs b.th w ∧ 1 ≤ b.xs.length ∧ b.xs.length ≤ 1000) ∧ Bs.length ≤ 1000 :=
  ⟨fun b hb => ⟨(h.th b hb).items, h.one b hb, by have := mem_len hb; omega⟩, by have := len_le h.one; omega⟩
/-- What holder comes to. -/
def HolP (Bs : List Bkm) (k : List UInt8) (s : Int) (w : World) (e : Ending) (w' : World) : Prop := ∃ q : Nat, e = .returned (.int .i64 q) ∧ Hol Bs k s q ∧ Below w.heap.size w w'
set_option maxHeartbeats 2000000 in
set_option maxRecDepth 100000 in
theorem holder_any {R : Nat} {n : Int} {Bs : List Bkm} {v : Value} {w : World} (h : St R n Bs v w) (hu : Up (its Bs)) (hl : (its Bs).length ≤ 999) (t : It) :
    Calls Try.prog 45 #[.pointer (some ⟨R, 1, none⟩), .agg #[.string (S t.k), .int .i64 t.s, .int .i64 t.e, .int .i64 t.id]] w fun e w' => HolP Bs t.k t.s w e w' := by
  have T0 := hide ((Hx.new h t).later (Below.refl _ _).drew)
  have CS := hide (show ∀ u : World, St R n Bs v u → Calls Try.prog 60 #[v, .agg #[.string (S t.k), .int .i64 t.s, .int .i64 t.e, .int .i64 t.id], .func (.func 59) #[] #[]] u fun e w' => SrP (Bs.map b0) t.k t.s u e w' from fun u hs => sb_any t hs.row.blocks (hs.all hl).1 (hs.all hl).2 (up_b0 hu hs.one))
  have HH := hide (show ∀ r f, SrI (Bs.map b0) t.k t.s r f → Hol Bs t.k t.s (if f = true then r else r - 1) ∧ r ≤ 1000 from fun r f hs => ⟨hol_of hu h.one hs, by have h1 := hs.le; have h2 := (h.all hl).2; rw [List.length_map] at h1; omega⟩)
  clear h hu hl
  go_enter Try.func45, Try.ntmps45
  go_wp2_with fail
  refine wp_region_held_drew (S := fun u => u.cell? ⟨R, 2, none⟩ = some v ∧ u.cell? ⟨w.heap.size, 0, none⟩ = some (.string (S t.k)) ∧ u.cell? ⟨w.heap.size, 1, none⟩ = some (.int .i64 t.s) ∧ u.cell? ⟨w.heap.size, 2, none⟩ = some (.int .i64 t.e) ∧ u.cell? ⟨w.heap.size, 3, none⟩ = some (.int .i64 t.id)) (by kernel_rfl) T0.out.ob (fun hHeld => ?_)
  obtain ⟨wd, hwd⟩ : ∃ wd, wd = (w.alloc (.cells #[.string (S t.k), .int .i64 t.s, .int .i64 t.e, .int .i64 t.id] 31)).drew := ⟨_, rfl⟩
  rw [← hwd] at T0 hHeld ⊢
  clear hwd
  refine Man.t1 0 hHeld ?_
  (try simp only [Act.put, Mqa, Mqb, Mqc])
  refine Man.t1 1 hHeld ?_
  (try simp only [Act.put, Mqa, Mqb, Mqc])
  refine Man.t1 2 hHeld ?_
  (try simp only [Act.put, Mqa, Mqb, Mqc])
  refine Man.t1 3 hHeld ?_
  (try simp only [Act.put, Mqa, Mqb, Mqc])
  refine Man.t1 4 hHeld ?_
  (try simp only [Act.put, Mqa, Mqb, Mqc])
  refine Man.t1 5 hHeld ?_
  (try simp only [Act.put, Mqa, Mqb, Mqc])
  refine Man.one (i := 6) rfl (by kernel_rfl) (fun K9 hK => ?_)
  go_simp
  with_reducible refine (CS.out _ T0.out.s).mono ?_
  rintro e w1 ⟨r, f, rfl, hs, hb⟩
  have T1 := hide (T0.out.later hb)
  obtain ⟨hh, hr⟩ := HH.out r f hs
  have HQ := hide hh
  clear hb hs hh CS HH T0
  refine hK.out _ _ T1.out.ob (fun hNew => ?_)
  clear hK K9 hHeld
  have hHeld := hNew
  clear hNew
  (try simp only [Act.put, Mqa, Mqb, Mqc])
  refine Man.t1 7 hHeld ?_
  (try simp only [Act.put, Mqa, Mqb, Mqc])
  refine Man.t1 8 hHeld ?_
  (try simp only [Act.put, Mqa, Mqb, Mqc])
  refine Man.t1 9 hHeld ?_
  (try simp only [Act.put, Mqa, Mqb, Mqc])
  refine Man.t1 10 hHeld ?_
  (try simp only [Act.put, Mqa, Mqb, Mqc])
  refine Man.t1 11 hHeld ?_
  (try simp only [Act.put, Mqa, Mqb, Mqc])
  refine wpAnyH_done (by kernel_rfl) ?_ _
  cases f with
  | true =>
    go_wp2_with fail
    go_ret
    exact ⟨r, rfl, HQ.out, T1.out.l⟩
  | false =>
    rcases Nat.eq_zero_or_pos r with e0 | hp
    · subst e0
      have hw : IntKind.i64.wrap ((0 : Nat) : Int) = 0 := by rw [IntKind.wrap_i64]; omega
      go_wp2_with fail
      go_ret
      exact ⟨0, rfl, HQ.out, T1.out.l⟩
    · obtain ⟨q, hq⟩ : ∃ q, q = r - 1 := ⟨_, rfl⟩
      have e1 : (r : Int) - 1 = (q : Int) := by omega
      have e2 : IntKind.i64.wrap (q : Int) = (q : Int) := by rw [IntKind.wrap_i64]; omega
      have e3 : max (q : Int) 0 = (q : Int) := by omega
      have HQ2 := hide (show Hol Bs t.k t.s q from by rw [hq]; exact HQ.out)
      clear hq HQ
      go_wp2_with fail
      go_ret
      exact ⟨q, rfl, HQ2.out, T1.out.l⟩
/-- Where a key and a start have their place. -/
structure PlI (Bs : List Bkm) (k : List UInt8) (s : Int) (q i : Nat) : Prop where
  hol : Hol Bs k s q
  hq : q < Bs.length
  hi : i ≤ Bs[q].xs.length
  hp : pl (its Bs) k s = cnt Bs q + i
  hy : isAt (its Bs) k s = true → i < Bs[q].xs.length
/-- What find comes to. -/
def FinP (Bs : List Bkm) (k : List UInt8) (s : Int) (w : World) (e : Ending) (w' : World) : Prop := ∃ q i : Nat, e = .returned (.tuple #[.agg #[.int .i64 q, .int .i64 i], .bool (isAt (its Bs) k s)]) ∧ (Bs ≠ [] → PlI Bs k s q i) ∧ (Bs = [] → q = 0 ∧ i = 0) ∧ Below w.heap.size w w'
/-- find's boxes. -/
structure Fx (R : Nat) (n : Int) (Bs : List Bkm) (v : Value) (t : It) (w u : World) : Prop where
  s : St R n Bs v u
  x : Bx t w.heap.size u
  p : B2 (.int .i64 0) (.int .i64 0) (w.heap.size + 1) u
  l : Below w.heap.size w u
theorem Fx.later {R : Nat} {n : Int} {Bs : List Bkm} {v : Value} {t : It} {w u u' : World} (h : Fx R n Bs v t w u) (hb : Below u.heap.size u u') : Fx R n Bs v t w u' := ⟨h.s.later hb (Nat.le_refl _), h.x.later hb h.x.lt, h.p.later hb, h.l.trans (hb.mono h.l.size)⟩
theorem Fx.new {R : Nat} {n : Int} {Bs : List Bkm} {v : Value} {w : World} (h : St R n Bs v w) (t : It) : Fx R n Bs v t w ((w.alloc (.cells #[.string (S t.k), .int .i64 t.s, .int .i64 t.e, .int .i64 t.id] 31)).alloc (.cells #[.int .i64 0, .int .i64 0] 74)) := by
  have h1 := below_alloc w (.cells #[.string (S t.k), .int .i64 t.s, .int .i64 t.e, .int .i64 t.id] 31)
  have h2 := below_alloc (w.alloc (.cells #[.string (S t.k), .int .i64 t.s, .int .i64 t.e, .int .i64 t.id] 31)) (.cells #[.int .i64 0, .int .i64 0] 74)
  have h3 := h1.trans (h2.mono h1.size)
  exact ⟨h.later h3 (Nat.le_refl _), (Bx.new w t 31).later h2 (by simp), B2.new _ _ _ 74 (by simp), h3⟩
theorem Fx.fin {R : Nat} {n : Int} {Bs : List Bkm} {v : Value} {t : It} {w u : World} (h : Fx R n Bs v t w u) (a b : Value) : B2 a b (w.heap.size + 1) ((u.setCell ⟨w.heap.size + 1, 0, none⟩ a).setCell ⟨w.heap.size + 1, 1, none⟩ b) ∧ Below w.heap.size w ((u.setCell ⟨w.heap.size + 1, 0, none⟩ a).setCell ⟨w.heap.size + 1, 1, none⟩ b) :=
  ⟨(h.p.set0 a).set1 b, (h.l.setCell (p := ⟨w.heap.size + 1, 0, none⟩) (Nat.le_succ _) _).setCell (p := ⟨w.heap.size + 1, 1, none⟩) (Nat.le_succ _) _⟩
set_option maxHeartbeats 4000000 in
set_option maxRecDepth 100000 in
theorem find_any {R : Nat} {n : Int} {Bs : List Bkm} {v : Value} {w : World} (h : St R n Bs v w) (hu : Up (its Bs)) (hl : (its Bs).length ≤ 999) (t : It) :
    Calls Try.prog 34 #[.pointer (some ⟨R, 1, none⟩), .agg #[.string (S t.k), .int .i64 t.s, .int .i64 t.e, .int .i64 t.id]] w fun e w' => FinP Bs t.k t.s w e w' := by
  have T0 := hide (Fx.new h t)
  have CH := hide (show ∀ u : World, St R n Bs v u → Calls Try.prog 45 #[.pointer (some ⟨R, 1, none⟩), .agg #[.string (S t.k), .int .i64 t.s, .int .i64 t.e, .int .i64 t.id]] u fun e w' => HolP Bs t.k t.s u e w' from fun u hs => holder_any hs hu hl t)
  have HU := hide hu
  have HL := hide hl
  have c2 := T0.out.s.c2
  obtain ⟨x0, x1, x2, x3, _⟩ := T0.out.x
  have z0 := T0.out.p.z0
  have z1 := T0.out.p.z1
  obtain ⟨p0, p1, _, _, _⟩ := T0.out.p
  by_cases hne : Bs = []
  · have HE := hide hne
    obtain ⟨ao, cap, hv, _, _⟩ := h.row.form
    rw [hne] at hv
    simp only [List.length_nil] at hv
    have HF := hide (show isAt (its Bs) t.k t.s = false from by rw [hne]; rfl)
    have HFI := hide (T0.out.fin (.int .i64 0) (.int .i64 0))
    subst hv
    clear h hu hl hne CH HU HL
    go_enter Try.func34, Try.ntmps34
    go_wp2_with fail
    first
      | (refine bodyPost_ret (results_cell_tmp rfl _ _ rfl (load_pla T0.out.p)) rfl ?_
         exact ⟨0, 0, by rw [HF.out]; rfl, fun h9 => absurd HE.out h9, fun _ => ⟨rfl, rfl⟩, T0.out.l⟩)
      | (refine bodyPost_ret (results_cell_tmp rfl _ _ rfl (load_pla HFI.out.1)) rfl ?_
         exact ⟨0, 0, by rw [HF.out]; rfl, fun h9 => absurd HE.out h9, fun _ => ⟨rfl, rfl⟩, HFI.out.2⟩)
  · obtain ⟨g, c, hv, hmc, hc63, _, _⟩ := h.row.held (List.length_pos_iff.2 hne)
    subst hv
    obtain ⟨m, hm⟩ : ∃ m, m = Bs.length := ⟨_, rfl⟩
    have HM := hide hm
    have hm0 : m ≠ 0 := by rw [hm]; have := List.length_pos_iff.2 hne; omega
    have f0 : ((m : Int) == 0) = false := by rw [beq_eq_false_iff_ne]; omega
    have f1 : ¬ m = 0 := hm0
    rw [← hm] at c2 T0 CH
    have HNE := hide hne
    have HONE := hide h.one
    clear h hu hl hne hm
    go_enter Try.func34, Try.ntmps34
    go_wp2_with fail
    refine (CH.out _ T0.out.s).mono ?_
    rintro e w1 ⟨q, rfl, hh, hb⟩
    have T1 := hide ((T0.out.later hb).later (Below.refl _ _).drew)
    have HH := hide hh
    have hqm : q < m := by rw [HM.out]; exact hh.n HNE.out
    have g1 : (q : Int) < (m : Int) := by omega
    have hqb : q < Bs.length := by rw [← HM.out]; exact hqm
    have HQ := hide hqb
    have HIU := hide (show Up (Bs[q]).xs from (up_its HU.out).1 _ (List.getElem_mem hqb))
    have HBL := hide (show (Bs[q]).xs.length ≤ 1000 from by have := mem_len (List.getElem_mem hqb); have := HL.out; omega)
    have HFO := hide (show ∀ i f, SrI Bs[q].xs t.k t.s i f → PlI Bs t.k t.s q i ∧ isAt (its Bs) t.k t.s = f from fun i f hs => ⟨⟨hh, hqb, hs.le, (find_of hh hqb hs).1, fun h9 => by rw [(find_of hh hqb hs).2] at h9; exact (hs.yes h9).1⟩, (find_of hh hqb hs).2⟩)
    have HCI := hide (show ∀ u : World, Fx R n Bs (.slice (some ⟨g, 0, none⟩) m c) t w u → ItemsAt (Bs[q]).xs (.slice (Bs[q]).ao (Bs[q]).xs.length (Bs[q]).cap) u ∧ u.cell? ⟨g, q * 2, none⟩ = some (.slice (Bs[q]).ao (Bs[q]).xs.length (Bs[q]).cap) from fun u hu => by
      refine ⟨(hu.s.th _ (List.getElem_mem hqb)).items, ?_⟩
      obtain ⟨b1, off, cap, he, _, k0, _⟩ := hu.s.row.blocks.at q hqb
      have h0 := hu.s.row
      obtain ⟨g', c', he2, _⟩ := h0.held (by omega)
      rw [he2] at he
      simp only [Value.slice.injEq, Option.some.injEq, Addr.mk.injEq, and_true] at he he2
      obtain ⟨⟨rfl, rfl⟩, _⟩ := he
      obtain ⟨rfl, _⟩ := he2
      rw [Nat.zero_add] at k0
      exact k0)
    obtain ⟨b, hbd⟩ : ∃ b, b = Bs[q] := ⟨_, rfl⟩
    rw [← hbd] at HIU HBL HFO HCI
    clear hbd hb hh CH c2 x0 x1 x2 x3 z0 z1 p0 p1 hqb
    go_wp2_with fail
    refine wp_region_held_drew (S := fun u => u.cell? ⟨R, 2, none⟩ = some (.slice (some ⟨g, 0, none⟩) m c) ∧ u.cell? ⟨g, q * 2, none⟩ = some (.slice b.ao b.xs.length b.cap) ∧ u.cell? ⟨w.heap.size, 0, none⟩ = some (.string (S t.k)) ∧ u.cell? ⟨w.heap.size, 1, none⟩ = some (.int .i64 t.s) ∧ u.cell? ⟨w.heap.size, 2, none⟩ = some (.int .i64 t.e) ∧ u.cell? ⟨w.heap.size, 3, none⟩ = some (.int .i64 t.id)) (by kernel_rfl) ⟨T1.out.s.c2, (HCI.out _ T1.out).2, T1.out.x.c0, T1.out.x.c1, T1.out.x.c2, T1.out.x.c3⟩ (fun hHeld => ?_)
    obtain ⟨wd, hwd⟩ : ∃ wd, wd = w1.drew := ⟨_, rfl⟩
    rw [← hwd] at T1 hHeld ⊢
    clear hwd
    refine Man.t1 0 hHeld ?_
    (try simp only [Act.put, Mqa, Mqb, Mqc])
    refine Man.t1 1 hHeld ?_
    (try simp only [Act.put, Mqa, Mqb, Mqc])
    refine Man.t1 2 hHeld ?_
    (try simp only [Act.put, Mqa, Mqb, Mqc])
    refine Man.t1 3 hHeld ?_
    (try simp only [Act.put, Mqa, Mqb, Mqc])
    refine Man.t1 4 hHeld ?_
    (try simp only [Act.put, Mqa, Mqb, Mqc])
    refine Man.t1 5 hHeld ?_
    (try simp only [Act.put, Mqa, Mqb, Mqc])
    refine Man.t1 6 hHeld ?_
    (try simp only [Act.put, Mqa, Mqb, Mqc])
    refine Man.t1 7 hHeld ?_
    (try simp only [Act.put, Mqa, Mqb, Mqc])
    refine Man.t1 8 hHeld ?_
    (try simp only [Act.put, Mqa, Mqb, Mqc])
    refine Man.t1 9 hHeld ?_
    (try simp only [Act.put, Mqa, Mqb, Mqc])
    refine Man.one (i := 10) rfl (by kernel_rfl) (fun K9 hK => ?_)
    go_simp
    with_reducible refine (si_any t (HCI.out _ T1.out).1 HBL.out HIU.out).mono ?_
    rintro e w2 ⟨i, f, rfl, hs, hb⟩
    have T2 := hide (T1.out.later hb)
    obtain ⟨hpl, hat⟩ := HFO.out i f hs
    have HPL := hide hpl
    have HAT := hide hat
    clear hb hs hpl hat HFO T1
    refine hK.out _ _ ⟨T2.out.s.c2, (HCI.out _ T2.out).2, T2.out.x.c0, T2.out.x.c1, T2.out.x.c2, T2.out.x.c3⟩ (fun hNew => ?_)
    clear hK K9 hHeld
    have hHeld := hNew
    clear hNew
    (try simp only [Act.put, Mqa, Mqb, Mqc])
    refine Man.t1 11 hHeld ?_
    (try simp only [Act.put, Mqa, Mqb, Mqc])
    refine Man.t1 12 hHeld ?_
    (try simp only [Act.put, Mqa, Mqb, Mqc])
    refine Man.t1 13 hHeld ?_
    (try simp only [Act.put, Mqa, Mqb, Mqc])
    refine Man.t1 14 hHeld ?_
    (try simp only [Act.put, Mqa, Mqb, Mqc])
    refine Man.t1 15 hHeld ?_
    (try simp only [Act.put, Mqa, Mqb, Mqc])
    refine wpAnyH_done (by kernel_rfl) ?_ _
    have HFI := hide (T2.out.fin (.int .i64 q) (.int .i64 i))
    obtain ⟨p0, p1, z0, z1, _⟩ := T2.out.p
    go_wp2_with fail
    refine bodyPost_ret (results_cell_tmp rfl _ _ rfl (load_pla HFI.out.1)) rfl ?_
    exact ⟨q, i, by rw [HAT.out]; rfl, fun _ => HPL.out, fun h9 => absurd h9 HNE.out, HFI.out.2⟩
end Idx
end Go.Proofs.Ytapdhelioecneaa
