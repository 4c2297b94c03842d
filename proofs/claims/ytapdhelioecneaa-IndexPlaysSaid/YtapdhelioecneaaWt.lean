/- within. Condition: less than a thousand items. -/
import Derived.Test.YtapdhelioecneaaWs
namespace Go.Proofs.Ytapdhelioecneaa
open Go.RowKit
attribute [local go_sem] Oper.semAt_some
namespace Idx
theorem row4_more {t e ty : TypeId} {base : Nat} {l m : List It} {v v' : Value} {w : World} (hT : Ty4 t e) (h : Row4 e base l v w) (hm : ItemsAt m v' w) (h1 : m ≠ []) (hn : l.length + m.length ≤ 1000000) (hb : base ≤ w.heap.size) :
    ∃ u w', (Builtin.append_ #[t, t] ty #[v, v']).run Try.prog w = .ok u w' ∧ Row4 e base (l ++ m) u w' ∧ w.grownBy w' v.ownBlock := by
  obtain ⟨i0, hi0, hz0, hz2, hz3⟩ := info_parts hT.i
  have hm0 := hm
  obtain ⟨ao, cap, rfl, hc, hcm, h2⟩ := hm
  cases ao with
  | none =>
    rcases h2 with ⟨e, _⟩ | ⟨b, off, e, _⟩
    · exact absurd e h1
    · cases e
  | some ad =>
    obtain ⟨u, w', hr, hown, hgr, _, hob⟩ := run_append_own_at (P := Try.prog) (w := w) base t ty e i0 (.agg #[.string ⟨#[]⟩, .int .i64 0, .int .i64 0, .int .i64 0]) 4 40 hT.u hi0 hz0 hz2 hz3 rfl (by decide) v l.length (flat l) h ad m.length cap (flat m) (flat_len m) (ItemsAt.cells hm0) (flat_one m) (by unfold maxLen; omega) (by omega) hb
    refine ⟨u, w', hr, ?_, hgr⟩
    unfold Row4
    rw [List.length_append, flat_app]
    exact hown
theorem oper_more {t e : TypeId} {base : Nat} {l m : List It} {v v' : Value} {w : World} (hT : Ty4 t e) {o : Oper} {a : Act} {K : Act → World → Prop} {Qx : Exit → Act → World → Prop} (s y : Operand)
    (ho : o.op = .call { callee := .builtin .append, args := #[s, y], argTypes := #[t, t] }) (hs : a.eval s = v) (hx : a.eval y = v')
    (h : Row4 e base l v w) (hm : ItemsAt m v' w) (h1 : m ≠ []) (hn : l.length + m.length ≤ 1000000) (hb : base ≤ w.heap.size)
    (hK : ∀ u w', Row4 e base (l ++ m) u w' → w.grownBy w' v.ownBlock → K (a.put o.dst u) w') : Oper.wp Try.prog o a w K Qx := by
  obtain ⟨u, w', hr, hp, hg⟩ := row4_more (ty := o.type) hT h hm h1 hn hb
  unfold Oper.wp execOp
  simp only [ho, resolve, invoke, builtin, Sem.run_bind, Sem.run_pure, Result.andThen_ok, List.map_toArray, List.map_cons, List.map_nil, hs, hx, hr]
  exact hK u w' hp hg
theorem items_cell {l : List It} {g off n cap : Nat} {w : World} (h : ItemsAt l (.slice (some ⟨g, off, none⟩) n cap) w) (i : Nat) (hi : i < l.length) : w.cell? ⟨g, off + i * 4, none⟩ = some (.string (S (l[i]).k)) ∧ w.cell? ⟨g, off + i * 4 + 1, none⟩ = some (.int .i64 (l[i]).s) ∧ w.cell? ⟨g, off + i * 4 + 2, none⟩ = some (.int .i64 (l[i]).e) ∧ w.cell? ⟨g, off + i * 4 + 3, none⟩ = some (.int .i64 (l[i]).id) ∧ g < w.heap.size := by
  obtain ⟨g9, off9, c9, he, hb, k0, k1, k2, k3⟩ := h.at i hi
  simp only [Value.slice.injEq, Option.some.injEq, Addr.mk.injEq, and_true] at he
  obtain ⟨⟨rfl, rfl⟩, rfl, rfl⟩ := he
  exact ⟨k0, k1, k2, k3, hb⟩
/-- What a round over an item keeps to. -/
structure LY (b : Nat) (lo hi : List UInt8) (f t : Int) (L : List It) (ov : Value) (y : It) (ib : Nat) (Wc : World) (u : World) : Prop where
  x : LX b lo hi f t L u
  c : u.cell? ⟨b + 4, 0, none⟩ = some ov
  r : Row4 31 (b + 5) L ov u
  y : Bx y ib u
  k : KeepsOthers Wc u
  l : Below b Wc u
  nib : ov.ownBlock ≠ some ib
theorem LY.later {b : Nat} {lo hi : List UInt8} {f t : Int} {L : List It} {ov : Value} {y : It} {ib : Nat} {Wc u u' : World} (h : LY b lo hi f t L ov y ib Wc u) (hb : Below u.heap.size u u') : LY b lo hi f t L ov y ib Wc u' :=
  ⟨h.x.later hb, cell_later hb h.c, h.r.later hb (Nat.le_refl _), h.y.later hb h.y.lt, h.k.trans (keeps_below hb), h.l.trans (hb.mono (by have := h.x.lt; omega)), h.nib⟩
theorem LY.ob {b : Nat} {lo hi : List UInt8} {f t : Int} {L : List It} {ov : Value} {y : It} {ib : Nat} {Wc u : World} (h : LY b lo hi f t L ov y ib Wc u) : u.cell? ⟨b + 4, 0, none⟩ = some ov ∧ u.cell? ⟨ib, 0, none⟩ = some (.string (S y.k)) ∧ u.cell? ⟨ib, 1, none⟩ = some (.int .i64 y.s) ∧ u.cell? ⟨ib, 2, none⟩ = some (.int .i64 y.e) ∧ u.cell? ⟨ib, 3, none⟩ = some (.int .i64 y.id) := ⟨h.c, h.y.c0, h.y.c1, h.y.c2, h.y.c3⟩
/-! ### the iterator over members -/
def JP {Bs : List Bkm} (J : List {b // b ∈ Bs} → World → Prop) (pre : List Bkm) (W : World) : Prop := ∃ p : List {b // b ∈ Bs}, p.map (·.1) = pre ∧ J p W
theorem from_members {R f : Nat} {n₀ : Nat} {wn : Int} {Bs : List Bkm} {v : Value} {w0 w : World} (h : St R wn Bs v w0) (hb0 : Below w0.heap.size w0 w) (hn : n₀ = w0.heap.size) (n : Nat) (h1 : 1 ≤ n) (B1 B2 : Nat) (hB1 : w.cell? ⟨B1, 0, none⟩ = some (.pointer (some ⟨R, 1, none⟩))) (hB2 : w.cell? ⟨B2, 0, none⟩ = some (.int .i64 f)) (hf : f < Bs.length ∨ (Bs = [] ∧ f = 0)) (hl : Bs.length ≤ 1000) :
    SeqStopsK Fence.wide n Try.prog 58 #[.pointer (some ⟨B1, 0, none⟩), .pointer (some ⟨B2, 0, none⟩)] (fun x : {b // b ∈ Bs} => encB x.1) (Below n₀) (fun ys => ys.map (·.1) = Bs.drop f) (fun pre => pre.map (·.1) <+: Bs.drop f) (Bs.drop f).length w := fun l J Jx W hW hJ hJx hY h0 => by
  have hb1 := cell_later hW hB1
  have hb2 := cell_later hW hB2
  have hbw : Below w0.heap.size w0 W := hb0.trans (hW.mono hb0.size)
  have hc2 := cell_later hbw h.c2
  obtain ⟨ao, cap, hv, _, _⟩ := h.row.form
  rw [hv] at hc2
  have hA := h.row.blocks.later hbw (Nat.le_refl _)
  rw [hv] at hA
  have hJ2 : AbidesFrom W.heap.size (JP J) := fun s A B row ⟨p, e, hj⟩ hg hr => ⟨p, e, hJ p A B row hj hg hr⟩
  have hend : ∀ e W', ((∃ v, e = Ending.returned v) ∧ ((∃ ys, ys = Bs.drop f ∧ JP J ys W') ∨ (∃ pre, pre <+: Bs.drop f ∧ JP Jx pre W'))) → (∃ v, e = Ending.returned v) ∧ ((∃ xs : List {b // b ∈ Bs}, xs.map (·.1) = Bs.drop f ∧ J xs W') ∨ (∃ pre : List {b // b ∈ Bs}, pre.map (·.1) <+: Bs.drop f ∧ Jx pre W')) := by
    rintro e W' ⟨h9, ⟨ys, rfl, p, e2, hj⟩ | ⟨pre, hp, p, rfl, hj⟩⟩
    · exact ⟨h9, .inl ⟨p, e2, hj⟩⟩
    · exact ⟨h9, .inr ⟨p, hp, hj⟩⟩
  rcases hf with hf | ⟨rfl, rfl⟩
  · refine (from1_in n h1 l B1 B2 n₀ R f Bs ao cap (JP J) (JP Jx) (fun pre x W9 h9 hp => ?_) W hJ2 hb1 hb2 hc2 hA (fun p hp => ?_) (by rw [hn]; exact hbw.size) hf hl ⟨[], rfl, h0⟩).mono hend
    · obtain ⟨p, rfl, hj⟩ := h9
      have hx : x ∈ Bs := List.mem_of_mem_drop (hp.subset (List.mem_append.2 (.inr (List.mem_singleton.2 rfl))))
      refine (hY p ⟨x, hx⟩ W9 hj (by have h8 := hp.length_le; rw [List.length_append, List.length_singleton, List.length_map] at h8; exact h8)).mono (fun e w9 h9 => ?_)
      rcases h9 with ⟨e1, e2, e3⟩ | ⟨e1, e2⟩
      · exact .inl ⟨e1, ⟨_, by rw [List.map_append]; rfl, e2⟩, e3⟩
      · exact .inr ⟨e1, ⟨_, by rw [List.map_append]; rfl, e2⟩⟩
    · rw [hn]
      refine (h.row.lt p.block ?_).2
      rw [hv, hp]; rfl
  · simp only [List.drop_nil, List.length_nil] at hc2 hend ⊢
    refine (from1_nil n l B1 B2 R ao cap (JP J) (JP Jx) W hJ2 hb1 hb2 hc2 ?_ ⟨[], rfl, h0⟩).mono hend
    rcases h.row.2 with ⟨h9, _⟩ | ⟨g, c9, cur, h9, _⟩
    · rw [hv] at h9; simp only [Value.slice.injEq] at h9; exact .inl h9.1
    · rw [hv] at h9; simp only [Value.slice.injEq] at h9; exact .inr ⟨g, h9.1⟩
/-- The boxes of a question, at its beginning. -/
theorem LX.new (w : World) (lo hi : List UInt8) (f t : Int) : LX w.heap.size lo hi f t [] (((((w.alloc (.cells #[.string (S lo)] 9)).alloc (.cells #[.string (S hi)] 9)).alloc (.cells #[.int .i64 f] 3)).alloc (.cells #[.int .i64 t] 3)).alloc (.cells #[.slice none 0 0] 42)) := by
  have e1 := Boxed.new w 9 (.string (S lo))
  have e2 := Boxed.new (w.alloc (.cells #[.string (S lo)] 9)) 9 (.string (S hi))
  have e3 := Boxed.new ((w.alloc (.cells #[.string (S lo)] 9)).alloc (.cells #[.string (S hi)] 9)) 3 (.int .i64 f)
  have e4 := Boxed.new (((w.alloc (.cells #[.string (S lo)] 9)).alloc (.cells #[.string (S hi)] 9)).alloc (.cells #[.int .i64 f] 3)) 3 (.int .i64 t)
  have e5 := Boxed.new ((((w.alloc (.cells #[.string (S lo)] 9)).alloc (.cells #[.string (S hi)] 9)).alloc (.cells #[.int .i64 f] 3)).alloc (.cells #[.int .i64 t] 3)) 42 (.slice none 0 0)
  simp only [World.size_alloc] at e2 e3 e4 e5
  exact ⟨⟨_, e5, World.ownsRow_nil _ _ _ _, trivial⟩, (((e1.alloc _).alloc _).alloc _).alloc _, ((e2.alloc _).alloc _).alloc _, (e3.alloc _).alloc _, e4.alloc _⟩
set_option maxHeartbeats 4000000 in
set_option maxRecDepth 100000 in
theorem within_any {R : Nat} {wn : Int} {Bs : List Bkm} {v : Value} {w : World} (h : St R wn Bs v w) (hu : Up (its Bs)) (hs : ∀ e, e ∈ its Bs → 0 ≤ e.s) (hkb : Kb (its Bs)) (hl : (its Bs).length ≤ 999) (lo hi : List UInt8) (f t : Int) :
    Calls Try.prog 42 #[.pointer (some ⟨R, 0, none⟩), .string (S lo), .string (S hi), .int .i64 f, .int .i64 t] w fun e w' => ∃ u, e = .returned u ∧ Row4 31 (w.heap.size + 5) ((its Bs).filter (wiB lo hi f t)) u w' ∧ Below w.heap.size w w' := by
  obtain ⟨w1, hw1⟩ : ∃ w1, w1 = (((w.alloc (.cells #[.string (S lo)] 9)).alloc (.cells #[.string (S hi)] 9)).alloc (.cells #[.int .i64 f] 3)).alloc (.cells #[.int .i64 t] 3) := ⟨_, rfl⟩
  obtain ⟨w2, hw2⟩ : ∃ w2, w2 = w1.alloc (.cells #[.slice none 0 0] 42) := ⟨_, rfl⟩
  have HX2 := hide (show LX w.heap.size lo hi f t [] w2 from by rw [hw2, hw1]; exact LX.new w lo hi f t)
  have hb1 : Below w.heap.size w w1 := by rw [hw1]; exact ((((Below.refl _ w).alloc (Nat.le_refl _) _).alloc (by simp) _).alloc (by simp; omega) _).alloc (by simp; omega) _
  have hb2 : Below w.heap.size w w2 := by rw [hw2]; exact hb1.alloc hb1.size _
  have HW1 := hide hw1
  have HW2 := hide hw2
  have HB2 := hide hb2
  have CG := hide (given_yes R w1 (cell_later hb1 h.c0))
  have HST := hide h
  have HBL := hide (h.all hl)
  have CH := hide (show ∀ u : World, Below w.heap.size w u → Calls Try.prog 45 #[.pointer (some ⟨R, 1, none⟩), .agg #[.string (S lo), .int .i64 0, .int .i64 0, .int .i64 0]] u fun e w' => HolP Bs lo 0 u e w' from fun u hu9 => holder_any (h.later hu9 (Nat.le_refl _)) hu hl ⟨lo, 0, 0, 0⟩)
  have HU := hide hu
  have HS := hide hs
  have HKB := hide hkb
  have HL := hide hl
  clear h hu hs hkb hl hw1 hw2 hb1 hb2
  refine (callsIn_wide (n := 3)).1 (callsIn_of_wp_marks Try.func42 rfl trivial (wpIn_wide.2 (wp_mono ?_ (fun e a w h => noPanic_of h))) rfl)
  simp only [Try.ntmps42, List.size_toArray, List.length_cons, List.length_nil, Nat.reduceAdd, Nat.reduceSub, Array.replicate_succ, Array.replicate_zero, List.push_toArray, List.append_toArray, List.nil_append, List.cons_append]
  go_wp2_with fail
  rw [← HW1.out]
  refine CG.out.mono ?_
  rintro e w9 ⟨rfl, e9⟩
  obtain rfl : w1 = w9 := e9.symm
  clear e9 CG
  go_wp2_with fail
  rw [← HW2.out]
  have HSA := hide (show w2.drew.cell? ⟨w.heap.size, 0, none⟩ = some (.string (S lo)) from HX2.out.2.1.cell)
  refine wp_region_held_drew (S := fun u => u.cell? ⟨w.heap.size, 0, none⟩ = some (.string (S lo))) (by kernel_rfl) HSA.out (fun hHeld => ?_)
  obtain ⟨wd, hwd⟩ : ∃ wd, wd = w2.drew := ⟨_, rfl⟩
  have TD := hide (show LX w.heap.size lo hi f t [] wd ∧ Below w.heap.size w wd from by rw [hwd]; exact ⟨HX2.out.later (Below.refl _ _).drew, HB2.out.trans ((Below.refl _ _).drew)⟩)
  rw [← hwd] at hHeld ⊢
  clear hwd HSA HX2 HB2
  refine Man.t1 0 hHeld ?_
  (try simp only [Act.put, Mqa, Mqb, Mqc])
  refine Man.t1 1 hHeld ?_
  (try simp only [Act.put, Mqa, Mqb, Mqc])
  refine Man.t1 2 hHeld ?_
  (try simp only [Act.put, Mqa, Mqb, Mqc])
  refine Man.t1 3 hHeld ?_
  (try simp only [Act.put, Mqa, Mqb, Mqc])
  refine Man.t1 4 hHeld ?_
  (try simp only [Act.put, Mqa, Mqb, Mqc])
  refine Man.t1 5 hHeld ?_
  (try simp only [Act.put, Mqa, Mqb, Mqc])
  refine Man.t1 6 hHeld ?_
  (try simp only [Act.put, Mqa, Mqb, Mqc])
  refine Man.t1 7 hHeld ?_
  (try simp only [Act.put, Mqa, Mqb, Mqc])
  refine Man.one (i := 8) rfl (by kernel_rfl) (fun K9 hK => ?_)
  go_simp
  with_reducible refine (CH.out _ TD.out.2).mono ?_
  rintro e w3 ⟨q, rfl, hh, hb⟩
  have T3 := hide (show LX w.heap.size lo hi f t [] w3 ∧ Below w.heap.size w w3 from ⟨TD.out.1.later hb, TD.out.2.trans (hb.mono TD.out.2.size)⟩)
  have HQ := hide hh
  clear hb hh CH TD
  refine hK.out _ _ T3.out.1.2.1.cell (fun hNew => ?_)
  clear hK K9 hHeld
  have hHeld := hNew
  clear hNew
  (try simp only [Act.put, Mqa, Mqb, Mqc])
  refine Man.one (i := 9) rfl (by kernel_rfl) (fun K9 hK => ?_)
  go_simp
  refine (from_any R q _).mono ?_
  rintro e w4 ⟨rfl, hw4⟩
  have hb4 : Below w3.heap.size w3 w4 := by rw [hw4]; exact ((Below.refl _ w3).alloc (Nat.le_refl _) _).alloc (by simp) _
  have T4 := hide (show LX w.heap.size lo hi f t [] w4 ∧ Below w.heap.size w w4 from ⟨T3.out.1.later hb4, T3.out.2.trans (hb4.mono T3.out.2.size)⟩)
  have HW4 := hide hw4
  clear hb4 hw4
  refine hK.out _ _ T4.out.1.2.1.cell (fun hNew => ?_)
  clear hK K9 hHeld
  have hHeld := hNew
  clear hNew
  (try simp only [Act.put, Mqa, Mqb, Mqc])
  refine wpAnyH_done (by kernel_rfl) ?_ _
  go_wp2_with fail
  obtain ⟨z, hz⟩ : ∃ z, z = w4.heap.size := ⟨_, rfl⟩
  have hw1s : w1.heap.size = w.heap.size + 4 := by rw [HW1.out]; simp
  have hz3 : w3.heap.size + 2 = z := by rw [hz, HW4.out]; simp
  have hz5 : w.heap.size + 5 ≤ w3.heap.size := T3.out.1.lt
  have hB1 : w4.cell? ⟨w3.heap.size, 0, none⟩ = some (.pointer (some ⟨R, 1, none⟩)) := by
    rw [HW4.out]
    have e : ((w3.alloc (.cells #[.pointer (some ⟨R, 1, none⟩)] 92)).alloc (.cells #[.int .i64 (q : Int)] 3)).heap[w3.heap.size]? = (w3.alloc (.cells #[.pointer (some ⟨R, 1, none⟩)] 92)).heap[w3.heap.size]? := Below.heap_alloc _ _ _ (by simp)
    rw [World.cell?_of_block (a := ⟨w3.heap.size, 0, none⟩) e, cell_of_row _ _ _ _ _ (0, 0) (heap_alloc_new _ _)]; rfl
  have hB2 : w4.cell? ⟨w3.heap.size + 1, 0, none⟩ = some (.int .i64 (q : Int)) := by
    rw [HW4.out]
    have h9 := heap_alloc_new (w3.alloc (.cells #[.pointer (some ⟨R, 1, none⟩)] 92)) (.cells #[.int .i64 (q : Int)] 3)
    rw [World.size_alloc] at h9
    rw [cell_of_row _ _ _ _ _ (0, 0) h9]; rfl
  have hOwn : OwnFrom z (fun (pre : List {b // b ∈ Bs}) W => LX w.heap.size lo hi f t (sel (wiB lo hi f t) (pre.map (·.1))) W ∧ Below w.heap.size w W ∧ z ≤ W.heap.size) :=
    OwnFrom.and ((LX.own w.heap.size lo hi f t (fun pre : List {b // b ∈ Bs} => sel (wiB lo hi f t) (pre.map (·.1)))).from z) (OwnFrom.and (ownFrom_below (Nat.le_refl _) (by omega)) (fun pre A B row hs hg hr => Nat.le_trans hs hg.size))
  have HOW := hide hOwn
  have HZ := hide hz5
  rw [show w.heap.size + 1 + 1 + 1 = w.heap.size + 3 from rfl, show w.heap.size + 1 + 1 = w.heap.size + 2 from rfl, hw1s]
  have hzw := hz
  clear hHeld HW1 HW2 HW4 T3 hw1s
  refine wpIn_wide.1 (wpIn_rangeFunc_ownH (F := Fence.wide) (n := 3) rfl (by decide) (gf := 58) (lb := #[.pointer (some ⟨w3.heap.size, 0, none⟩), .pointer (some ⟨w3.heap.size + 1, 0, none⟩)]) rfl trivial (enters_of Try.func58 (by kernel_rfl) rfl)
    (from_members HST.out T4.out.2 rfl 2 (by decide) w3.heap.size (w3.heap.size + 1) hB1 hB2 (by rcases Decidable.em (Bs = []) with h9 | h9; exact .inr ⟨h9, by have := HQ.out.z; rw [h9] at this; simpa using this⟩; exact .inl (HQ.out.n h9)) HBL.out.2)
    belowK_t (belowK_b (by omega)) (Below.refl _ _) (fun _ => rfl)
    (fun pre W => LX w.heap.size lo hi f t (sel (wiB lo hi f t) (pre.map (·.1))) W ∧ Below w.heap.size w W ∧ z ≤ W.heap.size)
    (fun c pre W => c = .exit 0 ∧ ∃ p x, pre = p ++ [x] ∧ hi ≠ [] ∧ Op.bytesLess (b0 x.1).k hi = false ∧ LX w.heap.size lo hi f t (sel (wiB lo hi f t) (p.map (·.1))) W ∧ Below w.heap.size w W ∧ z ≤ W.heap.size)
    (by rw [← hz]; exact hOwn)
    (fun c s A B row hs hg hr => by
      obtain ⟨h1, p, x, h2, h3, h4, h5⟩ := hs
      exact ⟨h1, p, x, h2, h3, h4, HOW.out p A B row h5 hg (by rw [hz]; exact hr)⟩)
    ⟨T4.out.1, T4.out.2, by omega⟩
    (fun x a' W => ∃ Bx, z ≤ Bx ∧ W.heap[Bx]? = some (.cells #[.slice x.1.ao x.1.xs.length x.1.cap, .int .i64 (maxE x.1.xs)] 91 (0, 0)) ∧ a' = { tmps := #[.pointer (some ⟨R, 0, none⟩), .string (S lo), .string (S hi), .int .i64 f, .int .i64 t, undef, .pointer (some ⟨w.heap.size, 0, none⟩), .pointer (some ⟨w.heap.size + 1, 0, none⟩), .pointer (some ⟨w.heap.size + 2, 0, none⟩), .pointer (some ⟨w.heap.size + 3, 0, none⟩), .slice none 0 0, .pointer (some ⟨w.heap.size + 4, 0, none⟩), .pointer (some ⟨Bx, 0, none⟩), undef, undef, .pointer (some ⟨R, 0, none⟩), .bool true, .bool false, .pointer (some ⟨R, 0, none⟩), .pointer (some ⟨R, 0, none⟩), .pointer (some ⟨R, 1, none⟩), .pointer (some ⟨R, 0, none⟩), .pointer (some ⟨R, 0, none⟩), .pointer (some ⟨R, 1, none⟩), .string (S lo), .agg #[.string (S lo), .int .i64 0, .int .i64 0, .int .i64 0], .int .i64 q, .func (.func 58) #[] #[.pointer (some ⟨w3.heap.size, 0, none⟩), .pointer (some ⟨w3.heap.size + 1, 0, none⟩)], .agg #[.slice x.1.ao x.1.xs.length x.1.cap, .int .i64 (maxE x.1.xs)], undef, undef, undef, undef, undef, undef, undef, undef, undef, undef, undef, undef, undef, undef, undef, undef, undef, undef, undef, undef, undef, undef, undef, undef, undef, undef, undef, undef, undef, undef, undef, undef, undef, undef, undef, undef, undef, undef, undef, undef, undef, undef, undef, undef, undef], defers := [] })
    (fun x a' s A B row hs hg hr => by
      obtain ⟨Bx, h1, h2, h3⟩ := hs
      exact ⟨Bx, h1, (hg.block Bx (lt_of_block h2) (fun e => by
        obtain ⟨_, o, ho, hc⟩ := hr Bx e.symm
        rw [h2] at ho
        cases ho
        cases hc)).trans h2, h3⟩)
    ?assign ?body ?done ?stop)
  case assign =>
    intro l pre x W K hI hK
    have HK := hide hK
    have HIa := hide hI
    clear hI hK
    unfold encB
    gi_wp2
    exact HK.out _ _ ((KeepsOthers.alloc _ _).from _) ((below_alloc _ _).mono (by have := HIa.out.2.2; omega)) (HOW.out.alloc _ HIa.out) ⟨W.heap.size, HIa.out.2.2, heap_alloc_new W _, rfl⟩
  case body =>
    rintro l pre ⟨x, hxm⟩ a' W hl ⟨r, hr⟩ ⟨hX, hB, hsz⟩ ⟨bk, hBx, hbx, rfl⟩ hlt
    dsimp only at hbx ⊢
    have HX0 := hide hX
    have HB := hide hB
    have HXI := hide (HBL.out.1 x hxm)
    have HPL := hide (show (sel (wiB lo hi f t) (pre.map (·.1))).length ≤ 999000 from by
      have h1 := sel_len (wiB lo hi f t) HL.out pre
      have h2 : pre.length < (Bs.drop q).length := hlt
      rw [List.length_drop] at h2
      have h3 := HBL.out.2
      omega)
    have HXL := hide (show x.xs.length ≤ 999 from Nat.le_trans (mem_len hxm) HL.out)
    have HKX := hide (show ∀ y, y ∈ x.xs → y.k.length ≤ 140737488351232 from fun y hy => HKB.out y (mem_its.2 ⟨x, hxm, hy⟩))
    obtain ⟨A, hA⟩ : ∃ A, A = sel (wiB lo hi f t) (pre.map (·.1)) := ⟨_, rfl⟩
    rw [← hA] at HX0 HPL
    have HFIN := hide (show ∀ (wr : World), LX w.heap.size lo hi f t (A ++ x.xs.filter (wiB lo hi f t)) wr → Below w.heap.size W wr → KeepsOthers W wr → KeepsFrom w4.heap.size W wr ∧ Below w.heap.size W wr ∧ LX w.heap.size lo hi f t (sel (wiB lo hi f t) ((pre ++ [(⟨x, hxm⟩ : {b // b ∈ Bs})]).map (·.1))) wr ∧ Below w.heap.size w wr ∧ z ≤ wr.heap.size from fun wr h1 h2 h3 => by
      refine ⟨h3.from _, h2, ?_, HB.out.trans h2, Nat.le_trans hsz h2.size⟩
      rw [List.map_append, List.map_cons, List.map_nil, sel_snoc, ← hA]; exact h1)
    have HSTP := hide (show ∀ wr : World, hi ≠ [] → Op.bytesLess (b0 x).k hi = false → Below W.heap.size W wr → KeepsFrom w4.heap.size W wr ∧ (∃ (p : List {b // b ∈ Bs}) (y : {b // b ∈ Bs}), pre ++ [(⟨x, hxm⟩ : {b // b ∈ Bs})] = p ++ [y] ∧ hi ≠ [] ∧ Op.bytesLess (b0 y.1).k hi = false ∧ LX w.heap.size lo hi f t (sel (wiB lo hi f t) (p.map (·.1))) wr ∧ Below w.heap.size w wr ∧ z ≤ wr.heap.size) from fun wr h1 h2 h3 =>
      ⟨(keeps_below h3).from _, pre, ⟨x, hxm⟩, rfl, h1, h2, by rw [← hA]; exact HX0.out.later h3, HB.out.trans (h3.mono HB.out.size), Nat.le_trans hsz h3.size⟩)
    obtain ⟨g, off, cap', he, hg, _⟩ := HXI.out.1.at 0 HXI.out.2.1
    have hxa : x.ao = some ⟨g, off, none⟩ := by unfold Bkm.th at he; simp only [Value.slice.injEq] at he; exact he.1
    have HIT := hide (show ItemsAt x.xs (.slice (some ⟨g, off, none⟩) x.xs.length x.cap) w from by have h9 := HXI.out.1; unfold Bkm.th at h9; rw [hxa] at h9; exact h9)
    have hcap : x.xs.length ≤ x.cap := by obtain ⟨_, c9, e9, h9, _⟩ := HIT.out; simp only [Value.slice.injEq, true_and] at e9; omega
    rw [hxa] at hbx ⊢
    have hbx0 : W.cell? ⟨bk, 0, none⟩ = some (.slice (some ⟨g, off, none⟩) x.xs.length x.cap) := by simp [World.cell?, hbx]
    have hbx1 : W.cell? ⟨bk, 1, none⟩ = some (.int .i64 (maxE x.xs)) := by simp [World.cell?, hbx]
    obtain ⟨n, hn⟩ : ∃ n, n = x.xs.length := ⟨_, rfl⟩
    rw [← hn] at hbx0 HIT HXL hcap ⊢
    have HN := hide hn
    have hk0 : W.cell? ⟨g, off, none⟩ = some (.string (S (b0 x).k)) := by
      have h9 := (items_cell (HIT.out.later HB.out (Nat.le_refl _)) 0 HXI.out.2.1).1
      rw [b0_at HXI.out.2.1] at h9; simpa using h9
    obtain ⟨kx, hkx⟩ : ∃ kx, kx = (b0 x).k := ⟨_, rfl⟩
    rw [← hkx] at hk0 HSTP
    have hn1 : 1 ≤ n := by rw [hn]; exact HXI.out.2.1
    have f0 : ¬ n = 0 := by omega
    have f1 : 0 < n := by omega
    have f2 : (0 : Int) < (n : Int) := by omega
    have HS6 := hide (show W.drew.cell? ⟨w.heap.size + 1, 0, none⟩ = some (.string (S hi)) ∧ W.drew.cell? ⟨bk, 0, none⟩ = some (.slice (some ⟨g, off, none⟩) n x.cap) ∧ W.drew.cell? ⟨g, off, none⟩ = some (.string (S kx)) from ⟨HX0.out.2.2.1.cell, hbx0, hk0⟩)
    obtain ⟨cp, hcp⟩ : ∃ cp, cp = x.cap := ⟨_, rfl⟩
    rw [← hcp] at HS6 hcap HIT hbx0 ⊢
    obtain ⟨m, hm⟩ : ∃ m, m = maxE x.xs := ⟨_, rfl⟩
    rw [← hm] at hbx1 ⊢
    have HM := hide hm
    have HD := hide ((Below.refl W.heap.size W).drew)
    have hb10 : W.drew.cell? ⟨bk, 1, none⟩ = some (.int .i64 m) := hbx1
    have hb00 : W.drew.cell? ⟨bk, 0, none⟩ = some (.slice (some ⟨g, off, none⟩) n cp) := hbx0
    have HX1 := hide (HX0.out.later HD.out)
    have hc20 : W.drew.cell? ⟨w.heap.size + 2, 0, none⟩ = some (.int .i64 f) := HX1.out.2.2.2.1.cell
    have HDB := hide (show Below w.heap.size W W.drew from HD.out.mono HB.out.size)
    have HDK := hide (keeps_below HD.out)
    clear hl hr hX hB hsz hbx hBx hlt hA he hg hxa hn hk0 hkx hm hcp hbx0 hbx1 hn1
    gi_wp2_with fail
    by_cases hz0 : hi = []
    · subst hz0
      refine Inr.held (S := fun u => u.cell? ⟨w.heap.size + 1, 0, none⟩ = some (.string (S [])) ∧ u.cell? ⟨bk, 0, none⟩ = some (.slice (some ⟨g, off, none⟩) n cp) ∧ u.cell? ⟨g, off, none⟩ = some (.string (S kx))) (by kernel_rfl) (by kernel_rfl) (fun h9 => h9.elim fun _ h9 => h9.elim fun _ h9 => h9) HS6.out (fun hHeld => ?_)
      obtain ⟨wd, hwd⟩ : ∃ wd, wd = W.drew := ⟨_, rfl⟩
      rw [← hwd] at hHeld hb10 hb00 hc20 HX1 HDB HDK HD ⊢
      clear hwd HS6
      refine Man.t1 0 hHeld ?_
      (try simp only [Act.put, Mqa, Mqb, Mqc])
      refine Man.t1 1 hHeld ?_
      (try simp only [Act.put, Mqa, Mqb, Mqc])
      refine Man.t1 2 hHeld ?_
      (try simp only [Act.put, Mqa, Mqb, Mqc])
      refine Man.take0 (i := 3) rfl (by kernel_rfl) (by kernel_rfl) (by kernel_rfl) (fun _ _ _ h => h) (by rfl) hHeld ?_
      (try simp only [Act.put, Mqa, Mqb, Mqc])
      refine Man.take0 (i := 4) rfl (by kernel_rfl) (by kernel_rfl) (by kernel_rfl) (fun _ _ _ h => h) (by rfl) hHeld ?_
      (try simp only [Act.put, Mqa, Mqb, Mqc])
      refine Man.take0 (i := 5) rfl (by kernel_rfl) (by kernel_rfl) (by kernel_rfl) (fun _ _ _ h => h) (by rfl) hHeld ?_
      (try simp only [Act.put, Mqa, Mqb, Mqc])
      refine Man.take0 (i := 6) rfl (by kernel_rfl) (by kernel_rfl) (by kernel_rfl) (fun _ _ _ h => h) (by rfl) hHeld ?_
      (try simp only [Act.put, Mqa, Mqb, Mqc])
      refine Man.take0 (i := 7) rfl (by kernel_rfl) (by kernel_rfl) (by kernel_rfl) (fun _ _ _ h => h) (by rfl) hHeld ?_
      (try simp only [Act.put, Mqa, Mqb, Mqc])
      refine Man.take0 (i := 8) rfl (by kernel_rfl) (by kernel_rfl) (by kernel_rfl) (fun _ _ _ h => h) (by rfl) hHeld ?_
      (try simp only [Act.put, Mqa, Mqb, Mqc])
      refine Man.take0 (i := 9) rfl (by kernel_rfl) (by kernel_rfl) (by kernel_rfl) (fun _ _ _ h => h) (by rfl) hHeld ?_
      (try simp only [Act.put, Mqa, Mqb, Mqc])
      refine Man.t1 10 hHeld ?_
      (try simp only [Act.put, Mqa, Mqb, Mqc])
      refine wpAnyH_done (by kernel_rfl) ?_ _
      skip
      by_cases hpast : m ≤ f
      · have HE9 := hide (show x.xs.filter (wiB lo [] f t) = [] from within_past lo [] t (by rw [← HM.out]; exact hpast))
        gi_wp2_with fail
        exact HFIN.out _ (by rw [HE9.out, List.append_nil]; exact HX1.out) HDB.out HDK.out
      · gi_wp2_with fail
    
        gi_loopw [47] (fun ii wr => ∃ i : Nat, i ≤ n ∧ ii = .int .i64 i ∧ Hid (LX w.heap.size lo [] f t (A ++ (x.xs.take i).filter (wiB lo [] f t)) wr) ∧ Hid (Below w.heap.size W wr) ∧ Hid (KeepsOthers W wr)) (fun ii _ => n - (intOf ii).toNat)
        case atStart => exact ⟨0, Nat.zero_le _, rfl, hide (by rw [List.take_zero, List.filter_nil, List.append_nil]; exact HX1.out), HDB, HDK⟩
        case round =>
          rename World => wr
          obtain ⟨i, hin, rfl, HLX, HBW, HKO⟩ := hrel
          clear hb10 hb00 hc20 hHeld
          rcases Nat.lt_or_ge i n with hlt | hge
          · have g1 : (i : Int) < (n : Int) := by omega
            have HW := hide (show wrap64 ((i : Int) + 1) = (i : Int) + 1 from by have := HXL.out; unfold wrap64; omega)
            have hil : i < x.xs.length := by rw [← HN.out]; exact hlt
            obtain ⟨k0, k1, k2, k3, hgw⟩ := items_cell (HIT.out.later (HB.out.trans HBW.out) (Nat.le_refl _)) i hil
            have HTK := hide (filter_take hil (wiB lo [] f t))
            have HKY := hide (HKX.out _ (List.getElem_mem hil))
            have HLE := hide (show (A ++ (x.xs.take i).filter (wiB lo [] f t)).length ≤ 999999 from by rw [List.length_append]; have h1 := filter_short x.xs (wiB lo [] f t) i; have h2 := HPL.out; have h3 := HXL.out; have h4 := HN.out; omega)
            obtain ⟨y, hy⟩ : ∃ y, y = x.xs[i] := ⟨_, rfl⟩
            rw [← hy] at k0 k1 k2 k3 HTK HKY
            obtain ⟨M, hM⟩ : ∃ M, M = A ++ (x.xs.take i).filter (wiB lo [] f t) := ⟨_, rfl⟩
            rw [← hM] at HLX HLE
            have HNXT := hide (show A ++ (x.xs.take (i + 1)).filter (wiB lo [] f t) = M ++ (if wiB lo [] f t y = true then [y] else []) from by rw [HTK.out, hM, List.append_assoc])
            have HQA := hide (below_alloc wr (.cells #[.string (S y.k), .int .i64 y.s, .int .i64 y.e, .int .i64 y.id] 31))
            obtain ⟨ov, hov, _, hrow⟩ := HLX.out.row
            have TA := hide (show LY w.heap.size lo [] f t M ov y wr.heap.size W (wr.alloc (.cells #[.string (S y.k), .int .i64 y.s, .int .i64 y.e, .int .i64 y.id] 31)) from
              ⟨HLX.out.later HQA.out, cell_later HQA.out hov, Row4.later (e := 31) (base := w.heap.size + 5) (l := M) hrow HQA.out (Nat.le_refl _), Bx.new wr y 31, HKO.out.trans (keeps_below HQA.out), HBW.out.trans (HQA.out.mono (by have := HLX.out.lt; omega)), fun e9 => by have := (hrow.lt wr.heap.size e9).2; omega⟩)
            have l0 := cell_later HQA.out HLX.out.2.1.cell
            have l1 := cell_later HQA.out HLX.out.2.2.1.cell
            obtain ⟨am, ham⟩ : ∃ am, amongB y.k lo [] = am := ⟨_, rfl⟩
            have HAM := hide ham
            obtain ⟨ib, hib⟩ : ∃ ib, ib = wr.heap.size := ⟨_, rfl⟩
            rw [← hib] at TA
            have HIB := hide hib
            clear hy hM hib ham hrow hov hgw hil HTK
            cases am with
            | false =>
              have HNO := hide (show wiB lo [] f t y = false from by unfold wiB; rw [HAM.out]; rfl)
              gi_wp2_with (refine ⟨trivial, ?_⟩; gi_at_call 56; refine (CallsIn.inRound l (callsIn_wide.2 (of_is HAM.out _))).mono ?_; rintro e w5 ⟨rfl, hb⟩; have T1 := hide (TA.out.later hb); have c2 := T1.out.x.2.2.2.1.cell; have c3 := T1.out.x.2.2.2.2.cell; obtain ⟨m0, m1, m2, m3, _⟩ := T1.out.y; rw [HIB.out] at m0 m1 m2 m3; clear hb)
              go_roundw
              case rel => exact ⟨i + 1, by omega, by rw [HW.out]; rfl, hide (by rw [HNXT.out, HNO.out, if_neg (by simp), List.append_nil]; exact T1.out.x), hide T1.out.l, hide T1.out.k⟩
              case measure => rw [HW.out]; simp only [intOf]; omega
            | true =>
              by_cases h1 : y.s ≤ t
              · by_cases h2 : f < y.e
                · have HYES := hide (show wiB lo [] f t y = true from by unfold wiB; rw [HAM.out, decide_eq_true h1, decide_eq_true h2]; rfl)
                  gi_wp2_with (refine ⟨trivial, ?_⟩; gi_at_call 56; refine (CallsIn.inRound l (callsIn_wide.2 (of_is HAM.out _))).mono ?_; rintro e w5 ⟨rfl, hb⟩; have T1 := hide (TA.out.later hb); have c2 := T1.out.x.2.2.2.1.cell; have c3 := T1.out.x.2.2.2.2.cell; obtain ⟨m0, m1, m2, m3, _⟩ := T1.out.y; rw [HIB.out] at m0 m1 m2 m3; clear hb)
                  obtain ⟨d0, hd0⟩ : ∃ d0, d0 = w5 := ⟨_, rfl⟩
                  clear hd0 d0
                  rw [← HIB.out]
                  refine Inr.goes (S := fun u => u.cell? ⟨w.heap.size + 4, 0, none⟩ = some ov ∧ u.cell? ⟨ib, 0, none⟩ = some (.string (S y.k)) ∧ u.cell? ⟨ib, 1, none⟩ = some (.int .i64 y.s) ∧ u.cell? ⟨ib, 2, none⟩ = some (.int .i64 y.e) ∧ u.cell? ⟨ib, 3, none⟩ = some (.int .i64 y.id)) 5 (by kernel_rfl) (by kernel_rfl) (fun h9 => h9.elim fun _ h9 => h9.elim fun _ h9 => h9) (T1.out.later (Below.refl _ _).drew).ob (fun hHeld => ?_)
                  clear c2 c3 m0 m1 m2 m3 l0 l1 k0 k1 k2 k3
                  obtain ⟨wd2, hwd2⟩ : ∃ wd2, wd2 = w5.drew := ⟨_, rfl⟩
                  replace T1 := hide (show LY w.heap.size lo [] f t M ov y ib W wd2 from by rw [hwd2]; exact T1.out.later (Below.refl _ _).drew)
                  rw [← hwd2] at hHeld ⊢
                  clear hwd2
                  refine Mp.t1 0 hHeld ?_
                  (try simp only [Act.put, Mqa, Mqb, Mqc])
                  refine Mp.t1 1 hHeld ?_
                  (try simp only [Act.put, Mqa, Mqb, Mqc])
                  refine Mp.one (i := 2) rfl (by kernel_rfl) (fun K9 hK => ?_)
                  go_simp
                  with_reducible refine (copied_any y HKY.out _).mono ?_
                  rintro e w6 ⟨rfl, hb⟩
                  have T2 := hide (T1.out.later hb)
                  clear hb T1
                  refine hK.out _ _ T2.out.ob (fun hNew => ?_)
                  clear hK K9 hHeld
                  have hHeld := hNew
                  clear hNew
                  (try simp only [Act.put, Mqa, Mqb, Mqc])
                  refine Mp.one (i := 3) rfl (by kernel_rfl) (fun K9 hK => ?_)
                  go_simp
                  have T3 := hide (T2.out.later (below_alloc w6 (.cells #[.string (S y.k), .int .i64 y.s, .int .i64 y.e, .int .i64 y.id] 31)))
                  have HM1 := hide (show ItemsAt [y] (.slice (some ⟨w6.heap.size, 0, none⟩) 1 1) (w6.alloc (.cells #[.string (S y.k), .int .i64 y.s, .int .i64 y.e, .int .i64 y.id] 31)) from one4_at w6 y 31 rfl)
                  clear T2
                  refine hK.out _ _ T3.out.ob (fun hNew => ?_)
                  clear hK K9 hHeld
                  have hHeld := hNew
                  clear hNew
                  (try simp only [Act.put, Mqa, Mqb, Mqc])
                  refine Mp.one (i := 4) rfl (by kernel_rfl) (fun K9 hK => ?_)
                  refine oper_ite (by rfl) ?_
                  refine oper_more tyX _ _ rfl rfl rfl T3.out.r HM1.out (by simp) (by have h1 := HLE.out; simp; omega) T3.out.x.lt (fun u z2 hu hg => ?_)
                  obtain ⟨uo, uc, hue, _, _⟩ := hu.form
                  rw [List.length_append, List.length_singleton] at hue
                  subst hue
                  obtain ⟨hc9, hf9, hx9, hb9, hk9⟩ := T3.out.x.put T3.out.r T3.out.c hg hu
                  have HX9 := hide hx9
                  have HB9 := hide (T3.out.l.trans (hb9.mono (by omega)))
                  have HK9 := hide (T3.out.k.trans hk9)
                  have hy9 := T3.out.y.kept hb9.size (hg.block ib T3.out.y.lt (fun e9 => T3.out.nib e9.symm))
                  clear hu hg hx9 hb9 hk9 T3 HM1
                  refine hK.out _ _ ⟨hc9, hy9.c0, hy9.c1, hy9.c2, hy9.c3⟩ (fun hNew => ?_)
                  clear hK K9 hHeld
                  have hHeld := hNew
                  clear hNew
                  (try simp only [Act.put, Mqa, Mqb, Mqc])
                  refine Mp.last rfl (by kernel_rfl) (fun K9 hK => ?_)
                  go_simp
                  refine hK.out _ _ ?_
                  clear hK K9 hHeld
                  (try simp only [Act.put, Mqa, Mqb, Mqc])
                  refine Mp.done (by kernel_rfl) ?_ _
                  gi_wp2_with fail
                  go_roundw
                  case rel => exact ⟨i + 1, by omega, by rw [HW.out]; rfl, hide (by rw [HNXT.out, HYES.out, if_pos rfl]; exact HX9.out), hide (HB9.out.setCell (p := ⟨w.heap.size + 4, 0, none⟩) (Nat.le_add_right _ _) _), hide (HK9.out.trans (KeepsOthers.setCell _ _ _))⟩
                  case measure => rw [HW.out]; simp only [intOf]; omega
                · have HNO := hide (show wiB lo [] f t y = false from by unfold wiB; rw [decide_eq_false h2]; simp)
                  gi_wp2_with (refine ⟨trivial, ?_⟩; gi_at_call 56; refine (CallsIn.inRound l (callsIn_wide.2 (of_is HAM.out _))).mono ?_; rintro e w5 ⟨rfl, hb⟩; have T1 := hide (TA.out.later hb); have c2 := T1.out.x.2.2.2.1.cell; have c3 := T1.out.x.2.2.2.2.cell; obtain ⟨m0, m1, m2, m3, _⟩ := T1.out.y; rw [HIB.out] at m0 m1 m2 m3; clear hb)
                  go_roundw
                  case rel => exact ⟨i + 1, by omega, by rw [HW.out]; rfl, hide (by rw [HNXT.out, HNO.out, if_neg (by simp), List.append_nil]; exact T1.out.x), hide T1.out.l, hide T1.out.k⟩
                  case measure => rw [HW.out]; simp only [intOf]; omega
              · have HNO := hide (show wiB lo [] f t y = false from by unfold wiB; rw [decide_eq_false h1]; simp)
                gi_wp2_with (refine ⟨trivial, ?_⟩; gi_at_call 56; refine (CallsIn.inRound l (callsIn_wide.2 (of_is HAM.out _))).mono ?_; rintro e w5 ⟨rfl, hb⟩; have T1 := hide (TA.out.later hb); have c2 := T1.out.x.2.2.2.1.cell; have c3 := T1.out.x.2.2.2.2.cell; obtain ⟨m0, m1, m2, m3, _⟩ := T1.out.y; rw [HIB.out] at m0 m1 m2 m3; clear hb)
                go_roundw
                case rel => exact ⟨i + 1, by omega, by rw [HW.out]; rfl, hide (by rw [HNXT.out, HNO.out, if_neg (by simp), List.append_nil]; exact T1.out.x), hide T1.out.l, hide T1.out.k⟩
                case measure => rw [HW.out]; simp only [intOf]; omega
          · obtain rfl : i = n := by omega
            have g1 : ¬ (i : Int) < (i : Int) := by omega
            have HE9 := hide (show x.xs.take i = x.xs from by rw [HN.out, List.take_length])
            rw [HE9.out] at HLX
            gi_wp2_with fail
            have h9 := HFIN.out _ HLX.out HBW.out HKO.out
            exact ⟨h9.1, h9.2.1, h9.2.2.1, h9.2.2.2.1, by first | exact h9.2.2.2.2 | (have h8 := h9.2.2.2.2; omega)⟩
    · have q2 : (hi == []) = false := by simpa using hz0
      have q3 : ¬ hi.toArray = #[] := by simpa using hz0
      rcases hz1 : Op.bytesLess kx hi with _ | _
      · refine Inr.held (S := fun u => u.cell? ⟨w.heap.size + 1, 0, none⟩ = some (.string (S hi)) ∧ u.cell? ⟨bk, 0, none⟩ = some (.slice (some ⟨g, off, none⟩) n cp) ∧ u.cell? ⟨g, off, none⟩ = some (.string (S kx))) (by kernel_rfl) (by kernel_rfl) (fun h9 => h9.elim fun _ h9 => h9.elim fun _ h9 => h9) HS6.out (fun hHeld => ?_)
        obtain ⟨wd, hwd⟩ : ∃ wd, wd = W.drew := ⟨_, rfl⟩
        rw [← hwd] at hHeld hb10 hb00 hc20 HX1 HDB HDK HD ⊢
        clear hwd HS6
        refine Man.t1 0 hHeld ?_
        (try simp only [Act.put, Mqa, Mqb, Mqc])
        refine Man.t1 1 hHeld ?_
        (try simp only [Act.put, Mqa, Mqb, Mqc])
        refine Man.t1 2 hHeld ?_
        (try simp only [Act.put, Mqa, Mqb, Mqc])
        refine Man.t1 3 hHeld ?_
        (try simp only [Act.put, Mqa, Mqb, Mqc])
        refine Man.t1 4 hHeld ?_
        (try simp only [Act.put, Mqa, Mqb, Mqc])
        refine Man.t1 5 hHeld ?_
        (try simp only [Act.put, Mqa, Mqb, Mqc])
        refine Man.t1 6 hHeld ?_
        (try simp only [Act.put, Mqa, Mqb, Mqc])
        refine Man.t1 7 hHeld ?_
        (try simp only [Act.put, Mqa, Mqb, Mqc])
        refine Man.t1 8 hHeld ?_
        (try simp only [Act.put, Mqa, Mqb, Mqc])
        refine Man.t1 9 hHeld ?_
        (try simp only [Act.put, Mqa, Mqb, Mqc])
        refine Man.t1 10 hHeld ?_
        (try simp only [Act.put, Mqa, Mqb, Mqc])
        refine wpAnyH_done (by kernel_rfl) ?_ _
        gi_wp2_with fail
        exact ⟨(HSTP.out _ hz0 hz1 HD.out).1, rfl, (HSTP.out _ hz0 hz1 HD.out).2⟩
      · skip
        refine Inr.held (S := fun u => u.cell? ⟨w.heap.size + 1, 0, none⟩ = some (.string (S hi)) ∧ u.cell? ⟨bk, 0, none⟩ = some (.slice (some ⟨g, off, none⟩) n cp) ∧ u.cell? ⟨g, off, none⟩ = some (.string (S kx))) (by kernel_rfl) (by kernel_rfl) (fun h9 => h9.elim fun _ h9 => h9.elim fun _ h9 => h9) HS6.out (fun hHeld => ?_)
        obtain ⟨wd, hwd⟩ : ∃ wd, wd = W.drew := ⟨_, rfl⟩
        rw [← hwd] at hHeld hb10 hb00 hc20 HX1 HDB HDK HD ⊢
        clear hwd HS6
        refine Man.t1 0 hHeld ?_
        (try simp only [Act.put, Mqa, Mqb, Mqc])
        refine Man.t1 1 hHeld ?_
        (try simp only [Act.put, Mqa, Mqb, Mqc])
        refine Man.t1 2 hHeld ?_
        (try simp only [Act.put, Mqa, Mqb, Mqc])
        refine Man.t1 3 hHeld ?_
        (try simp only [Act.put, Mqa, Mqb, Mqc])
        refine Man.t1 4 hHeld ?_
        (try simp only [Act.put, Mqa, Mqb, Mqc])
        refine Man.t1 5 hHeld ?_
        (try simp only [Act.put, Mqa, Mqb, Mqc])
        refine Man.t1 6 hHeld ?_
        (try simp only [Act.put, Mqa, Mqb, Mqc])
        refine Man.t1 7 hHeld ?_
        (try simp only [Act.put, Mqa, Mqb, Mqc])
        refine Man.t1 8 hHeld ?_
        (try simp only [Act.put, Mqa, Mqb, Mqc])
        refine Man.t1 9 hHeld ?_
        (try simp only [Act.put, Mqa, Mqb, Mqc])
        refine Man.t1 10 hHeld ?_
        (try simp only [Act.put, Mqa, Mqb, Mqc])
        refine wpAnyH_done (by kernel_rfl) ?_ _
        skip
        by_cases hpast : m ≤ f
        · have HE9 := hide (show x.xs.filter (wiB lo hi f t) = [] from within_past lo hi t (by rw [← HM.out]; exact hpast))
          gi_wp2_with fail
          exact HFIN.out _ (by rw [HE9.out, List.append_nil]; exact HX1.out) HDB.out HDK.out
        · gi_wp2_with fail
    
          gi_loopw [47] (fun ii wr => ∃ i : Nat, i ≤ n ∧ ii = .int .i64 i ∧ Hid (LX w.heap.size lo hi f t (A ++ (x.xs.take i).filter (wiB lo hi f t)) wr) ∧ Hid (Below w.heap.size W wr) ∧ Hid (KeepsOthers W wr)) (fun ii _ => n - (intOf ii).toNat)
          case atStart => exact ⟨0, Nat.zero_le _, rfl, hide (by rw [List.take_zero, List.filter_nil, List.append_nil]; exact HX1.out), HDB, HDK⟩
          case round =>
            rename World => wr
            obtain ⟨i, hin, rfl, HLX, HBW, HKO⟩ := hrel
            clear hb10 hb00 hc20 hHeld
            rcases Nat.lt_or_ge i n with hlt | hge
            · have g1 : (i : Int) < (n : Int) := by omega
              have HW := hide (show wrap64 ((i : Int) + 1) = (i : Int) + 1 from by have := HXL.out; unfold wrap64; omega)
              have hil : i < x.xs.length := by rw [← HN.out]; exact hlt
              obtain ⟨k0, k1, k2, k3, hgw⟩ := items_cell (HIT.out.later (HB.out.trans HBW.out) (Nat.le_refl _)) i hil
              have HTK := hide (filter_take hil (wiB lo hi f t))
              have HKY := hide (HKX.out _ (List.getElem_mem hil))
              have HLE := hide (show (A ++ (x.xs.take i).filter (wiB lo hi f t)).length ≤ 999999 from by rw [List.length_append]; have h1 := filter_short x.xs (wiB lo hi f t) i; have h2 := HPL.out; have h3 := HXL.out; have h4 := HN.out; omega)
              obtain ⟨y, hy⟩ : ∃ y, y = x.xs[i] := ⟨_, rfl⟩
              rw [← hy] at k0 k1 k2 k3 HTK HKY
              obtain ⟨M, hM⟩ : ∃ M, M = A ++ (x.xs.take i).filter (wiB lo hi f t) := ⟨_, rfl⟩
              rw [← hM] at HLX HLE
              have HNXT := hide (show A ++ (x.xs.take (i + 1)).filter (wiB lo hi f t) = M ++ (if wiB lo hi f t y = true then [y] else []) from by rw [HTK.out, hM, List.append_assoc])
              have HQA := hide (below_alloc wr (.cells #[.string (S y.k), .int .i64 y.s, .int .i64 y.e, .int .i64 y.id] 31))
              obtain ⟨ov, hov, _, hrow⟩ := HLX.out.row
              have TA := hide (show LY w.heap.size lo hi f t M ov y wr.heap.size W (wr.alloc (.cells #[.string (S y.k), .int .i64 y.s, .int .i64 y.e, .int .i64 y.id] 31)) from
                ⟨HLX.out.later HQA.out, cell_later HQA.out hov, Row4.later (e := 31) (base := w.heap.size + 5) (l := M) hrow HQA.out (Nat.le_refl _), Bx.new wr y 31, HKO.out.trans (keeps_below HQA.out), HBW.out.trans (HQA.out.mono (by have := HLX.out.lt; omega)), fun e9 => by have := (hrow.lt wr.heap.size e9).2; omega⟩)
              have l0 := cell_later HQA.out HLX.out.2.1.cell
              have l1 := cell_later HQA.out HLX.out.2.2.1.cell
              obtain ⟨am, ham⟩ : ∃ am, amongB y.k lo hi = am := ⟨_, rfl⟩
              have HAM := hide ham
              obtain ⟨ib, hib⟩ : ∃ ib, ib = wr.heap.size := ⟨_, rfl⟩
              rw [← hib] at TA
              have HIB := hide hib
              clear hy hM hib ham hrow hov hgw hil HTK
              cases am with
              | false =>
                have HNO := hide (show wiB lo hi f t y = false from by unfold wiB; rw [HAM.out]; rfl)
                gi_wp2_with (refine ⟨trivial, ?_⟩; gi_at_call 56; refine (CallsIn.inRound l (callsIn_wide.2 (of_is HAM.out _))).mono ?_; rintro e w5 ⟨rfl, hb⟩; have T1 := hide (TA.out.later hb); have c2 := T1.out.x.2.2.2.1.cell; have c3 := T1.out.x.2.2.2.2.cell; obtain ⟨m0, m1, m2, m3, _⟩ := T1.out.y; rw [HIB.out] at m0 m1 m2 m3; clear hb)
                go_roundw
                case rel => exact ⟨i + 1, by omega, by rw [HW.out]; rfl, hide (by rw [HNXT.out, HNO.out, if_neg (by simp), List.append_nil]; exact T1.out.x), hide T1.out.l, hide T1.out.k⟩
                case measure => rw [HW.out]; simp only [intOf]; omega
              | true =>
                by_cases h1 : y.s ≤ t
                · by_cases h2 : f < y.e
                  · have HYES := hide (show wiB lo hi f t y = true from by unfold wiB; rw [HAM.out, decide_eq_true h1, decide_eq_true h2]; rfl)
                    gi_wp2_with (refine ⟨trivial, ?_⟩; gi_at_call 56; refine (CallsIn.inRound l (callsIn_wide.2 (of_is HAM.out _))).mono ?_; rintro e w5 ⟨rfl, hb⟩; have T1 := hide (TA.out.later hb); have c2 := T1.out.x.2.2.2.1.cell; have c3 := T1.out.x.2.2.2.2.cell; obtain ⟨m0, m1, m2, m3, _⟩ := T1.out.y; rw [HIB.out] at m0 m1 m2 m3; clear hb)
                    obtain ⟨d0, hd0⟩ : ∃ d0, d0 = w5 := ⟨_, rfl⟩
                    clear hd0 d0
                    rw [← HIB.out]
                    refine Inr.goes (S := fun u => u.cell? ⟨w.heap.size + 4, 0, none⟩ = some ov ∧ u.cell? ⟨ib, 0, none⟩ = some (.string (S y.k)) ∧ u.cell? ⟨ib, 1, none⟩ = some (.int .i64 y.s) ∧ u.cell? ⟨ib, 2, none⟩ = some (.int .i64 y.e) ∧ u.cell? ⟨ib, 3, none⟩ = some (.int .i64 y.id)) 5 (by kernel_rfl) (by kernel_rfl) (fun h9 => h9.elim fun _ h9 => h9.elim fun _ h9 => h9) (T1.out.later (Below.refl _ _).drew).ob (fun hHeld => ?_)
                    clear c2 c3 m0 m1 m2 m3 l0 l1 k0 k1 k2 k3
                    obtain ⟨wd2, hwd2⟩ : ∃ wd2, wd2 = w5.drew := ⟨_, rfl⟩
                    replace T1 := hide (show LY w.heap.size lo hi f t M ov y ib W wd2 from by rw [hwd2]; exact T1.out.later (Below.refl _ _).drew)
                    rw [← hwd2] at hHeld ⊢
                    clear hwd2
                    refine Mp.t1 0 hHeld ?_
                    (try simp only [Act.put, Mqa, Mqb, Mqc])
                    refine Mp.t1 1 hHeld ?_
                    (try simp only [Act.put, Mqa, Mqb, Mqc])
                    refine Mp.one (i := 2) rfl (by kernel_rfl) (fun K9 hK => ?_)
                    go_simp
                    with_reducible refine (copied_any y HKY.out _).mono ?_
                    rintro e w6 ⟨rfl, hb⟩
                    have T2 := hide (T1.out.later hb)
                    clear hb T1
                    refine hK.out _ _ T2.out.ob (fun hNew => ?_)
                    clear hK K9 hHeld
                    have hHeld := hNew
                    clear hNew
                    (try simp only [Act.put, Mqa, Mqb, Mqc])
                    refine Mp.one (i := 3) rfl (by kernel_rfl) (fun K9 hK => ?_)
                    go_simp
                    have T3 := hide (T2.out.later (below_alloc w6 (.cells #[.string (S y.k), .int .i64 y.s, .int .i64 y.e, .int .i64 y.id] 31)))
                    have HM1 := hide (show ItemsAt [y] (.slice (some ⟨w6.heap.size, 0, none⟩) 1 1) (w6.alloc (.cells #[.string (S y.k), .int .i64 y.s, .int .i64 y.e, .int .i64 y.id] 31)) from one4_at w6 y 31 rfl)
                    clear T2
                    refine hK.out _ _ T3.out.ob (fun hNew => ?_)
                    clear hK K9 hHeld
                    have hHeld := hNew
                    clear hNew
                    (try simp only [Act.put, Mqa, Mqb, Mqc])
                    refine Mp.one (i := 4) rfl (by kernel_rfl) (fun K9 hK => ?_)
                    refine oper_ite (by rfl) ?_
                    refine oper_more tyX _ _ rfl rfl rfl T3.out.r HM1.out (by simp) (by have h1 := HLE.out; simp; omega) T3.out.x.lt (fun u z2 hu hg => ?_)
                    obtain ⟨uo, uc, hue, _, _⟩ := hu.form
                    rw [List.length_append, List.length_singleton] at hue
                    subst hue
                    obtain ⟨hc9, hf9, hx9, hb9, hk9⟩ := T3.out.x.put T3.out.r T3.out.c hg hu
                    have HX9 := hide hx9
                    have HB9 := hide (T3.out.l.trans (hb9.mono (by omega)))
                    have HK9 := hide (T3.out.k.trans hk9)
                    have hy9 := T3.out.y.kept hb9.size (hg.block ib T3.out.y.lt (fun e9 => T3.out.nib e9.symm))
                    clear hu hg hx9 hb9 hk9 T3 HM1
                    refine hK.out _ _ ⟨hc9, hy9.c0, hy9.c1, hy9.c2, hy9.c3⟩ (fun hNew => ?_)
                    clear hK K9 hHeld
                    have hHeld := hNew
                    clear hNew
                    (try simp only [Act.put, Mqa, Mqb, Mqc])
                    refine Mp.last rfl (by kernel_rfl) (fun K9 hK => ?_)
                    go_simp
                    refine hK.out _ _ ?_
                    clear hK K9 hHeld
                    (try simp only [Act.put, Mqa, Mqb, Mqc])
                    refine Mp.done (by kernel_rfl) ?_ _
                    gi_wp2_with fail
                    go_roundw
                    case rel => exact ⟨i + 1, by omega, by rw [HW.out]; rfl, hide (by rw [HNXT.out, HYES.out, if_pos rfl]; exact HX9.out), hide (HB9.out.setCell (p := ⟨w.heap.size + 4, 0, none⟩) (Nat.le_add_right _ _) _), hide (HK9.out.trans (KeepsOthers.setCell _ _ _))⟩
                    case measure => rw [HW.out]; simp only [intOf]; omega
                  · have HNO := hide (show wiB lo hi f t y = false from by unfold wiB; rw [decide_eq_false h2]; simp)
                    gi_wp2_with (refine ⟨trivial, ?_⟩; gi_at_call 56; refine (CallsIn.inRound l (callsIn_wide.2 (of_is HAM.out _))).mono ?_; rintro e w5 ⟨rfl, hb⟩; have T1 := hide (TA.out.later hb); have c2 := T1.out.x.2.2.2.1.cell; have c3 := T1.out.x.2.2.2.2.cell; obtain ⟨m0, m1, m2, m3, _⟩ := T1.out.y; rw [HIB.out] at m0 m1 m2 m3; clear hb)
                    go_roundw
                    case rel => exact ⟨i + 1, by omega, by rw [HW.out]; rfl, hide (by rw [HNXT.out, HNO.out, if_neg (by simp), List.append_nil]; exact T1.out.x), hide T1.out.l, hide T1.out.k⟩
                    case measure => rw [HW.out]; simp only [intOf]; omega
                · have HNO := hide (show wiB lo hi f t y = false from by unfold wiB; rw [decide_eq_false h1]; simp)
                  gi_wp2_with (refine ⟨trivial, ?_⟩; gi_at_call 56; refine (CallsIn.inRound l (callsIn_wide.2 (of_is HAM.out _))).mono ?_; rintro e w5 ⟨rfl, hb⟩; have T1 := hide (TA.out.later hb); have c2 := T1.out.x.2.2.2.1.cell; have c3 := T1.out.x.2.2.2.2.cell; obtain ⟨m0, m1, m2, m3, _⟩ := T1.out.y; rw [HIB.out] at m0 m1 m2 m3; clear hb)
                  go_roundw
                  case rel => exact ⟨i + 1, by omega, by rw [HW.out]; rfl, hide (by rw [HNXT.out, HNO.out, if_neg (by simp), List.append_nil]; exact T1.out.x), hide T1.out.l, hide T1.out.k⟩
                  case measure => rw [HW.out]; simp only [intOf]; omega
            · obtain rfl : i = n := by omega
              have g1 : ¬ (i : Int) < (i : Int) := by omega
              have HE9 := hide (show x.xs.take i = x.xs from by rw [HN.out, List.take_length])
              rw [HE9.out] at HLX
              gi_wp2_with fail
              have h9 := HFIN.out _ HLX.out HBW.out HKO.out
              exact ⟨h9.1, h9.2.1, h9.2.2.1, h9.2.2.2.1, by first | exact h9.2.2.2.2 | (have h8 := h9.2.2.2.2; omega)⟩
  case stop =>
    rintro D' c pre W hD hpre ⟨rfl, p, x, rfl, hn, hk, hX, hB, hsz⟩ hK
    have HE := hide (show sel (wiB lo hi f t) (p.map (·.1)) = (its Bs).filter (wiB lo hi f t) from by
      rw [List.map_append] at hpre
      exact (within_stop f t HU.out hpre (HBL.out.1 _ x.2).2.1 hn hk).trans (within_done hi f t HQ.out HS.out))
    obtain ⟨u, hc, hf, hr⟩ := hX.row
    rw [HE.out] at hr
    have HR := hide hr
    have HB := hide hB
    have HK := hide hK
    clear hr hB hK hX hpre hn hk HE
    refine wpIn_wide.2 ?_
    go_wp2_with fail
    show bodyPostM _ _ _ _ _ Exit.ret _ _
    refine ⟨by simp, .inl ⟨_, _, rfl, run_takeDeferred HK.out, ?_⟩⟩
    exact ⟨_, results_tmp rfl _ _ _, u, rfl, ownsRow_putObj HR.out _ HK.out rfl, HB.out.trans (belowK_b (w := w) (Nat.le_refl _) W D' _ _ (by omega) HK.out rfl rfl)⟩
  case done =>
    rintro D ys W hD hys ⟨hX, hB, hsz⟩ hK
    have HE := hide (show sel (wiB lo hi f t) (ys.map (·.1)) = (its Bs).filter (wiB lo hi f t) from by rw [show ys.map (·.1) = Bs.drop q from hys]; exact within_done hi f t HQ.out HS.out)
    obtain ⟨u, hc, hf, hr⟩ := hX.row
    rw [HE.out] at hr
    have HR := hide hr
    have HB := hide hB
    have HK := hide hK
    clear hr hB hK hX hys HE
    go_wp2_with fail
    show bodyPostM _ _ _ _ _ Exit.ret _ _
    refine ⟨by simp, .inl ⟨_, _, rfl, run_takeDeferred HK.out, ?_⟩⟩
    exact ⟨_, results_tmp rfl _ _ _, u, rfl, ownsRow_putObj HR.out _ HK.out rfl, HB.out.trans (belowK_b (w := w) (Nat.le_refl _) W D _ _ (by omega) HK.out rfl rfl)⟩
end Idx
end Go.Proofs.Ytapdhelioecneaa
