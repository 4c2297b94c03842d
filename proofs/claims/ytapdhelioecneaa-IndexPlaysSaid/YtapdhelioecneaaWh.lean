/- Where an item is, and what is there; what is stored in rows. Condition: less than a thousand items. -/
import Derived.Test.YtapdhelioecneaaWg
import Derived.Test.YtapdhelioecneaaMp
namespace Go.Proofs.Ytapdhelioecneaa
open Go.RowKit
namespace Idx
theorem flat_put (l : List It) (n : Nat) (hn : n < l.length) (x : It) : ((((flat l).set (n * 4) (.string (S x.k))).set (n * 4 + 1) (.int .i64 x.s)).set (n * 4 + 2) (.int .i64 x.e)).set (n * 4 + 3) (.int .i64 x.id) = flat (l.set n x) := by
  refine List.ext_getElem? (fun j => ?_)
  rcases Nat.lt_or_ge j (l.length * 4) with hj | hj
  · have h2 := flat_at (l.set n x) (j / 4) (by rw [List.length_set]; omega) (j % 4) (Nat.mod_lt _ (by omega))
    have h1 := flat_at l (j / 4) (by omega) (j % 4) (Nat.mod_lt _ (by omega))
    rw [show j / 4 * 4 + j % 4 = j by omega] at h1 h2
    rw [h2, List.getElem_set]
    have hl : (flat l).length = l.length * 4 := flat_len l
    by_cases e : n = j / 4
    · rw [if_pos e]
      have e3 : j % 4 = 0 ∨ j % 4 = 1 ∨ j % 4 = 2 ∨ j % 4 = 3 := by omega
      have hn4 : n * 4 + 3 < l.length * 4 := by omega
      rcases e3 with e3 | e3 | e3 | e3
      · have ej : j = n * 4 := by omega
        subst ej
        rw [e3]
        simp [List.getElem?_set, It.cells]; omega
      · have ej : j = n * 4 + 1 := by omega
        subst ej
        rw [e3]
        simp [List.getElem?_set, It.cells]; omega
      · have ej : j = n * 4 + 2 := by omega
        subst ej
        rw [e3]
        simp [List.getElem?_set, It.cells]; omega
      · have ej : j = n * 4 + 3 := by omega
        subst ej
        rw [e3]
        simp [List.getElem?_set, It.cells]; omega
    · rw [if_neg e, ← h1, List.getElem?_set_ne (by omega), List.getElem?_set_ne (by omega), List.getElem?_set_ne (by omega), List.getElem?_set_ne (by omega)]
  · rw [List.getElem?_eq_none (by simp only [List.length_set, flat_len]; omega), List.getElem?_eq_none (by rw [flat_len, List.length_set]; omega)]
theorem f2_put (l : List Bkm) (n : Nat) (hn : n < l.length) (x : Bkm) : ((f2 l).set (n * 2) (.slice x.ao x.xs.length x.cap)).set (n * 2 + 1) (.int .i64 (maxE x.xs)) = f2 (l.set n x) := by
  refine List.ext_getElem? (fun j => ?_)
  rcases Nat.lt_or_ge j (l.length * 2) with hj | hj
  · have h2 := f2_at (l.set n x) (j / 2) (by rw [List.length_set]; omega) (j % 2) (Nat.mod_lt _ (by omega))
    have h1 := f2_at l (j / 2) (by omega) (j % 2) (Nat.mod_lt _ (by omega))
    rw [show j / 2 * 2 + j % 2 = j by omega] at h1 h2
    rw [h2, List.getElem_set]
    have hl : (f2 l).length = l.length * 2 := f2_len l
    by_cases e : n = j / 2
    · rw [if_pos e]
      have e3 : j % 2 = 0 ∨ j % 2 = 1 := by omega
      have hn4 : n * 2 + 1 < l.length * 2 := by omega
      rcases e3 with e3 | e3
      · have ej : j = n * 2 := by omega
        subst ej
        rw [e3]
        simp [List.getElem?_set, Bkm.cells]; omega
      · have ej : j = n * 2 + 1 := by omega
        subst ej
        rw [e3]
        simp [List.getElem?_set, Bkm.cells]; omega
    · rw [if_neg e, ← h1, List.getElem?_set_ne (by omega), List.getElem?_set_ne (by omega)]
  · rw [List.getElem?_eq_none (by simp only [List.length_set, f2_len]; omega), List.getElem?_eq_none (by rw [f2_len, List.length_set]; omega)]
theorem Row4.put {base g cap k : Nat} {e : TypeId} {l : List It} {w : World} (h : Row4 e base l (.slice (some ⟨g, 0, none⟩) k cap) w) (n : Nat) (hn : n < l.length) (x : It) :
    Row4 e base (l.set n x) (.slice (some ⟨g, 0, none⟩) k cap) ((((w.setCell ⟨g, n * 4, none⟩ (.string (S x.k))).setCell ⟨g, n * 4 + 1, none⟩ (.int .i64 x.s)).setCell ⟨g, n * 4 + 2, none⟩ (.int .i64 x.e)).setCell ⟨g, n * 4 + 3, none⟩ (.int .i64 x.id)) := by
  have hkl : k = l.length := by
    obtain ⟨_, _, h1, _⟩ := h.form
    simp only [Value.slice.injEq] at h1
    exact h1.2.1
  subst hkl
  unfold Row4 at h ⊢
  rw [List.length_set, ← flat_put l n hn x]
  exact ((((h.stored _ _).1.stored _ _).1.stored _ _).1.stored _ _).1
theorem Row2.put {base g cap k : Nat} {l : List Bkm} {w : World} (h : Row2 base l (.slice (some ⟨g, 0, none⟩) k cap) w) (n : Nat) (hn : n < l.length) (x : Bkm) :
    Row2 base (l.take n ++ [x] ++ l.drop (n + 1)) (.slice (some ⟨g, 0, none⟩) k cap) ((w.setCell ⟨g, n * 2, none⟩ (.slice x.ao x.xs.length x.cap)).setCell ⟨g, n * 2 + 1, none⟩ (.int .i64 (maxE x.xs))) := by
  have hkl : k = l.length := by
    obtain ⟨_, _, h1, _⟩ := h.form
    simp only [Value.slice.injEq] at h1
    exact h1.2.1
  subst hkl
  have e : l.take n ++ [x] ++ l.drop (n + 1) = l.set n x := by rw [List.set_eq_take_append_cons_drop, if_pos hn, List.append_assoc]; rfl
  rw [e]
  unfold Row2 at h ⊢
  rw [List.length_set, ← f2_put l n hn x]
  exact ((h.stored _ _).1.stored _ _).1
/-- Where a block's things lie. -/
theorem St.at {R : Nat} {n : Int} {Bs : List Bkm} {v : Value} {w : World} (h : St R n Bs v w) (q : Nat) (hq : q < Bs.length) : ∃ g c ga, v = .slice (some ⟨g, 0, none⟩) Bs.length c ∧ (Bs[q]).ao = some ⟨ga, 0, none⟩ ∧ g ≠ ga ∧ g ≠ R ∧ ga ≠ R ∧ Bs.length ≤ c ∧ c ≤ 9223372036854775807 ∧ g < w.heap.size ∧ ga < w.heap.size ∧
    w.cell? ⟨g, q * 2, none⟩ = some (.slice (some ⟨ga, 0, none⟩) (Bs[q]).xs.length (Bs[q]).cap) ∧ w.cell? ⟨g, q * 2 + 1, none⟩ = some (.int .i64 (maxE (Bs[q]).xs)) ∧ (∀ j, w.frozen? ⟨g, j, none⟩ = false) ∧ (∀ j, w.frozen? ⟨ga, j, none⟩ = false) ∧ Row4 31 0 (Bs[q]).xs (.slice (some ⟨ga, 0, none⟩) (Bs[q]).xs.length (Bs[q]).cap) w := by
  obtain ⟨g, c, hv, hc, hc63, _, hg⟩ := h.row.held (by omega)
  obtain ⟨ga, ha, ho, hga⟩ := h.own (List.getElem_mem hq)
  have hoff := h.off _ (List.getElem_mem hq)
  have hrow := h.row
  have hth := h.th _ (List.getElem_mem hq)
  have hR := h.vR
  subst hv
  unfold Bkm.th at hth hoff
  rw [ha] at hth hoff
  obtain ⟨b1, off, c1, he, _, k0, k1⟩ := hrow.blocks.at q hq
  simp only [Value.slice.injEq, Option.some.injEq, Addr.mk.injEq, and_true, true_and] at he
  obtain ⟨⟨rfl, rfl⟩, rfl⟩ := he
  simp only [Nat.zero_add] at k0 k1
  rw [ha] at k0
  refine ⟨g, c, ga, rfl, ha, fun e => hoff.1 (by rw [e]; rfl), fun e => hR (by rw [e]; rfl), fun e => hoff.2 (by rw [e]; rfl), hc, hc63, hg, hga, k0, k1, fun j => hrow.frozenAt j, fun j => hth.frozenAt j, hth⟩
/-- What place comes to. -/
def PlcP (Bs : List Bkm) (k : List UInt8) (s : Int) (w : World) (e : Ending) (w' : World) : Prop := (isAt (its Bs) k s = true → ∃ q i : Nat, e = .returned (.tuple #[.agg #[.int .i64 q, .int .i64 i], .int .i64 0]) ∧ PlI Bs k s q i) ∧ (isAt (its Bs) k s = false → e = .returned (.tuple #[.agg #[.int .i64 0, .int .i64 0], .int .i64 4])) ∧ Below w.heap.size w w'
/-- place's box. -/
structure Px1 (R : Nat) (n : Int) (Bs : List Bkm) (v : Value) (w u : World) : Prop where
  s : St R n Bs v u
  p : B2 (.int .i64 0) (.int .i64 0) w.heap.size u
  l : Below w.heap.size w u
theorem Px1.later {R : Nat} {n : Int} {Bs : List Bkm} {v : Value} {w u u' : World} (h : Px1 R n Bs v w u) (hb : Below u.heap.size u u') : Px1 R n Bs v w u' := ⟨h.s.later hb (Nat.le_refl _), h.p.later hb, h.l.trans (hb.mono h.l.size)⟩
theorem Px1.fin {R : Nat} {n : Int} {Bs : List Bkm} {v : Value} {w u : World} (h : Px1 R n Bs v w u) (a b : Value) : B2 a b w.heap.size ((u.setCell ⟨w.heap.size, 0, none⟩ a).setCell ⟨w.heap.size, 1, none⟩ b) ∧ Below w.heap.size w ((u.setCell ⟨w.heap.size, 0, none⟩ a).setCell ⟨w.heap.size, 1, none⟩ b) :=
  ⟨(h.p.set0 a).set1 b, (h.l.setCell (p := ⟨w.heap.size, 0, none⟩) (Nat.le_refl _) _).setCell (p := ⟨w.heap.size, 1, none⟩) (Nat.le_refl _) _⟩
set_option maxHeartbeats 4000000 in
set_option maxRecDepth 100000 in
theorem place_any {R : Nat} {n : Int} {Bs : List Bkm} {v : Value} {w : World} (h : St R n Bs v w) (hu : Up (its Bs)) (hl : (its Bs).length ≤ 999) (k : List UInt8) (s : Int) :
    Calls Try.prog 38 #[.pointer (some ⟨R, 0, none⟩), .string (S k), .int .i64 s] w fun e w' => PlcP Bs k s w e w' := by
  have T0 := hide (show Px1 R n Bs v w (w.alloc (.cells #[.int .i64 0, .int .i64 0] 74)) from ⟨h.later (below_alloc _ _) (Nat.le_refl _), B2.new w _ _ 74 rfl, below_alloc _ _⟩)
  have CG := hide (given_yes R _ T0.out.s.c0)
  have CF := hide (find_any T0.out.s hu hl ⟨k, s, 0, 0⟩)
  have HONE := hide (show ∀ b : Bool, isAt (its Bs) k s = b → Bs = [] → b = false from fun b hb e => by rw [e] at hb; exact hb.symm)
  clear h hu hl
  go_enter Try.func38, Try.ntmps38
  go_wp2_with fail
  refine CG.out.mono ?_
  rintro e w1 ⟨rfl, rfl⟩
  go_wp2_with fail
  refine CF.out.mono ?_
  rintro e w2 ⟨q, i, rfl, hp, _, hb⟩
  have T1 := hide (T0.out.later hb)
  have HP := hide hp
  clear hp hb CF CG T0
  cases hat : isAt (its Bs) k s with
  | false =>
    have HAT := hide hat
    have T2 := hide (T1.out.later (below_alloc w2 (.cells #[.int .i64 q, .int .i64 i] 74)))
    obtain ⟨p0, p1, z0, z1, _⟩ := T2.out.p
    have HFI := hide (T2.out.fin (.int .i64 0) (.int .i64 0))
    clear hat
    go_wp2_with fail
    refine bodyPost_ret (results_cell_tmp rfl _ _ rfl (load_pla HFI.out.1)) rfl ?_
    exact ⟨(fun h9 => by rw [HAT.out] at h9; cases h9), (fun _ => rfl), HFI.out.2⟩
  | true =>
    have HAT := hide hat
    have HPL := hide (HP.out (fun e => by have := HONE.out _ hat e; cases this))
    have T2 := hide (T1.out.later (below_alloc w2 (.cells #[.int .i64 q, .int .i64 i] 74)))
    obtain ⟨p0, p1, z0, z1, _⟩ := T2.out.p
    have HB2 := hide (B2.new w2 (.int .i64 q) (.int .i64 i) 74 rfl)
    obtain ⟨r0, r1, _, _, _⟩ := HB2.out
    have HFI := hide (T2.out.fin (.int .i64 q) (.int .i64 i))
    clear hat
    go_wp2_with fail
    refine bodyPost_ret (results_cell_tmp rfl _ _ rfl (load_pla HFI.out.1)) rfl ?_
    exact ⟨(fun _ => ⟨q, i, rfl, HPL.out⟩), (fun h9 => by rw [HAT.out] at h9; cases h9), HFI.out.2⟩
set_option maxHeartbeats 2000000 in
set_option maxRecDepth 100000 in
theorem place_nil {p : Option Addr} {w : World} (h : NotGiven p w) (k : List UInt8) (s : Int) : Calls Try.prog 38 #[.pointer p, .string (S k), .int .i64 s] w fun e w' => e = .returned (.tuple #[.agg #[.int .i64 0, .int .i64 0], .int .i64 13]) ∧ Below w.heap.size w w' := by
  have CG := hide (given_no (h.later (below_alloc w (.cells #[.int .i64 0, .int .i64 0] 74))))
  have HP := hide (B2.new w (.int .i64 0) (.int .i64 0) 74 rfl)
  obtain ⟨p0, p1, z0, z1, _⟩ := HP.out
  have HL := hide (below_alloc w (.cells #[.int .i64 0, .int .i64 0] 74))
  clear h
  go_enter Try.func38, Try.ntmps38
  go_wp2_with fail
  refine CG.out.mono ?_
  rintro e w1 ⟨rfl, rfl⟩
  go_wp2_with fail
  first
    | (refine bodyPost_ret (results_cell_tmp rfl _ _ rfl (load_pla HP.out)) rfl ?_
       exact ⟨rfl, HL.out⟩)
    | (refine bodyPost_ret (results_cell_tmp rfl _ _ rfl (load_pla ((HP.out.set0 (.int .i64 0)).set1 (.int .i64 0)))) rfl ?_
       exact ⟨rfl, (HL.out.setCell (p := ⟨w.heap.size, 0, none⟩) (Nat.le_refl _) _).setCell (p := ⟨w.heap.size, 1, none⟩) (Nat.le_refl _) _⟩)
set_option maxHeartbeats 4000000 in
set_option maxRecDepth 100000 in
theorem at_any {R : Nat} {n : Int} {Bs : List Bkm} {v : Value} {w : World} (h : St R n Bs v w) (q i : Nat) (hq : q < Bs.length) (hi : i < (Bs[q]).xs.length) :
    Calls Try.prog 39 #[.pointer (some ⟨R, 1, none⟩), .agg #[.int .i64 q, .int .i64 i]] w fun e w' => e = .returned ((Bs[q]).xs[i]).agg ∧ Below w.heap.size w w' := by
  obtain ⟨g, c, ga, hv, ha, _, _, _, hmc, _, hg, hga, k0, k1, _, _, hth⟩ := h.at q hq
  obtain ⟨_, j0, j1, j2, j3⟩ := hth.items.got i hi
  simp only [Nat.zero_add] at j0 j1 j2 j3
  have c2 := h.c2
  obtain ⟨x, hx⟩ : ∃ x, x = (Bs[q]).xs[i] := ⟨_, rfl⟩
  rw [← hx] at j0 j1 j2 j3 ⊢
  obtain ⟨z, hz⟩ : ∃ z, z = (Bs[q]).xs.length := ⟨_, rfl⟩
  obtain ⟨cap, hcap⟩ : ∃ cap, cap = (Bs[q]).cap := ⟨_, rfl⟩
  obtain ⟨m, hm⟩ : ∃ m, m = Bs.length := ⟨_, rfl⟩
  rw [← hz] at k0
  rw [← hcap] at k0
  rw [hv, ← hm] at c2
  have g1 : (q : Int) < (m : Int) := by omega
  have g2 : (i : Int) < (z : Int) := by omega
  have q1 := below_alloc w (.cells #[.int .i64 q, .int .i64 i] 74)
  have q2 := below_alloc (w.alloc (.cells #[.int .i64 q, .int .i64 i] 74)) (.cells #[.string ⟨#[]⟩, .int .i64 0, .int .i64 0, .int .i64 0] 31)
  have q3 := (q1.trans (q2.mono q1.size)).drew
  have hp := (B2.new w (.int .i64 q) (.int .i64 i) 74 rfl).later (q2.trans (Below.refl _ _).drew)
  have HR := hide (show Bw zeroIt (w.heap.size + 1) ((w.alloc (.cells #[.int .i64 q, .int .i64 i] 74)).alloc (.cells #[.string ⟨#[]⟩, .int .i64 0, .int .i64 0, .int .i64 0] 31)).drew from (Bw.new (w.alloc (.cells #[.int .i64 q, .int .i64 i] 74)) zeroIt 31 (k := w.heap.size + 1) (by simp)).later (Below.refl _ _).drew)
  have HS := hide (show ((w.alloc (.cells #[.int .i64 q, .int .i64 i] 74)).alloc (.cells #[.string ⟨#[]⟩, .int .i64 0, .int .i64 0, .int .i64 0] 31)).drew.cell? ⟨R, 2, none⟩ = some (.slice (some ⟨g, 0, none⟩) m c) ∧ ((w.alloc (.cells #[.int .i64 q, .int .i64 i] 74)).alloc (.cells #[.string ⟨#[]⟩, .int .i64 0, .int .i64 0, .int .i64 0] 31)).drew.cell? ⟨g, q * 2, none⟩ = some (.slice (some ⟨ga, 0, none⟩) z cap) ∧ ((w.alloc (.cells #[.int .i64 q, .int .i64 i] 74)).alloc (.cells #[.string ⟨#[]⟩, .int .i64 0, .int .i64 0, .int .i64 0] 31)).drew.cell? ⟨ga, i * 4, none⟩ = some (.string (S x.k)) ∧ ((w.alloc (.cells #[.int .i64 q, .int .i64 i] 74)).alloc (.cells #[.string ⟨#[]⟩, .int .i64 0, .int .i64 0, .int .i64 0] 31)).drew.cell? ⟨ga, i * 4 + 1, none⟩ = some (.int .i64 x.s) ∧ ((w.alloc (.cells #[.int .i64 q, .int .i64 i] 74)).alloc (.cells #[.string ⟨#[]⟩, .int .i64 0, .int .i64 0, .int .i64 0] 31)).drew.cell? ⟨ga, i * 4 + 2, none⟩ = some (.int .i64 x.e) ∧ ((w.alloc (.cells #[.int .i64 q, .int .i64 i] 74)).alloc (.cells #[.string ⟨#[]⟩, .int .i64 0, .int .i64 0, .int .i64 0] 31)).drew.cell? ⟨ga, i * 4 + 3, none⟩ = some (.int .i64 x.id) ∧ ((w.alloc (.cells #[.int .i64 q, .int .i64 i] 74)).alloc (.cells #[.string ⟨#[]⟩, .int .i64 0, .int .i64 0, .int .i64 0] 31)).drew.cell? ⟨w.heap.size, 0, none⟩ = some (.int .i64 q) ∧ ((w.alloc (.cells #[.int .i64 q, .int .i64 i] 74)).alloc (.cells #[.string ⟨#[]⟩, .int .i64 0, .int .i64 0, .int .i64 0] 31)).drew.cell? ⟨w.heap.size, 1, none⟩ = some (.int .i64 i) from ⟨cell_later q3 c2, cell_later q3 k0, cell_later q3 j0, cell_later q3 j1, cell_later q3 j2, cell_later q3 j3, hp.c0, hp.c1⟩)
  have HL := hide q3
  obtain ⟨y0, y1, y2, y3, _⟩ := HR.out.toBx
  have z0 := HR.out.z 0
  have z1 := HR.out.z 1
  have z2 := HR.out.z 2
  have z3 := HR.out.z 3
  clear q1 q2 q3 hp hx hz hcap hm c2 k0 k1 j0 j1 j2 j3 hth hmc hv ha h hq hi hg hga
  go_enter Try.func39, Try.ntmps39
  go_wp2_with fail
  refine Mp.region (S := fun u => u.cell? ⟨R, 2, none⟩ = some (.slice (some ⟨g, 0, none⟩) m c) ∧ u.cell? ⟨g, q * 2, none⟩ = some (.slice (some ⟨ga, 0, none⟩) z cap) ∧ u.cell? ⟨ga, i * 4, none⟩ = some (.string (S x.k)) ∧ u.cell? ⟨ga, i * 4 + 1, none⟩ = some (.int .i64 x.s) ∧ u.cell? ⟨ga, i * 4 + 2, none⟩ = some (.int .i64 x.e) ∧ u.cell? ⟨ga, i * 4 + 3, none⟩ = some (.int .i64 x.id) ∧ u.cell? ⟨w.heap.size, 0, none⟩ = some (.int .i64 q) ∧ u.cell? ⟨w.heap.size, 1, none⟩ = some (.int .i64 i)) 13 (by kernel_rfl) HS.out (fun hHeld => ?_)
  obtain ⟨wd, hwd⟩ : ∃ wd, wd = ((w.alloc (.cells #[.int .i64 q, .int .i64 i] 74)).alloc (.cells #[.string ⟨#[]⟩, .int .i64 0, .int .i64 0, .int .i64 0] 31)).drew := ⟨_, rfl⟩
  rw [← hwd] at HS HR HL hHeld y0 y1 y2 y3 z0 z1 z2 z3 ⊢
  clear hwd
  refine Mp.t1 0 hHeld ?_
  (try simp only [Act.put, Mqa, Mqb, Mqc])
  refine Mp.t1 1 hHeld ?_
  (try simp only [Act.put, Mqa, Mqb, Mqc])
  refine Mp.t1 2 hHeld ?_
  (try simp only [Act.put, Mqa, Mqb, Mqc])
  refine Mp.t1 3 hHeld ?_
  (try simp only [Act.put, Mqa, Mqb, Mqc])
  refine Mp.t1 4 hHeld ?_
  (try simp only [Act.put, Mqa, Mqb, Mqc])
  refine Mp.t1 5 hHeld ?_
  (try simp only [Act.put, Mqa, Mqb, Mqc])
  refine Mp.t1 6 hHeld ?_
  (try simp only [Act.put, Mqa, Mqb, Mqc])
  refine Mp.t1 7 hHeld ?_
  (try simp only [Act.put, Mqa, Mqb, Mqc])
  refine Mp.t1 8 hHeld ?_
  (try simp only [Act.put, Mqa, Mqb, Mqc])
  refine Mp.t1 9 hHeld ?_
  (try simp only [Act.put, Mqa, Mqb, Mqc])
  refine Mp.t1 10 hHeld ?_
  (try simp only [Act.put, Mqa, Mqb, Mqc])
  refine Mp.t1 11 hHeld ?_
  (try simp only [Act.put, Mqa, Mqb, Mqc])
  refine Mp.t1 12 hHeld ?_
  (try simp only [Act.put, Mqa, Mqb, Mqc])
  refine Mp.last rfl (by kernel_rfl) (fun K9 hK => ?_)
  go_simp
  refine hK.out _ _ ?_
  clear hK K9 hHeld
  (try simp only [Act.put, Mqa, Mqb, Mqc])
  refine Mp.done (by kernel_rfl) ?_ _
  go_wp2_with fail
  refine bodyPost_ret (results_cell rfl _ _ rfl (load_itX (HR.out.set x).toBx)) rfl ?_
  exact ⟨rfl, (((HL.out.setCell (p := ⟨w.heap.size + 1, 0, none⟩) (Nat.le_succ _) _).setCell (p := ⟨w.heap.size + 1, 1, none⟩) (Nat.le_succ _) _).setCell (p := ⟨w.heap.size + 1, 2, none⟩) (Nat.le_succ _) _).setCell (p := ⟨w.heap.size + 1, 3, none⟩) (Nat.le_succ _) _⟩
end Idx
end Go.Proofs.Ytapdhelioecneaa
