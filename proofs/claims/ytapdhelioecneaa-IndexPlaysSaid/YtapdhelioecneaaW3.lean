/- What an item's copy is. Condition: texts no longer than 2^47. -/
import Derived.Test.YtapdhelioecneaaW2
import Derived.Test.YtapdhelioecneaaShl
namespace Go.Proofs.Ytapdhelioecneaa
open Go.RowKit
namespace Idx
theorem strclone_of (l : List UInt8) (hl : l.length ≤ 140737488351232) (w : World) :
    Calls Try.prog 51 #[.string (S l)] w fun e w' => e = .returned (.string (S l)) ∧ Below w.heap.size w w' := by
  go_enter Try.func51, Try.ntmps51
  go_wp2_with fail
  refine (Try.stringslite_Clone (S l) w (by rw [S_size]; omega)).mono ?_
  rintro e w' ⟨rfl, hb⟩
  go_wp2_with fail
  go_ret
  exact ⟨rfl, hb⟩
/-- An item out of a cell, of the program's type. -/
theorem load_itX {k : Nat} {x : It} {w : World} (h : Bx x k w) : (loadVar 31 ⟨k, 0, none⟩).run Try.prog w = .ok x.agg w := by
  have e := run_loadVar_mid (P := Try.prog) w k 0 31 x.cells _ (fun j v hj => ?_) Try.underlying31 rfl (by kernel_rfl)
  · exact e
  · unfold It.cells at hj
    match j, hj with
    | 0, hj => simp at hj; subst hj; exact h.c0
    | 1, hj => simp at hj; subst hj; exact h.c1
    | 2, hj => simp at hj; subst hj; exact h.c2
    | 3, hj => simp at hj; subst hj; exact h.c3
    | j + 4, hj => simp at hj
/-- A box that may be written. -/
structure Bw (x : It) (k : Nat) (w : World) : Prop extends Bx x k w where
  z : ∀ j, w.frozen? ⟨k, j, none⟩ = false
theorem Bw.later {x : It} {k : Nat} {w w' : World} (h : Bw x k w) (hb : Below w.heap.size w w') : Bw x k w' :=
  ⟨h.toBx.later hb h.lt, fun j => by rw [hb.frozen (p := ⟨k, j, none⟩) h.lt]; exact h.z j⟩
theorem Bw.new (w : World) (x : It) (T : TypeId) {k : Nat} (hk : k = w.heap.size) : Bw x k (w.alloc (.cells #[.string (S x.k), .int .i64 x.s, .int .i64 x.e, .int .i64 x.id] T)) := by
  subst hk
  exact ⟨Bx.new w x T, fun j => frozen_of_row _ _ j _ _ (heap_alloc_new _ _)⟩
theorem Bw.set {k : Nat} {y : It} {w : World} (h : Bw y k w) (x : It) : Bw x k ((((w.setCell ⟨k, 0, none⟩ (.string (S x.k))).setCell ⟨k, 1, none⟩ (.int .i64 x.s)).setCell ⟨k, 2, none⟩ (.int .i64 x.e)).setCell ⟨k, 3, none⟩ (.int .i64 x.id)) := by
  refine ⟨h.toBx.set x, fun j => ?_⟩
  rw [World.frozen?_setCell, World.frozen?_setCell, World.frozen?_setCell, World.frozen?_setCell]
  exact h.z j
theorem Bw.set0 {k : Nat} {y : It} {w : World} (h : Bw y k w) : Bw y k (w.setCell ⟨k, 0, none⟩ (.string (S y.k))) :=
  ⟨⟨cell_set_same h.c0, cell_set_other (.inr (by omega)) h.c1, cell_set_other (.inr (by omega)) h.c2, cell_set_other (.inr (by omega)) h.c3, by simpa using h.lt⟩, fun j => by rw [World.frozen?_setCell]; exact h.z j⟩
theorem Bw.other {k b j : Nat} {y : It} {w : World} (h : Bw y k w) (hb : k ≠ b) (u : Value) : Bw y k (w.setCell ⟨b, j, none⟩ u) :=
  ⟨h.toBx.kept (by simp) (heap_set_other _ _ _ _ _ hb), fun i => by rw [World.frozen?_setCell]; exact h.z i⟩
def zeroIt : It := ⟨[], 0, 0, 0⟩
set_option maxHeartbeats 2000000 in
set_option maxRecDepth 100000 in
theorem copied_any (x : It) (hx : x.k.length ≤ 140737488351232) (w : World) : Calls Try.prog 36 #[.agg #[.string (S x.k), .int .i64 x.s, .int .i64 x.e, .int .i64 x.id]] w fun e w' => e = .returned (.agg #[.string (S x.k), .int .i64 x.s, .int .i64 x.e, .int .i64 x.id]) ∧ Below w.heap.size w w' := by
  have C1 := hide (strclone_of x.k hx)
  obtain ⟨w0, hw0⟩ : ∃ w0, w0 = w.alloc (.cells #[.string (S x.k), .int .i64 x.s, .int .i64 x.e, .int .i64 x.id] 31) := ⟨_, rfl⟩
  obtain ⟨w1, hw1⟩ : ∃ w1, w1 = w0.alloc (.cells #[.string ⟨#[]⟩, .int .i64 0, .int .i64 0, .int .i64 0] 31) := ⟨_, rfl⟩
  have hb0 : Below w.heap.size w w0 := by rw [hw0]; exact below_alloc _ _
  have hb1 : Below w0.heap.size w0 w1 := by rw [hw1]; exact below_alloc _ _
  have hs0 : w0.heap.size = w.heap.size + 1 := by rw [hw0]; simp
  have HX := hide (show Bw x w.heap.size w1 from (show Bw x w.heap.size w0 from by rw [hw0]; exact Bw.new w x _ rfl).later hb1)
  have HR := hide (show Bw zeroIt (w.heap.size + 1) w1 from by rw [hw1]; exact Bw.new w0 zeroIt _ hs0.symm)
  have HB := hide (hb0.trans (hb1.mono hb0.size))
  have HW := hide (show w1 = (w.alloc (.cells #[.string (S x.k), .int .i64 x.s, .int .i64 x.e, .int .i64 x.id] 31)).alloc (.cells #[.string ⟨#[]⟩, .int .i64 0, .int .i64 0, .int .i64 0] 31) from by rw [hw1, hw0])
  obtain ⟨c0, c1, c2, c3, _⟩ := HX.out.toBx
  clear hw0 hw1 hb0 hb1 hs0 hx
  go_enter Try.func36, Try.ntmps36
  go_wp2_with fail
  rw [← HW.out]
  refine (C1.out _).mono ?_
  rintro e w2 ⟨rfl, hb⟩
  have HX2 := hide (HX.out.later hb)
  have HR2 := hide (HR.out.later hb)
  have HB2 := hide (HB.out.trans (hb.mono HB.out.size))
  clear hb c0 c1 c2 c3 HX HR HB HW
  have z0 := HX2.out.z 0
  obtain ⟨d0, d1, d2, d3, _⟩ := HX2.out.set0.toBx
  obtain ⟨c0, c1, c2, c3, _⟩ := HX2.out.toBx
  obtain ⟨r0, r1, r2, r3, _⟩ := (HR2.out.other (b := w.heap.size) (j := 0) (by omega) (.string (S x.k))).toBx
  have y0 := HR2.out.z 0
  have y1 := HR2.out.z 1
  have y2 := HR2.out.z 2
  have y3 := HR2.out.z 3
  go_wp2_with fail
  refine bodyPost_ret (results_cell rfl _ _ rfl (load_itX (((HR2.out.other (b := w.heap.size) (j := 0) (by omega) (.string (S x.k))).set x).toBx))) rfl ?_
  exact ⟨rfl, ((((HB2.out.setCell (p := ⟨w.heap.size, 0, none⟩) (Nat.le_refl _) _).setCell (p := ⟨w.heap.size + 1, 0, none⟩) (Nat.le_succ _) _).setCell (p := ⟨w.heap.size + 1, 1, none⟩) (Nat.le_succ _) _).setCell (p := ⟨w.heap.size + 1, 2, none⟩) (Nat.le_succ _) _).setCell (p := ⟨w.heap.size + 1, 3, none⟩) (Nat.le_succ _) _⟩
end Idx
end Go.Proofs.Ytapdhelioecneaa
