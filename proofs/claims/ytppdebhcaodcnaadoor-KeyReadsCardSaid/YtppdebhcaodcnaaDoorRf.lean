/- The contract of read, arm by arm. Conditions: the text takes at most 2^45 bytes; the listed error variables read as the rows list them. -/
import Derived.Test.YtppdebhcaodcnaaDoorRe
namespace Go.Proofs.YtppdebhcaodcnaaDoor
open Go.RowKit
namespace Rd
theorem res_cells {w w1 : World} (hb : Below (w.alloc (.cells #[.int .i64 0, .int .i64 0, .int .u64 0, .string ⟨#[]⟩] 25)).heap.size (w.alloc (.cells #[.int .i64 0, .int .i64 0, .int .u64 0, .string ⟨#[]⟩] 25)) w1) :
    (w1.heap[w.heap.size]? = some (.cells #[.int .i64 0, .int .i64 0, .int .u64 0, .string ⟨#[]⟩] 25 (0, 0))) ∧ Below w.heap.size w w1 ∧ w.heap.size < w1.heap.size := by
  refine ⟨?_, ((Below.refl _ _).alloc (Nat.le_refl _) _).trans (hb.mono (by simp)), by have := hb.size; simp at this; omega⟩
  rw [hb.block _ (by simp)]
  show (w.heap.push _)[w.heap.size]? = _
  simp
def put4 (w1 : World) (B : Nat) (x0 x1 x2 x3 : Value) : World := (((w1.setCell ⟨B, 0, none⟩ x0).setCell ⟨B, 1, none⟩ x1).setCell ⟨B, 2, none⟩ x2).setCell ⟨B, 3, none⟩ x3
theorem put4_cells (w1 : World) (B : Nat) (x0 x1 x2 x3 : Value) {T : TypeId} {y0 y1 y2 y3 : Value} (h : w1.heap[B]? = some (.cells #[y0, y1, y2, y3] T (0, 0))) :
    (put4 w1 B x0 x1 x2 x3).heap[B]? = some (.cells #[x0, x1, x2, x3] T (0, 0)) := by
  simp [put4, World.setCell, Array.getElem?_modify, h]
theorem put4_below {w w1 : World} (B : Nat) (x0 x1 x2 x3 : Value) (h : Below B w w1) : Below B w (put4 w1 B x0 x1 x2 x3) :=
  (((h.setCell (p := ⟨B, 0, none⟩) (Nat.le_refl _) _).setCell (p := ⟨B, 1, none⟩) (Nat.le_refl _) _).setCell (p := ⟨B, 2, none⟩) (Nat.le_refl _) _).setCell (p := ⟨B, 3, none⟩) (Nat.le_refl _) _
/-- A failure: whatever value, and no. -/
def ReadErr (w : World) (e : Ending) (w' : World) : Prop := ∃ (k n : Int) (b : Nat) (t : ByteArray), e = .returned (.tuple #[.agg #[.int .i64 k, .int .i64 n, .int .u64 b, .string t], .bool false]) ∧ Below w.heap.size w w'
set_option maxHeartbeats 2000000 in
set_option maxRecDepth 100000 in
theorem read_null (s : ByteArray) (w : World) (_hmax : s.size ≤ 35184372088832) (a1 : (s.toList == [110, 117, 108, 108]) = true) :
    Calls Tryd.prog 37 #[.string s] w fun e w' => e = .returned (.tuple #[.agg #[.int .i64 0, .int .i64 0, .int .u64 0, .string ⟨#[]⟩], .bool true]) ∧ Below w.heap.size w w' := by
  go_enter Tryd.func37, Tryd.ntmps37
  go_wp2_with fail
  exact bodyPost_ret (v := .tuple #[.agg #[.int .i64 0, .int .i64 0, .int .u64 0, .string ⟨#[]⟩], .bool true]) (by simp [results, Tryd.results37, go_sem]) rfl ⟨rfl, (Below.refl _ _).alloc (Nat.le_refl _) _⟩
set_option maxHeartbeats 2000000 in
set_option maxRecDepth 100000 in
theorem read_false (s : ByteArray) (w : World) (_hmax : s.size ≤ 35184372088832) (a1 : (s.toList == [110, 117, 108, 108]) = false) (a2 : (s.toList == [102, 97, 108, 115, 101]) = true) :
    Calls Tryd.prog 37 #[.string s] w fun e w' => e = .returned (.tuple #[.agg #[.int .i64 1, .int .i64 0, .int .u64 0, .string ⟨#[]⟩], .bool true]) ∧ Below w.heap.size w w' := by
  go_enter Tryd.func37, Tryd.ntmps37
  go_wp2_with fail
  exact bodyPost_ret (v := .tuple #[.agg #[.int .i64 1, .int .i64 0, .int .u64 0, .string ⟨#[]⟩], .bool true]) (by simp [results, Tryd.results37, go_sem]) rfl ⟨rfl, (Below.refl _ _).alloc (Nat.le_refl _) _⟩
set_option maxHeartbeats 2000000 in
set_option maxRecDepth 100000 in
theorem read_true (s : ByteArray) (w : World) (_hmax : s.size ≤ 35184372088832) (a1 : (s.toList == [110, 117, 108, 108]) = false) (a2 : (s.toList == [102, 97, 108, 115, 101]) = false) (a3 : (s.toList == [116, 114, 117, 101]) = true) :
    Calls Tryd.prog 37 #[.string s] w fun e w' => e = .returned (.tuple #[.agg #[.int .i64 1, .int .i64 1, .int .u64 0, .string ⟨#[]⟩], .bool true]) ∧ Below w.heap.size w w' := by
  go_enter Tryd.func37, Tryd.ntmps37
  go_wp2_with fail
  exact bodyPost_ret (v := .tuple #[.agg #[.int .i64 1, .int .i64 1, .int .u64 0, .string ⟨#[]⟩], .bool true]) (by simp [results, Tryd.results37, go_sem]) rfl ⟨rfl, (Below.refl _ _).alloc (Nat.le_refl _) _⟩
set_option maxHeartbeats 2000000 in
set_option maxRecDepth 100000 in
theorem read_f (s : ByteArray) (w : World) (hmax : s.size ≤ 35184372088832) (a1 : (s.toList == [110, 117, 108, 108]) = false) (a2 : (s.toList == [102, 97, 108, 115, 101]) = false) (a3 : (s.toList == [116, 114, 117, 101]) = false) (a4 : Lib.hasPrefix s.data.toList [102] = true) (h1 : 1 ≤ s.size) (v : Nat) (hv : puAll 18446744073709551615 (s.data.toList.drop 1) = some (some v)) :
    Calls Tryd.prog 37 #[.string s] w fun e w' => e = .returned (.tuple #[.agg #[.int .i64 3, .int .i64 0, .int .u64 v, .string ⟨#[]⟩], .bool true]) ∧ Below w.heap.size w w' := by
  have HV : Hid (puAll 18446744073709551615 (s.extract 1 s.size).data.toList = some (some v)) := by
    refine Lib.hid ?_
    rw [ext_list, List.take_of_length_le (by simp)]; exact hv
  clear hv
  go_enter Tryd.func37, Tryd.ntmps37
  go_wp2_with (go_at_call 62; refine (Tryd.strings_HasPrefix _ _ _).mono ?_; rintro e w' ⟨rfl, rfl⟩)
  refine (parseUint_ok _ 64 18446744073709551615 (Or.inl ⟨rfl, rfl⟩) (by simp; omega) v HV.out _).mono ?_
  rintro e w1 ⟨rfl, hb⟩
  obtain ⟨hblk, hB, hz⟩ := res_cells hb
  clear hb
  have c0 : w1.cell? ⟨w.heap.size, 0, none⟩ = some (.int .i64 0) := by rw [Lib.cell_of_heap hblk]; rfl
  have c1 : w1.cell? ⟨w.heap.size, 1, none⟩ = some (.int .i64 0) := by rw [Lib.cell_of_heap hblk]; rfl
  have c2 : w1.cell? ⟨w.heap.size, 2, none⟩ = some (.int .u64 0) := by rw [Lib.cell_of_heap hblk]; rfl
  have c3 : w1.cell? ⟨w.heap.size, 3, none⟩ = some (.string ⟨#[]⟩) := by rw [Lib.cell_of_heap hblk]; rfl
  have f0 : ∀ j, w1.frozen? ⟨w.heap.size, j, none⟩ = false := fun j => Lib.frozen_of_heap hblk j
  have hP := put4_cells w1 w.heap.size (.int .i64 3) (.int .i64 0) (.int .u64 v) (.string ⟨#[]⟩) hblk
  have HP := Lib.hid hP
  clear hblk hP
  go_wp2_with fail
  go_region
  all_goals (go_wp2_with fail)
  have q0 : (put4 w1 w.heap.size (.int .i64 3) (.int .i64 0) (.int .u64 v) (.string ⟨#[]⟩)).cell? ⟨w.heap.size, 0, none⟩ = some (.int .i64 3) := by rw [Lib.cell_of_heap HP.out]; rfl
  have q1 : (put4 w1 w.heap.size (.int .i64 3) (.int .i64 0) (.int .u64 v) (.string ⟨#[]⟩)).cell? ⟨w.heap.size, 1, none⟩ = some (.int .i64 0) := by rw [Lib.cell_of_heap HP.out]; rfl
  have q2 : (put4 w1 w.heap.size (.int .i64 3) (.int .i64 0) (.int .u64 v) (.string ⟨#[]⟩)).cell? ⟨w.heap.size, 2, none⟩ = some (.int .u64 v) := by rw [Lib.cell_of_heap HP.out]; rfl
  have q3 : (put4 w1 w.heap.size (.int .i64 3) (.int .i64 0) (.int .u64 v) (.string ⟨#[]⟩)).cell? ⟨w.heap.size, 3, none⟩ = some (.string ⟨#[]⟩) := by rw [Lib.cell_of_heap HP.out]; rfl
  show bodyPost _ _ _ _ _ (put4 w1 w.heap.size (.int .i64 3) (.int .i64 0) (.int .u64 v) (.string ⟨#[]⟩)).drew
  exact bodyPost_ret (v := .tuple #[.agg #[.int .i64 3, .int .i64 0, .int .u64 v, .string ⟨#[]⟩], .bool true]) (by simp [results, Tryd.results37, go_sem, q0, q1, q2, q3]) rfl ⟨rfl, (put4_below _ _ _ _ _ hB).drew⟩
set_option maxHeartbeats 2000000 in
set_option maxRecDepth 100000 in
theorem read_f_err (s : ByteArray) (w : World) (hmax : s.size ≤ 35184372088832) (a1 : (s.toList == [110, 117, 108, 108]) = false) (a2 : (s.toList == [102, 97, 108, 115, 101]) = false) (a3 : (s.toList == [116, 114, 117, 101]) = false) (a4 : Lib.hasPrefix s.data.toList [102] = true) (h1 : 1 ≤ s.size) (hv : ∀ v, puAll 18446744073709551615 (s.data.toList.drop 1) ≠ some (some v)) (he : Val.Env w) :
    Calls Tryd.prog 37 #[.string s] w (ReadErr w) := by
  have HV : Hid (∀ v, puAll 18446744073709551615 (s.extract 1 s.size).data.toList ≠ some (some v)) := by
    refine Lib.hid (fun v => ?_)
    rw [ext_list, List.take_of_length_le (by simp)]; exact hv v
  clear hv
  have HE := Lib.hid (he.below ((Below.refl w.heap.size w).alloc (Nat.le_refl _) (.cells #[.int .i64 0, .int .i64 0, .int .u64 0, .string ⟨#[]⟩] 25)))
  clear he
  go_enter Tryd.func37, Tryd.ntmps37
  go_wp2_with (go_at_call 62; refine (Tryd.strings_HasPrefix _ _ _).mono ?_; rintro e w' ⟨rfl, rfl⟩)
  refine (parseUint_err _ 64 18446744073709551615 (Or.inl ⟨rfl, rfl⟩) (by simp; omega) HV.out _ HE.out).mono ?_
  rintro e w1 ⟨x, N, rfl, hb⟩
  obtain ⟨hblk, hB, hz⟩ := res_cells hb
  clear hb
  have c0 : w1.cell? ⟨w.heap.size, 0, none⟩ = some (.int .i64 0) := by rw [Lib.cell_of_heap hblk]; rfl
  have c1 : w1.cell? ⟨w.heap.size, 1, none⟩ = some (.int .i64 0) := by rw [Lib.cell_of_heap hblk]; rfl
  have c2 : w1.cell? ⟨w.heap.size, 2, none⟩ = some (.int .u64 0) := by rw [Lib.cell_of_heap hblk]; rfl
  have c3 : w1.cell? ⟨w.heap.size, 3, none⟩ = some (.string ⟨#[]⟩) := by rw [Lib.cell_of_heap hblk]; rfl
  have f0 : ∀ j, w1.frozen? ⟨w.heap.size, j, none⟩ = false := fun j => Lib.frozen_of_heap hblk j
  have hP := put4_cells w1 w.heap.size (.int .i64 3) (.int .i64 0) (.int .u64 x) (.string ⟨#[]⟩) hblk
  have HP := Lib.hid hP
  clear hblk hP
  go_wp2_with fail
  go_region
  all_goals (go_wp2_with fail)
  have q0 : (put4 w1 w.heap.size (.int .i64 3) (.int .i64 0) (.int .u64 x) (.string ⟨#[]⟩)).cell? ⟨w.heap.size, 0, none⟩ = some (.int .i64 3) := by rw [Lib.cell_of_heap HP.out]; rfl
  have q1 : (put4 w1 w.heap.size (.int .i64 3) (.int .i64 0) (.int .u64 x) (.string ⟨#[]⟩)).cell? ⟨w.heap.size, 1, none⟩ = some (.int .i64 0) := by rw [Lib.cell_of_heap HP.out]; rfl
  have q2 : (put4 w1 w.heap.size (.int .i64 3) (.int .i64 0) (.int .u64 x) (.string ⟨#[]⟩)).cell? ⟨w.heap.size, 2, none⟩ = some (.int .u64 x) := by rw [Lib.cell_of_heap HP.out]; rfl
  have q3 : (put4 w1 w.heap.size (.int .i64 3) (.int .i64 0) (.int .u64 x) (.string ⟨#[]⟩)).cell? ⟨w.heap.size, 3, none⟩ = some (.string ⟨#[]⟩) := by rw [Lib.cell_of_heap HP.out]; rfl
  show bodyPost _ _ _ _ _ (put4 w1 w.heap.size (.int .i64 3) (.int .i64 0) (.int .u64 x) (.string ⟨#[]⟩)).drew
  exact bodyPost_ret (v := .tuple #[.agg #[.int .i64 3, .int .i64 0, .int .u64 x, .string ⟨#[]⟩], .bool false]) (by simp [results, Tryd.results37, go_sem, q0, q1, q2, q3]) rfl ⟨3, 0, x, ⟨#[]⟩, rfl, (put4_below _ _ _ _ _ hB).drew⟩
set_option maxHeartbeats 2000000 in
set_option maxRecDepth 100000 in
theorem read_x (s : ByteArray) (w : World) (hmax : s.size ≤ 35184372088832) (a1 : (s.toList == [110, 117, 108, 108]) = false) (a2 : (s.toList == [102, 97, 108, 115, 101]) = false) (a3 : (s.toList == [116, 114, 117, 101]) = false) (a4 : Lib.hasPrefix s.data.toList [102] = false) (a5 : Lib.hasPrefix s.data.toList [120] = true) (h1 : 1 ≤ s.size) (bs : List UInt8) (hv : rdBytes (s.data.toList.drop 1) = some bs) :
    Calls Tryd.prog 37 #[.string s] w fun e w' => e = .returned (.tuple #[.agg #[.int .i64 4, .int .i64 0, .int .u64 0, .string ⟨bs.toArray⟩], .bool true]) ∧ Below w.heap.size w w' := by
  have HV : Hid (rdBytes (s.extract 1 s.size).data.toList = some bs) := by
    refine Lib.hid ?_
    rw [ext_list, List.take_of_length_le (by simp)]; exact hv
  clear hv
  go_enter Tryd.func37, Tryd.ntmps37
  go_wp2_with (go_at_call 62; refine (Tryd.strings_HasPrefix _ _ _).mono ?_; rintro e w' ⟨rfl, rfl⟩)
  refine (readBytes_ok _ bs HV.out (by simp; omega) _).mono ?_
  rintro e w1 ⟨rfl, hb⟩
  obtain ⟨hblk, hB, hz⟩ := res_cells hb
  clear hb
  have c0 : w1.cell? ⟨w.heap.size, 0, none⟩ = some (.int .i64 0) := by rw [Lib.cell_of_heap hblk]; rfl
  have c1 : w1.cell? ⟨w.heap.size, 1, none⟩ = some (.int .i64 0) := by rw [Lib.cell_of_heap hblk]; rfl
  have c2 : w1.cell? ⟨w.heap.size, 2, none⟩ = some (.int .u64 0) := by rw [Lib.cell_of_heap hblk]; rfl
  have c3 : w1.cell? ⟨w.heap.size, 3, none⟩ = some (.string ⟨#[]⟩) := by rw [Lib.cell_of_heap hblk]; rfl
  have f0 : ∀ j, w1.frozen? ⟨w.heap.size, j, none⟩ = false := fun j => Lib.frozen_of_heap hblk j
  have hP := put4_cells w1 w.heap.size (.int .i64 4) (.int .i64 0) (.int .u64 0) (.string ⟨bs.toArray⟩) hblk
  have HP := Lib.hid hP
  clear hblk hP
  go_wp2_with fail
  have q0 : (put4 w1 w.heap.size (.int .i64 4) (.int .i64 0) (.int .u64 0) (.string ⟨bs.toArray⟩)).cell? ⟨w.heap.size, 0, none⟩ = some (.int .i64 4) := by rw [Lib.cell_of_heap HP.out]; rfl
  have q1 : (put4 w1 w.heap.size (.int .i64 4) (.int .i64 0) (.int .u64 0) (.string ⟨bs.toArray⟩)).cell? ⟨w.heap.size, 1, none⟩ = some (.int .i64 0) := by rw [Lib.cell_of_heap HP.out]; rfl
  have q2 : (put4 w1 w.heap.size (.int .i64 4) (.int .i64 0) (.int .u64 0) (.string ⟨bs.toArray⟩)).cell? ⟨w.heap.size, 2, none⟩ = some (.int .u64 0) := by rw [Lib.cell_of_heap HP.out]; rfl
  have q3 : (put4 w1 w.heap.size (.int .i64 4) (.int .i64 0) (.int .u64 0) (.string ⟨bs.toArray⟩)).cell? ⟨w.heap.size, 3, none⟩ = some (.string ⟨bs.toArray⟩) := by rw [Lib.cell_of_heap HP.out]; rfl
  show bodyPost _ _ _ _ _ (put4 w1 w.heap.size (.int .i64 4) (.int .i64 0) (.int .u64 0) (.string ⟨bs.toArray⟩))
  exact bodyPost_ret (v := .tuple #[.agg #[.int .i64 4, .int .i64 0, .int .u64 0, .string ⟨bs.toArray⟩], .bool true]) (by simp [results, Tryd.results37, go_sem, q0, q1, q2, q3]) rfl ⟨rfl, (put4_below _ _ _ _ _ hB)⟩
set_option maxHeartbeats 2000000 in
set_option maxRecDepth 100000 in
theorem read_x_err (s : ByteArray) (w : World) (hmax : s.size ≤ 35184372088832) (a1 : (s.toList == [110, 117, 108, 108]) = false) (a2 : (s.toList == [102, 97, 108, 115, 101]) = false) (a3 : (s.toList == [116, 114, 117, 101]) = false) (a4 : Lib.hasPrefix s.data.toList [102] = false) (a5 : Lib.hasPrefix s.data.toList [120] = true) (h1 : 1 ≤ s.size) (hv : rdBytes (s.data.toList.drop 1) = none) (he : Val.Env w) :
    Calls Tryd.prog 37 #[.string s] w (ReadErr w) := by
  have HV : Hid (rdBytes (s.extract 1 s.size).data.toList = none) := by
    refine Lib.hid ?_
    rw [ext_list, List.take_of_length_le (by simp)]; exact hv
  clear hv
  have HE := Lib.hid (he.below ((Below.refl w.heap.size w).alloc (Nat.le_refl _) (.cells #[.int .i64 0, .int .i64 0, .int .u64 0, .string ⟨#[]⟩] 25)))
  clear he
  go_enter Tryd.func37, Tryd.ntmps37
  go_wp2_with (go_at_call 62; refine (Tryd.strings_HasPrefix _ _ _).mono ?_; rintro e w' ⟨rfl, rfl⟩)
  refine (readBytes_err _ HV.out (by simp; omega) _ HE.out).mono ?_
  rintro e w1 ⟨rfl, hb⟩
  obtain ⟨hblk, hB, hz⟩ := res_cells hb
  clear hb
  have c0 : w1.cell? ⟨w.heap.size, 0, none⟩ = some (.int .i64 0) := by rw [Lib.cell_of_heap hblk]; rfl
  have c1 : w1.cell? ⟨w.heap.size, 1, none⟩ = some (.int .i64 0) := by rw [Lib.cell_of_heap hblk]; rfl
  have c2 : w1.cell? ⟨w.heap.size, 2, none⟩ = some (.int .u64 0) := by rw [Lib.cell_of_heap hblk]; rfl
  have c3 : w1.cell? ⟨w.heap.size, 3, none⟩ = some (.string ⟨#[]⟩) := by rw [Lib.cell_of_heap hblk]; rfl
  have f0 : ∀ j, w1.frozen? ⟨w.heap.size, j, none⟩ = false := fun j => Lib.frozen_of_heap hblk j
  have hP := put4_cells w1 w.heap.size (.int .i64 4) (.int .i64 0) (.int .u64 0) (.string ⟨#[]⟩) hblk
  have HP := Lib.hid hP
  clear hblk hP
  go_wp2_with fail
  have q0 : (put4 w1 w.heap.size (.int .i64 4) (.int .i64 0) (.int .u64 0) (.string ⟨#[]⟩)).cell? ⟨w.heap.size, 0, none⟩ = some (.int .i64 4) := by rw [Lib.cell_of_heap HP.out]; rfl
  have q1 : (put4 w1 w.heap.size (.int .i64 4) (.int .i64 0) (.int .u64 0) (.string ⟨#[]⟩)).cell? ⟨w.heap.size, 1, none⟩ = some (.int .i64 0) := by rw [Lib.cell_of_heap HP.out]; rfl
  have q2 : (put4 w1 w.heap.size (.int .i64 4) (.int .i64 0) (.int .u64 0) (.string ⟨#[]⟩)).cell? ⟨w.heap.size, 2, none⟩ = some (.int .u64 0) := by rw [Lib.cell_of_heap HP.out]; rfl
  have q3 : (put4 w1 w.heap.size (.int .i64 4) (.int .i64 0) (.int .u64 0) (.string ⟨#[]⟩)).cell? ⟨w.heap.size, 3, none⟩ = some (.string ⟨#[]⟩) := by rw [Lib.cell_of_heap HP.out]; rfl
  show bodyPost _ _ _ _ _ (put4 w1 w.heap.size (.int .i64 4) (.int .i64 0) (.int .u64 0) (.string ⟨#[]⟩))
  exact bodyPost_ret (v := .tuple #[.agg #[.int .i64 4, .int .i64 0, .int .u64 0, .string ⟨#[]⟩], .bool false]) (by simp [results, Tryd.results37, go_sem, q0, q1, q2, q3]) rfl ⟨4, 0, 0, ⟨#[]⟩, rfl, (put4_below _ _ _ _ _ hB)⟩
set_option maxHeartbeats 2000000 in
set_option maxRecDepth 100000 in
theorem read_t (s : ByteArray) (w : World) (hmax : s.size ≤ 35184372088832) (a1 : (s.toList == [110, 117, 108, 108]) = false) (a2 : (s.toList == [102, 97, 108, 115, 101]) = false) (a3 : (s.toList == [116, 114, 117, 101]) = false) (a4 : Lib.hasPrefix s.data.toList [102] = false) (a5 : Lib.hasPrefix s.data.toList [120] = false) (h1 : 1 < s.size) (q34 : ((s[0].toNat : Int) == 34) = true) (r34 : ((s[s.size - 1].toNat : Int) == 34) = true) (f : Nat) (bs : List UInt8) (hv : rdText f ((s.data.toList.drop 1).take (s.size - 1 - 1)) = some bs) :
    Calls Tryd.prog 37 #[.string s] w fun e w' => e = .returned (.tuple #[.agg #[.int .i64 5, .int .i64 0, .int .u64 0, .string ⟨bs.toArray⟩], .bool true]) ∧ Below w.heap.size w w' := by
  have HV : Hid (rdText f (s.extract 1 (s.size - 1)).data.toList = some bs) := by
    refine Lib.hid ?_
    rw [ext_list]; exact hv
  clear hv
  go_enter Tryd.func37, Tryd.ntmps37
  go_wp2_with (go_at_call 62; refine (Tryd.strings_HasPrefix _ _ _).mono ?_; rintro e w' ⟨rfl, rfl⟩)
  refine (readText_ok _ f bs HV.out (by simp; omega) _).mono ?_
  rintro e w1 ⟨rfl, hb⟩
  obtain ⟨hblk, hB, hz⟩ := res_cells hb
  clear hb
  have c0 : w1.cell? ⟨w.heap.size, 0, none⟩ = some (.int .i64 0) := by rw [Lib.cell_of_heap hblk]; rfl
  have c1 : w1.cell? ⟨w.heap.size, 1, none⟩ = some (.int .i64 0) := by rw [Lib.cell_of_heap hblk]; rfl
  have c2 : w1.cell? ⟨w.heap.size, 2, none⟩ = some (.int .u64 0) := by rw [Lib.cell_of_heap hblk]; rfl
  have c3 : w1.cell? ⟨w.heap.size, 3, none⟩ = some (.string ⟨#[]⟩) := by rw [Lib.cell_of_heap hblk]; rfl
  have f0 : ∀ j, w1.frozen? ⟨w.heap.size, j, none⟩ = false := fun j => Lib.frozen_of_heap hblk j
  have hP := put4_cells w1 w.heap.size (.int .i64 5) (.int .i64 0) (.int .u64 0) (.string ⟨bs.toArray⟩) hblk
  have HP := Lib.hid hP
  clear hblk hP
  go_wp2_with fail
  have q0 : (put4 w1 w.heap.size (.int .i64 5) (.int .i64 0) (.int .u64 0) (.string ⟨bs.toArray⟩)).cell? ⟨w.heap.size, 0, none⟩ = some (.int .i64 5) := by rw [Lib.cell_of_heap HP.out]; rfl
  have q1 : (put4 w1 w.heap.size (.int .i64 5) (.int .i64 0) (.int .u64 0) (.string ⟨bs.toArray⟩)).cell? ⟨w.heap.size, 1, none⟩ = some (.int .i64 0) := by rw [Lib.cell_of_heap HP.out]; rfl
  have q2 : (put4 w1 w.heap.size (.int .i64 5) (.int .i64 0) (.int .u64 0) (.string ⟨bs.toArray⟩)).cell? ⟨w.heap.size, 2, none⟩ = some (.int .u64 0) := by rw [Lib.cell_of_heap HP.out]; rfl
  have q3 : (put4 w1 w.heap.size (.int .i64 5) (.int .i64 0) (.int .u64 0) (.string ⟨bs.toArray⟩)).cell? ⟨w.heap.size, 3, none⟩ = some (.string ⟨bs.toArray⟩) := by rw [Lib.cell_of_heap HP.out]; rfl
  show bodyPost _ _ _ _ _ (put4 w1 w.heap.size (.int .i64 5) (.int .i64 0) (.int .u64 0) (.string ⟨bs.toArray⟩))
  exact bodyPost_ret (v := .tuple #[.agg #[.int .i64 5, .int .i64 0, .int .u64 0, .string ⟨bs.toArray⟩], .bool true]) (by simp [results, Tryd.results37, go_sem, q0, q1, q2, q3]) rfl ⟨rfl, (put4_below _ _ _ _ _ hB)⟩
end Rd
end Go.Proofs.YtppdebhcaodcnaaDoor
