/- The contract of read, the arms of Texts and Ints. Conditions: the text takes at most 2^45 bytes; the listed error variables read as the rows list them. -/
import Derived.Test.YtppdebhcaodcnaaDoorRf
namespace Go.Proofs.YtppdebhcaodcnaaDoor
open Go.RowKit
namespace Rd
set_option maxHeartbeats 2000000 in
set_option maxRecDepth 100000 in
theorem read_t_err (s : ByteArray) (w : World) (hmax : s.size ≤ 35184372088832) (a1 : (s.toList == [110, 117, 108, 108]) = false) (a2 : (s.toList == [102, 97, 108, 115, 101]) = false) (a3 : (s.toList == [116, 114, 117, 101]) = false) (a4 : Lib.hasPrefix s.data.toList [102] = false) (a5 : Lib.hasPrefix s.data.toList [120] = false) (h1 : 1 < s.size) (q34 : ((s[0].toNat : Int) == 34) = true) (r34 : ((s[s.size - 1].toNat : Int) == 34) = true) (f : Nat) (hv : rdText f ((s.data.toList.drop 1).take (s.size - 1 - 1)) = none) (hf : ((s.data.toList.drop 1).take (s.size - 1 - 1)).length ≤ f) (he : Val.Env w) :
    Calls Tryd.prog 37 #[.string s] w (ReadErr w) := by
  have HV : Hid (rdText f (s.extract 1 (s.size - 1)).data.toList = none) := by
    refine Lib.hid ?_
    rw [ext_list]; exact hv
  have HF : Hid ((s.extract 1 (s.size - 1)).data.toList.length ≤ f) := by
    refine Lib.hid ?_
    rw [ext_list]; exact hf
  clear hv hf
  have HE := Lib.hid (he.below ((Below.refl w.heap.size w).alloc (Nat.le_refl _) (.cells #[.int .i64 0, .int .i64 0, .int .u64 0, .string ⟨#[]⟩] 25)))
  clear he
  go_enter Tryd.func37, Tryd.ntmps37
  go_wp2_with (go_at_call 62; refine (Tryd.strings_HasPrefix _ _ _).mono ?_; rintro e w' ⟨rfl, rfl⟩)
  refine (readText_err _ f HV.out HF.out (by simp; omega) _ HE.out).mono ?_
  rintro e w1 ⟨rfl, hb⟩
  obtain ⟨hblk, hB, hz⟩ := res_cells hb
  clear hb
  have c0 : w1.cell? ⟨w.heap.size, 0, none⟩ = some (.int .i64 0) := by rw [Lib.cell_of_heap hblk]; rfl
  have c1 : w1.cell? ⟨w.heap.size, 1, none⟩ = some (.int .i64 0) := by rw [Lib.cell_of_heap hblk]; rfl
  have c2 : w1.cell? ⟨w.heap.size, 2, none⟩ = some (.int .u64 0) := by rw [Lib.cell_of_heap hblk]; rfl
  have c3 : w1.cell? ⟨w.heap.size, 3, none⟩ = some (.string ⟨#[]⟩) := by rw [Lib.cell_of_heap hblk]; rfl
  have f0 : ∀ j, w1.frozen? ⟨w.heap.size, j, none⟩ = false := fun j => Lib.frozen_of_heap hblk j
  have hP := put4_cells w1 w.heap.size (.int .i64 5) (.int .i64 0) (.int .u64 0) (.string ⟨#[]⟩) hblk
  have HP := Lib.hid hP
  clear hblk hP
  go_wp2_with fail
  have q0 : (put4 w1 w.heap.size (.int .i64 5) (.int .i64 0) (.int .u64 0) (.string ⟨#[]⟩)).cell? ⟨w.heap.size, 0, none⟩ = some (.int .i64 5) := by rw [Lib.cell_of_heap HP.out]; rfl
  have q1 : (put4 w1 w.heap.size (.int .i64 5) (.int .i64 0) (.int .u64 0) (.string ⟨#[]⟩)).cell? ⟨w.heap.size, 1, none⟩ = some (.int .i64 0) := by rw [Lib.cell_of_heap HP.out]; rfl
  have q2 : (put4 w1 w.heap.size (.int .i64 5) (.int .i64 0) (.int .u64 0) (.string ⟨#[]⟩)).cell? ⟨w.heap.size, 2, none⟩ = some (.int .u64 0) := by rw [Lib.cell_of_heap HP.out]; rfl
  have q3 : (put4 w1 w.heap.size (.int .i64 5) (.int .i64 0) (.int .u64 0) (.string ⟨#[]⟩)).cell? ⟨w.heap.size, 3, none⟩ = some (.string ⟨#[]⟩) := by rw [Lib.cell_of_heap HP.out]; rfl
  show bodyPost _ _ _ _ _ (put4 w1 w.heap.size (.int .i64 5) (.int .i64 0) (.int .u64 0) (.string ⟨#[]⟩))
  exact bodyPost_ret (v := .tuple #[.agg #[.int .i64 5, .int .i64 0, .int .u64 0, .string ⟨#[]⟩], .bool false]) (by simp [results, Tryd.results37, go_sem, q0, q1, q2, q3]) rfl ⟨5, 0, 0, ⟨#[]⟩, rfl, (put4_below _ _ _ _ _ hB)⟩
theorem atoi_ok (s : ByteArray) (hmax : s.size ≤ 35184372088832) (v : Int) (h : Lib.atoiAll s.data.toList = .ok v) (w : World) :
    Calls Tryd.prog 66 #[.string s] w fun e w' => e = .returned (.tuple #[.int .i64 v, .nilIface]) ∧ Below w.heap.size w w' := by
  refine (Tryd.strconv_Atoi_ok s (by omega) v h w).mono ?_
  rintro e w' ⟨rfl, h⟩
  refine ⟨rfl, ?_⟩
  rcases h with rfl | ⟨t, rfl⟩
  · exact Below.refl _ _
  · exact Lib.bytesWorld_below _ _ _
def AtoiErr (w : World) (e : Ending) (w' : World) : Prop := ∃ (x : Int) (N : Nat), e = .returned (.tuple #[.int .i64 x, .iface 107 (.pointer (some ⟨N, 0, none⟩))]) ∧ Below w.heap.size w w'
theorem atoi_err (s : ByteArray) (hmax : s.size ≤ 35184372088832) (h : ∀ v, Lib.atoiAll s.data.toList ≠ .ok v) (w : World) (he : Val.Env w) :
    Calls Tryd.prog 66 #[.string s] w (AtoiErr w) := by
  rcases hr : Lib.atoiAll s.data.toList with v | _ | _
  · exact absurd hr (h v)
  · obtain ⟨tp, p, hv⟩ := he.syn
    refine (Any.strconv_Atoi_syntax_var Tryd.laysC172 s (by omega) hr tp p w hv).mono ?_
    rintro e w' ⟨N, rfl, _, _, hb⟩
    exact ⟨0, N, rfl, hb⟩
  · obtain ⟨tp, p, hv⟩ := he.rng
    refine (Any.strconv_Atoi_range_var Tryd.laysC172 s (by omega) hr tp p w hv).mono ?_
    rintro e w' ⟨N, rfl, _, _, hb⟩
    exact ⟨_, N, rfl, hb⟩
set_option maxHeartbeats 2000000 in
set_option maxRecDepth 100000 in
theorem read_i0 (s : ByteArray) (w : World) (hmax : s.size ≤ 35184372088832) (a1 : (s.toList == [110, 117, 108, 108]) = false) (a2 : (s.toList == [102, 97, 108, 115, 101]) = false) (a3 : (s.toList == [116, 114, 117, 101]) = false) (a4 : Lib.hasPrefix s.data.toList [102] = false) (a5 : Lib.hasPrefix s.data.toList [120] = false) (h1 : s.size ≤ 1) (v : Int) (hv : Lib.atoiAll s.data.toList = .ok v) :
    Calls Tryd.prog 37 #[.string s] w fun e w' => e = .returned (.tuple #[.agg #[.int .i64 2, .int .i64 v, .int .u64 0, .string ⟨#[]⟩], .bool true]) ∧ Below w.heap.size w w' := by
  have HV := Lib.hid hv
  clear hv
  go_enter Tryd.func37, Tryd.ntmps37
  go_wp2_with (go_at_call 62; refine (Tryd.strings_HasPrefix _ _ _).mono ?_; rintro e w' ⟨rfl, rfl⟩)
  refine (atoi_ok s hmax v HV.out _).mono ?_
  rintro e w1 ⟨rfl, hb⟩
  obtain ⟨hblk, hB, hz⟩ := res_cells hb
  clear hb
  have c0 : w1.cell? ⟨w.heap.size, 0, none⟩ = some (.int .i64 0) := by rw [Lib.cell_of_heap hblk]; rfl
  have c1 : w1.cell? ⟨w.heap.size, 1, none⟩ = some (.int .i64 0) := by rw [Lib.cell_of_heap hblk]; rfl
  have c2 : w1.cell? ⟨w.heap.size, 2, none⟩ = some (.int .u64 0) := by rw [Lib.cell_of_heap hblk]; rfl
  have c3 : w1.cell? ⟨w.heap.size, 3, none⟩ = some (.string ⟨#[]⟩) := by rw [Lib.cell_of_heap hblk]; rfl
  have f0 : ∀ j, w1.frozen? ⟨w.heap.size, j, none⟩ = false := fun j => Lib.frozen_of_heap hblk j
  have hP := put4_cells w1 w.heap.size (.int .i64 2) (.int .i64 v) (.int .u64 0) (.string ⟨#[]⟩) hblk
  have HP := Lib.hid hP
  clear hblk hP
  go_wp2_with fail
  go_region
  all_goals (go_wp2_with fail)
  have q0 : (put4 w1 w.heap.size (.int .i64 2) (.int .i64 v) (.int .u64 0) (.string ⟨#[]⟩)).cell? ⟨w.heap.size, 0, none⟩ = some (.int .i64 2) := by rw [Lib.cell_of_heap HP.out]; rfl
  have q1 : (put4 w1 w.heap.size (.int .i64 2) (.int .i64 v) (.int .u64 0) (.string ⟨#[]⟩)).cell? ⟨w.heap.size, 1, none⟩ = some (.int .i64 v) := by rw [Lib.cell_of_heap HP.out]; rfl
  have q2 : (put4 w1 w.heap.size (.int .i64 2) (.int .i64 v) (.int .u64 0) (.string ⟨#[]⟩)).cell? ⟨w.heap.size, 2, none⟩ = some (.int .u64 0) := by rw [Lib.cell_of_heap HP.out]; rfl
  have q3 : (put4 w1 w.heap.size (.int .i64 2) (.int .i64 v) (.int .u64 0) (.string ⟨#[]⟩)).cell? ⟨w.heap.size, 3, none⟩ = some (.string ⟨#[]⟩) := by rw [Lib.cell_of_heap HP.out]; rfl
  show bodyPost _ _ _ _ _ (put4 w1 w.heap.size (.int .i64 2) (.int .i64 v) (.int .u64 0) (.string ⟨#[]⟩)).drew
  exact bodyPost_ret (v := .tuple #[.agg #[.int .i64 2, .int .i64 v, .int .u64 0, .string ⟨#[]⟩], .bool true]) (by simp [results, Tryd.results37, go_sem, q0, q1, q2, q3]) rfl ⟨rfl, (put4_below _ _ _ _ _ hB).drew⟩
set_option maxHeartbeats 2000000 in
set_option maxRecDepth 100000 in
theorem read_i0_err (s : ByteArray) (w : World) (hmax : s.size ≤ 35184372088832) (a1 : (s.toList == [110, 117, 108, 108]) = false) (a2 : (s.toList == [102, 97, 108, 115, 101]) = false) (a3 : (s.toList == [116, 114, 117, 101]) = false) (a4 : Lib.hasPrefix s.data.toList [102] = false) (a5 : Lib.hasPrefix s.data.toList [120] = false) (h1 : s.size ≤ 1) (hv : ∀ v, Lib.atoiAll s.data.toList ≠ .ok v) (he : Val.Env w) :
    Calls Tryd.prog 37 #[.string s] w (ReadErr w) := by
  have HV := Lib.hid hv
  clear hv
  have HE := Lib.hid (he.below ((Below.refl w.heap.size w).alloc (Nat.le_refl _) (.cells #[.int .i64 0, .int .i64 0, .int .u64 0, .string ⟨#[]⟩] 25)))
  clear he
  go_enter Tryd.func37, Tryd.ntmps37
  go_wp2_with (go_at_call 62; refine (Tryd.strings_HasPrefix _ _ _).mono ?_; rintro e w' ⟨rfl, rfl⟩)
  refine (atoi_err s hmax HV.out _ HE.out).mono ?_
  rintro e w1 ⟨x, N, rfl, hb⟩
  obtain ⟨hblk, hB, hz⟩ := res_cells hb
  clear hb
  have c0 : w1.cell? ⟨w.heap.size, 0, none⟩ = some (.int .i64 0) := by rw [Lib.cell_of_heap hblk]; rfl
  have c1 : w1.cell? ⟨w.heap.size, 1, none⟩ = some (.int .i64 0) := by rw [Lib.cell_of_heap hblk]; rfl
  have c2 : w1.cell? ⟨w.heap.size, 2, none⟩ = some (.int .u64 0) := by rw [Lib.cell_of_heap hblk]; rfl
  have c3 : w1.cell? ⟨w.heap.size, 3, none⟩ = some (.string ⟨#[]⟩) := by rw [Lib.cell_of_heap hblk]; rfl
  have f0 : ∀ j, w1.frozen? ⟨w.heap.size, j, none⟩ = false := fun j => Lib.frozen_of_heap hblk j
  have hP := put4_cells w1 w.heap.size (.int .i64 2) (.int .i64 x) (.int .u64 0) (.string ⟨#[]⟩) hblk
  have HP := Lib.hid hP
  clear hblk hP
  go_wp2_with fail
  go_region
  all_goals (go_wp2_with fail)
  have q0 : (put4 w1 w.heap.size (.int .i64 2) (.int .i64 x) (.int .u64 0) (.string ⟨#[]⟩)).cell? ⟨w.heap.size, 0, none⟩ = some (.int .i64 2) := by rw [Lib.cell_of_heap HP.out]; rfl
  have q1 : (put4 w1 w.heap.size (.int .i64 2) (.int .i64 x) (.int .u64 0) (.string ⟨#[]⟩)).cell? ⟨w.heap.size, 1, none⟩ = some (.int .i64 x) := by rw [Lib.cell_of_heap HP.out]; rfl
  have q2 : (put4 w1 w.heap.size (.int .i64 2) (.int .i64 x) (.int .u64 0) (.string ⟨#[]⟩)).cell? ⟨w.heap.size, 2, none⟩ = some (.int .u64 0) := by rw [Lib.cell_of_heap HP.out]; rfl
  have q3 : (put4 w1 w.heap.size (.int .i64 2) (.int .i64 x) (.int .u64 0) (.string ⟨#[]⟩)).cell? ⟨w.heap.size, 3, none⟩ = some (.string ⟨#[]⟩) := by rw [Lib.cell_of_heap HP.out]; rfl
  show bodyPost _ _ _ _ _ (put4 w1 w.heap.size (.int .i64 2) (.int .i64 x) (.int .u64 0) (.string ⟨#[]⟩)).drew
  exact bodyPost_ret (v := .tuple #[.agg #[.int .i64 2, .int .i64 x, .int .u64 0, .string ⟨#[]⟩], .bool false]) (by simp [results, Tryd.results37, go_sem, q0, q1, q2, q3]) rfl ⟨2, x, 0, ⟨#[]⟩, rfl, (put4_below _ _ _ _ _ hB).drew⟩
set_option maxHeartbeats 2000000 in
set_option maxRecDepth 100000 in
theorem read_i1 (s : ByteArray) (w : World) (hmax : s.size ≤ 35184372088832) (a1 : (s.toList == [110, 117, 108, 108]) = false) (a2 : (s.toList == [102, 97, 108, 115, 101]) = false) (a3 : (s.toList == [116, 114, 117, 101]) = false) (a4 : Lib.hasPrefix s.data.toList [102] = false) (a5 : Lib.hasPrefix s.data.toList [120] = false) (h1 : 1 < s.size) (q34 : ((s[0].toNat : Int) == 34) = false) (v : Int) (hv : Lib.atoiAll s.data.toList = .ok v) :
    Calls Tryd.prog 37 #[.string s] w fun e w' => e = .returned (.tuple #[.agg #[.int .i64 2, .int .i64 v, .int .u64 0, .string ⟨#[]⟩], .bool true]) ∧ Below w.heap.size w w' := by
  have HV := Lib.hid hv
  clear hv
  go_enter Tryd.func37, Tryd.ntmps37
  go_wp2_with (go_at_call 62; refine (Tryd.strings_HasPrefix _ _ _).mono ?_; rintro e w' ⟨rfl, rfl⟩)
  refine (atoi_ok s hmax v HV.out _).mono ?_
  rintro e w1 ⟨rfl, hb⟩
  obtain ⟨hblk, hB, hz⟩ := res_cells hb
  clear hb
  have c0 : w1.cell? ⟨w.heap.size, 0, none⟩ = some (.int .i64 0) := by rw [Lib.cell_of_heap hblk]; rfl
  have c1 : w1.cell? ⟨w.heap.size, 1, none⟩ = some (.int .i64 0) := by rw [Lib.cell_of_heap hblk]; rfl
  have c2 : w1.cell? ⟨w.heap.size, 2, none⟩ = some (.int .u64 0) := by rw [Lib.cell_of_heap hblk]; rfl
  have c3 : w1.cell? ⟨w.heap.size, 3, none⟩ = some (.string ⟨#[]⟩) := by rw [Lib.cell_of_heap hblk]; rfl
  have f0 : ∀ j, w1.frozen? ⟨w.heap.size, j, none⟩ = false := fun j => Lib.frozen_of_heap hblk j
  have hP := put4_cells w1 w.heap.size (.int .i64 2) (.int .i64 v) (.int .u64 0) (.string ⟨#[]⟩) hblk
  have HP := Lib.hid hP
  clear hblk hP
  go_wp2_with fail
  go_region
  all_goals (go_wp2_with fail)
  have q0 : (put4 w1 w.heap.size (.int .i64 2) (.int .i64 v) (.int .u64 0) (.string ⟨#[]⟩)).cell? ⟨w.heap.size, 0, none⟩ = some (.int .i64 2) := by rw [Lib.cell_of_heap HP.out]; rfl
  have q1 : (put4 w1 w.heap.size (.int .i64 2) (.int .i64 v) (.int .u64 0) (.string ⟨#[]⟩)).cell? ⟨w.heap.size, 1, none⟩ = some (.int .i64 v) := by rw [Lib.cell_of_heap HP.out]; rfl
  have q2 : (put4 w1 w.heap.size (.int .i64 2) (.int .i64 v) (.int .u64 0) (.string ⟨#[]⟩)).cell? ⟨w.heap.size, 2, none⟩ = some (.int .u64 0) := by rw [Lib.cell_of_heap HP.out]; rfl
  have q3 : (put4 w1 w.heap.size (.int .i64 2) (.int .i64 v) (.int .u64 0) (.string ⟨#[]⟩)).cell? ⟨w.heap.size, 3, none⟩ = some (.string ⟨#[]⟩) := by rw [Lib.cell_of_heap HP.out]; rfl
  show bodyPost _ _ _ _ _ (put4 w1 w.heap.size (.int .i64 2) (.int .i64 v) (.int .u64 0) (.string ⟨#[]⟩)).drew
  exact bodyPost_ret (v := .tuple #[.agg #[.int .i64 2, .int .i64 v, .int .u64 0, .string ⟨#[]⟩], .bool true]) (by simp [results, Tryd.results37, go_sem, q0, q1, q2, q3]) rfl ⟨rfl, (put4_below _ _ _ _ _ hB).drew⟩
set_option maxHeartbeats 2000000 in
set_option maxRecDepth 100000 in
theorem read_i1_err (s : ByteArray) (w : World) (hmax : s.size ≤ 35184372088832) (a1 : (s.toList == [110, 117, 108, 108]) = false) (a2 : (s.toList == [102, 97, 108, 115, 101]) = false) (a3 : (s.toList == [116, 114, 117, 101]) = false) (a4 : Lib.hasPrefix s.data.toList [102] = false) (a5 : Lib.hasPrefix s.data.toList [120] = false) (h1 : 1 < s.size) (q34 : ((s[0].toNat : Int) == 34) = false) (hv : ∀ v, Lib.atoiAll s.data.toList ≠ .ok v) (he : Val.Env w) :
    Calls Tryd.prog 37 #[.string s] w (ReadErr w) := by
  have HV := Lib.hid hv
  clear hv
  have HE := Lib.hid (he.below ((Below.refl w.heap.size w).alloc (Nat.le_refl _) (.cells #[.int .i64 0, .int .i64 0, .int .u64 0, .string ⟨#[]⟩] 25)))
  clear he
  go_enter Tryd.func37, Tryd.ntmps37
  go_wp2_with (go_at_call 62; refine (Tryd.strings_HasPrefix _ _ _).mono ?_; rintro e w' ⟨rfl, rfl⟩)
  refine (atoi_err s hmax HV.out _ HE.out).mono ?_
  rintro e w1 ⟨x, N, rfl, hb⟩
  obtain ⟨hblk, hB, hz⟩ := res_cells hb
  clear hb
  have c0 : w1.cell? ⟨w.heap.size, 0, none⟩ = some (.int .i64 0) := by rw [Lib.cell_of_heap hblk]; rfl
  have c1 : w1.cell? ⟨w.heap.size, 1, none⟩ = some (.int .i64 0) := by rw [Lib.cell_of_heap hblk]; rfl
  have c2 : w1.cell? ⟨w.heap.size, 2, none⟩ = some (.int .u64 0) := by rw [Lib.cell_of_heap hblk]; rfl
  have c3 : w1.cell? ⟨w.heap.size, 3, none⟩ = some (.string ⟨#[]⟩) := by rw [Lib.cell_of_heap hblk]; rfl
  have f0 : ∀ j, w1.frozen? ⟨w.heap.size, j, none⟩ = false := fun j => Lib.frozen_of_heap hblk j
  have hP := put4_cells w1 w.heap.size (.int .i64 2) (.int .i64 x) (.int .u64 0) (.string ⟨#[]⟩) hblk
  have HP := Lib.hid hP
  clear hblk hP
  go_wp2_with fail
  go_region
  all_goals (go_wp2_with fail)
  have q0 : (put4 w1 w.heap.size (.int .i64 2) (.int .i64 x) (.int .u64 0) (.string ⟨#[]⟩)).cell? ⟨w.heap.size, 0, none⟩ = some (.int .i64 2) := by rw [Lib.cell_of_heap HP.out]; rfl
  have q1 : (put4 w1 w.heap.size (.int .i64 2) (.int .i64 x) (.int .u64 0) (.string ⟨#[]⟩)).cell? ⟨w.heap.size, 1, none⟩ = some (.int .i64 x) := by rw [Lib.cell_of_heap HP.out]; rfl
  have q2 : (put4 w1 w.heap.size (.int .i64 2) (.int .i64 x) (.int .u64 0) (.string ⟨#[]⟩)).cell? ⟨w.heap.size, 2, none⟩ = some (.int .u64 0) := by rw [Lib.cell_of_heap HP.out]; rfl
  have q3 : (put4 w1 w.heap.size (.int .i64 2) (.int .i64 x) (.int .u64 0) (.string ⟨#[]⟩)).cell? ⟨w.heap.size, 3, none⟩ = some (.string ⟨#[]⟩) := by rw [Lib.cell_of_heap HP.out]; rfl
  show bodyPost _ _ _ _ _ (put4 w1 w.heap.size (.int .i64 2) (.int .i64 x) (.int .u64 0) (.string ⟨#[]⟩)).drew
  exact bodyPost_ret (v := .tuple #[.agg #[.int .i64 2, .int .i64 x, .int .u64 0, .string ⟨#[]⟩], .bool false]) (by simp [results, Tryd.results37, go_sem, q0, q1, q2, q3]) rfl ⟨2, x, 0, ⟨#[]⟩, rfl, (put4_below _ _ _ _ _ hB).drew⟩
set_option maxHeartbeats 2000000 in
set_option maxRecDepth 100000 in
theorem read_i2 (s : ByteArray) (w : World) (hmax : s.size ≤ 35184372088832) (a1 : (s.toList == [110, 117, 108, 108]) = false) (a2 : (s.toList == [102, 97, 108, 115, 101]) = false) (a3 : (s.toList == [116, 114, 117, 101]) = false) (a4 : Lib.hasPrefix s.data.toList [102] = false) (a5 : Lib.hasPrefix s.data.toList [120] = false) (h1 : 1 < s.size) (q34 : ((s[0].toNat : Int) == 34) = true) (r34 : ((s[s.size - 1].toNat : Int) == 34) = false) (v : Int) (hv : Lib.atoiAll s.data.toList = .ok v) :
    Calls Tryd.prog 37 #[.string s] w fun e w' => e = .returned (.tuple #[.agg #[.int .i64 2, .int .i64 v, .int .u64 0, .string ⟨#[]⟩], .bool true]) ∧ Below w.heap.size w w' := by
  have HV := Lib.hid hv
  clear hv
  go_enter Tryd.func37, Tryd.ntmps37
  go_wp2_with (go_at_call 62; refine (Tryd.strings_HasPrefix _ _ _).mono ?_; rintro e w' ⟨rfl, rfl⟩)
  refine (atoi_ok s hmax v HV.out _).mono ?_
  rintro e w1 ⟨rfl, hb⟩
  obtain ⟨hblk, hB, hz⟩ := res_cells hb
  clear hb
  have c0 : w1.cell? ⟨w.heap.size, 0, none⟩ = some (.int .i64 0) := by rw [Lib.cell_of_heap hblk]; rfl
  have c1 : w1.cell? ⟨w.heap.size, 1, none⟩ = some (.int .i64 0) := by rw [Lib.cell_of_heap hblk]; rfl
  have c2 : w1.cell? ⟨w.heap.size, 2, none⟩ = some (.int .u64 0) := by rw [Lib.cell_of_heap hblk]; rfl
  have c3 : w1.cell? ⟨w.heap.size, 3, none⟩ = some (.string ⟨#[]⟩) := by rw [Lib.cell_of_heap hblk]; rfl
  have f0 : ∀ j, w1.frozen? ⟨w.heap.size, j, none⟩ = false := fun j => Lib.frozen_of_heap hblk j
  have hP := put4_cells w1 w.heap.size (.int .i64 2) (.int .i64 v) (.int .u64 0) (.string ⟨#[]⟩) hblk
  have HP := Lib.hid hP
  clear hblk hP
  go_wp2_with fail
  go_region
  all_goals (go_wp2_with fail)
  have q0 : (put4 w1 w.heap.size (.int .i64 2) (.int .i64 v) (.int .u64 0) (.string ⟨#[]⟩)).cell? ⟨w.heap.size, 0, none⟩ = some (.int .i64 2) := by rw [Lib.cell_of_heap HP.out]; rfl
  have q1 : (put4 w1 w.heap.size (.int .i64 2) (.int .i64 v) (.int .u64 0) (.string ⟨#[]⟩)).cell? ⟨w.heap.size, 1, none⟩ = some (.int .i64 v) := by rw [Lib.cell_of_heap HP.out]; rfl
  have q2 : (put4 w1 w.heap.size (.int .i64 2) (.int .i64 v) (.int .u64 0) (.string ⟨#[]⟩)).cell? ⟨w.heap.size, 2, none⟩ = some (.int .u64 0) := by rw [Lib.cell_of_heap HP.out]; rfl
  have q3 : (put4 w1 w.heap.size (.int .i64 2) (.int .i64 v) (.int .u64 0) (.string ⟨#[]⟩)).cell? ⟨w.heap.size, 3, none⟩ = some (.string ⟨#[]⟩) := by rw [Lib.cell_of_heap HP.out]; rfl
  show bodyPost _ _ _ _ _ (put4 w1 w.heap.size (.int .i64 2) (.int .i64 v) (.int .u64 0) (.string ⟨#[]⟩)).drew
  exact bodyPost_ret (v := .tuple #[.agg #[.int .i64 2, .int .i64 v, .int .u64 0, .string ⟨#[]⟩], .bool true]) (by simp [results, Tryd.results37, go_sem, q0, q1, q2, q3]) rfl ⟨rfl, (put4_below _ _ _ _ _ hB).drew⟩
set_option maxHeartbeats 2000000 in
set_option maxRecDepth 100000 in
theorem read_i2_err (s : ByteArray) (w : World) (hmax : s.size ≤ 35184372088832) (a1 : (s.toList == [110, 117, 108, 108]) = false) (a2 : (s.toList == [102, 97, 108, 115, 101]) = false) (a3 : (s.toList == [116, 114, 117, 101]) = false) (a4 : Lib.hasPrefix s.data.toList [102] = false) (a5 : Lib.hasPrefix s.data.toList [120] = false) (h1 : 1 < s.size) (q34 : ((s[0].toNat : Int) == 34) = true) (r34 : ((s[s.size - 1].toNat : Int) == 34) = false) (hv : ∀ v, Lib.atoiAll s.data.toList ≠ .ok v) (he : Val.Env w) :
    Calls Tryd.prog 37 #[.string s] w (ReadErr w) := by
  have HV := Lib.hid hv
  clear hv
  have HE := Lib.hid (he.below ((Below.refl w.heap.size w).alloc (Nat.le_refl _) (.cells #[.int .i64 0, .int .i64 0, .int .u64 0, .string ⟨#[]⟩] 25)))
  clear he
  go_enter Tryd.func37, Tryd.ntmps37
  go_wp2_with (go_at_call 62; refine (Tryd.strings_HasPrefix _ _ _).mono ?_; rintro e w' ⟨rfl, rfl⟩)
  refine (atoi_err s hmax HV.out _ HE.out).mono ?_
  rintro e w1 ⟨x, N, rfl, hb⟩
  obtain ⟨hblk, hB, hz⟩ := res_cells hb
  clear hb
  have c0 : w1.cell? ⟨w.heap.size, 0, none⟩ = some (.int .i64 0) := by rw [Lib.cell_of_heap hblk]; rfl
  have c1 : w1.cell? ⟨w.heap.size, 1, none⟩ = some (.int .i64 0) := by rw [Lib.cell_of_heap hblk]; rfl
  have c2 : w1.cell? ⟨w.heap.size, 2, none⟩ = some (.int .u64 0) := by rw [Lib.cell_of_heap hblk]; rfl
  have c3 : w1.cell? ⟨w.heap.size, 3, none⟩ = some (.string ⟨#[]⟩) := by rw [Lib.cell_of_heap hblk]; rfl
  have f0 : ∀ j, w1.frozen? ⟨w.heap.size, j, none⟩ = false := fun j => Lib.frozen_of_heap hblk j
  have hP := put4_cells w1 w.heap.size (.int .i64 2) (.int .i64 x) (.int .u64 0) (.string ⟨#[]⟩) hblk
  have HP := Lib.hid hP
  clear hblk hP
  go_wp2_with fail
  go_region
  all_goals (go_wp2_with fail)
  have q0 : (put4 w1 w.heap.size (.int .i64 2) (.int .i64 x) (.int .u64 0) (.string ⟨#[]⟩)).cell? ⟨w.heap.size, 0, none⟩ = some (.int .i64 2) := by rw [Lib.cell_of_heap HP.out]; rfl
  have q1 : (put4 w1 w.heap.size (.int .i64 2) (.int .i64 x) (.int .u64 0) (.string ⟨#[]⟩)).cell? ⟨w.heap.size, 1, none⟩ = some (.int .i64 x) := by rw [Lib.cell_of_heap HP.out]; rfl
  have q2 : (put4 w1 w.heap.size (.int .i64 2) (.int .i64 x) (.int .u64 0) (.string ⟨#[]⟩)).cell? ⟨w.heap.size, 2, none⟩ = some (.int .u64 0) := by rw [Lib.cell_of_heap HP.out]; rfl
  have q3 : (put4 w1 w.heap.size (.int .i64 2) (.int .i64 x) (.int .u64 0) (.string ⟨#[]⟩)).cell? ⟨w.heap.size, 3, none⟩ = some (.string ⟨#[]⟩) := by rw [Lib.cell_of_heap HP.out]; rfl
  show bodyPost _ _ _ _ _ (put4 w1 w.heap.size (.int .i64 2) (.int .i64 x) (.int .u64 0) (.string ⟨#[]⟩)).drew
  exact bodyPost_ret (v := .tuple #[.agg #[.int .i64 2, .int .i64 x, .int .u64 0, .string ⟨#[]⟩], .bool false]) (by simp [results, Tryd.results37, go_sem, q0, q1, q2, q3]) rfl ⟨2, x, 0, ⟨#[]⟩, rfl, (put4_below _ _ _ _ _ hB).drew⟩
end Rd
end Go.Proofs.YtppdebhcaodcnaaDoor
