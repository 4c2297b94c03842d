/- The contracts of the document's own Canon and Right (layer 1). No condition but that a word is below 2^64. -/
import Derived.Test.YtoacombaddknfaaValA
import Derived.Laws.Bits64b
import Derived.Lib.Hide
import Derived.Deep.RegionHeld3
import Derived.Deep.QuietTactic
import Derived.BigQuiet
import Derived.WalkSmall
namespace Go.Proofs.Ytoacombaddknfaa
open Go.RowKit
namespace Ref
theorem bits_low (b : Nat) (h : b < 18446744073709551616) : bits .and .u64 (b : Int) 9223372036854775807 = (Flo.rung b : Nat) := by
  have g := bits_and_u64_nat b 9223372036854775807 h (by decide)
  have e : b &&& 9223372036854775807 = b % 9223372036854775808 := Nat.and_two_pow_sub_one_eq_mod b 63
  rw [e] at g
  exact g
set_option maxRecDepth 100000 in
set_option maxHeartbeats 1000000 in
theorem canon_else (b : Nat) (w : World) (g1 : decide ((9218868437227405312 : Int) < bits .and .u64 (b : Int) 9223372036854775807) = false) (g2 : (bits .and .u64 (b : Int) 9223372036854775807 == 0) = false) : Calls Try.prog 67 #[.int .u64 b] w fun e w' => e = .returned (.int .u64 b) ∧ w = w' := by
  go_enter Try.func67, Try.ntmps67
  go_wp2_with fail
  go_ret
  exact ⟨rfl, rfl⟩
set_option maxRecDepth 100000 in
set_option maxHeartbeats 1000000 in
theorem canon_zero (b : Nat) (w : World) (g1 : decide ((9218868437227405312 : Int) < bits .and .u64 (b : Int) 9223372036854775807) = false) (g2 : (bits .and .u64 (b : Int) 9223372036854775807 == 0) = true) : Calls Try.prog 67 #[.int .u64 b] w fun e w' => e = .returned (.int .u64 0) ∧ w = w' := by
  go_enter Try.func67, Try.ntmps67
  go_wp2_with fail
  go_ret
  exact ⟨rfl, rfl⟩
set_option maxRecDepth 100000 in
set_option maxHeartbeats 1000000 in
theorem canon_nan (b : Nat) (w : World) (g1 : decide ((9218868437227405312 : Int) < bits .and .u64 (b : Int) 9223372036854775807) = true) : Calls Try.prog 67 #[.int .u64 b] w fun e w' => e = .returned (.int .u64 9221120237041090560) ∧ w = w' := by
  go_enter Try.func67, Try.ntmps67
  go_wp2_with fail
  go_ret
  exact ⟨rfl, rfl⟩
theorem canon_any (b : Nat) (hb : b < 18446744073709551616) (w : World) : Calls Try.prog 67 #[.int .u64 b] w fun e w' => e = .returned (.int .u64 (Flo.canon b : Nat)) ∧ w = w' := by
  have hl := bits_low b hb
  cases h : Flo.nanB b
  · have g1 : decide ((9218868437227405312 : Int) < bits .and .u64 (b : Int) 9223372036854775807) = false := by
      rw [hl]
      have := of_decide_eq_false h
      unfold Flo.inf at this
      exact decide_eq_false (by omega)
    cases z : Flo.zeroB b
    · rw [Flo.canon_else h z]
      refine canon_else b w g1 ?_
      rw [hl]
      unfold Flo.zeroB at z
      simpa using z
    · rw [Flo.canon_zero h z]
      refine canon_zero b w g1 ?_
      rw [hl]
      unfold Flo.zeroB at z
      simpa using z
  · rw [Flo.canon_nan h]
    refine canon_nan b w ?_
    rw [hl]
    have := of_decide_eq_true h
    unfold Flo.inf at this
    exact decide_eq_true (by omega)
theorem list_eq (s : ByteArray) : (s.toList == (⟨#[]⟩ : ByteArray).toList) = s.toList.isEmpty := by
  rw [ByteArray.toList_eq, ByteArray.toList_eq]
  cases s.data.toList <;> rfl
/-- the document's own reading of 'right' is ours -/
theorem right_form (k n : Int) (b : Nat) (s : ByteArray) : Val.rightB k n b s =
    if k = 0 then decide (n = 0) && (decide (b = 0) && s.toList.isEmpty)
    else if k = 1 then (decide (n = 0) || decide (n = 1)) && (decide (b = 0) && s.toList.isEmpty)
    else if k = 2 then decide (b = 0) && s.toList.isEmpty
    else if k = 3 then decide (n = 0) && (s.toList.isEmpty && decide (Flo.canon b = b))
    else if k = 4 ∨ k = 5 then decide (n = 0) && (decide (b = 0) && decide ((s.size : Int) ≤ 4096))
    else false := by
  unfold Val.rightB Val.eqV
  have hb0 : ((b : Int) == 0) = decide (b = 0) := by by_cases h : b = 0 <;> simp [h]
  have hn0 : (n == 0) = decide (n = 0) := by by_cases h : n = 0 <;> simp [h]
  have hn1 : (n == 1) = decide (n = 1) := by by_cases h : n = 1 <;> simp [h]
  have hcb : ((b : Int) == (Flo.canon b : Nat)) = decide (Flo.canon b = b) := by
    by_cases h : Flo.canon b = b
    · rw [h]; simp
    · have : ¬ (b : Int) = (Flo.canon b : Nat) := by omega
      simp [h, this]
  split
  · rename_i h; subst h; simp only [list_eq, hb0, hn0]; simp
  · split
    · rename_i h; subst h; simp only [list_eq, hb0, hn0, hn1]; simp [Bool.and_comm, Bool.and_left_comm]
    · split
      · rename_i h; subst h; simp only [list_eq, hb0]; simp
      · split
        · rename_i h; subst h; simp only [list_eq, hn0, hcb]; simp [Bool.and_comm, Bool.and_left_comm]
        · split
          · simp only [hb0, hn0]; simp [Bool.and_assoc]
          · rfl
set_option maxRecDepth 100000 in
set_option maxHeartbeats 1000000 in
theorem right_else (k n : Int) (b : Nat) (s : ByteArray) (w : World) (hk : (k == 3) = false) :
    Calls Try.prog 56 #[.agg #[.int .i64 k, .int .i64 n, .int .u64 b, .string s]] w fun e w' => e = .returned (.bool (Val.rightB k n b s)) ∧ Below w.heap.size w w' := by
  rw [right_form]
  go_enter Try.func56, Try.ntmps56
  go_wp2_with fail
  all_goals
    go_ret
    refine ⟨?_, (Below.refl _ _).alloc (Nat.le_refl _) _⟩
    refine Val.ret_bool ?_
    simp_all
set_option maxRecDepth 100000 in
set_option maxHeartbeats 1000000 in
theorem rf_n (n : Int) (b : Nat) (s : ByteArray) (w : World) (_hb : Hid (b < 18446744073709551616)) (g1 : (n == 0) = false) :
    Calls Try.prog 56 #[.agg #[.int .i64 3, .int .i64 n, .int .u64 b, .string s]] w fun e w' => e = .returned (.bool false) ∧ Below w.heap.size w w' := by
  go_enter Try.func56, Try.ntmps56
  go_wp2_with fail
  go_quiet (fail)
  go_wp2_with fail
  go_ret
  exact ⟨rfl, below_drewN ((Below.refl _ _).alloc (Nat.le_refl _) _) _⟩
set_option maxRecDepth 100000 in
set_option maxHeartbeats 1000000 in
theorem rf_s (n : Int) (b : Nat) (s : ByteArray) (w : World) (_hb : Hid (b < 18446744073709551616)) (g1 : (n == 0) = true) (g2 : s.toList.isEmpty = false) :
    Calls Try.prog 56 #[.agg #[.int .i64 3, .int .i64 n, .int .u64 b, .string s]] w fun e w' => e = .returned (.bool false) ∧ Below w.heap.size w w' := by
  go_enter Try.func56, Try.ntmps56
  go_wp2_with fail
  go_quiet (fail)
  go_wp2_with fail
  go_ret
  exact ⟨rfl, below_drewN ((Below.refl _ _).alloc (Nat.le_refl _) _) _⟩
set_option maxRecDepth 100000 in
set_option maxHeartbeats 1000000 in
theorem rf_b (n : Int) (b : Nat) (s : ByteArray) (w : World) (hb : Hid (b < 18446744073709551616)) (g1 : (n == 0) = true) (g2 : s.toList.isEmpty = true) :
    Calls Try.prog 56 #[.agg #[.int .i64 3, .int .i64 n, .int .u64 b, .string s]] w fun e w' => e = .returned (.bool (((Flo.canon b : Nat) : Int) == (b : Int))) ∧ Below w.heap.size w w' := by
  go_enter Try.func56, Try.ntmps56
  go_wp2_with fail
  go_region_held3 (fun w' => w'.cell? ⟨w.heap.size, 0, none⟩ = some (.int .i64 3) ∧ w'.cell? ⟨w.heap.size, 1, none⟩ = some (.int .i64 n) ∧ w'.cell? ⟨w.heap.size, 2, none⟩ = some (.int .u64 b) ∧ w'.cell? ⟨w.heap.size, 3, none⟩ = some (.string s) ∧ Below w.heap.size w w' ∧ w.heap.size < w'.heap.size)
    (first | assumption | (refine ⟨?_, ?_, ?_, ?_, ?_⟩; go_keep; go_keep; go_keep; go_keep; exact Val.below_box _ _))
    (first | (go_at_call 67; (with_reducible refine (canon_any b hb.out _).mono ?_); rintro e w' ⟨rfl, rfl⟩))
  go_wp2_with fail
  go_ret
  rename_i hq
  exact ⟨Val.ret_bool (by simp), hq.2.2.2.2.1⟩
theorem right_any (k n : Int) (b : Nat) (s : ByteArray) (hb : b < 18446744073709551616) (w : World) :
    Calls Try.prog 56 #[.agg #[.int .i64 k, .int .i64 n, .int .u64 b, .string s]] w fun e w' => e = .returned (.bool (Val.rightB k n b s)) ∧ Below w.heap.size w w' := by
  by_cases hk : k = 3
  · subst hk
    rw [right_form, if_neg (by decide), if_neg (by decide), if_neg (by decide), if_pos rfl]
    by_cases hn : n = 0
    · rw [decide_eq_true hn, Bool.true_and]
      cases hs : s.toList.isEmpty
      · exact rf_s n b s w hb (by simpa using hn) hs
      · rw [Bool.true_and]
        have e : decide (Flo.canon b = b) = (((Flo.canon b : Nat) : Int) == (b : Int)) := by
          by_cases h : Flo.canon b = b
          · rw [h]; simp
          · have : ¬ ((Flo.canon b : Nat) : Int) = b := by omega
            simp [h, this]
        rw [e]
        exact rf_b n b s w hb (by simpa using hn) hs
    · rw [decide_eq_false hn, Bool.false_and]
      exact rf_n n b s w hb (by simpa using hn)
  · exact right_else k n b s w (by simpa using hk)
end Ref
end Go.Proofs.Ytoacombaddknfaa
