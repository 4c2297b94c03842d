/- The contract of the document's own Canon (layer 1). No condition but that a word is below 2^64. -/
import Derived.Test.YtinnkdbojgoicaaValA
import Derived.Laws.Bits64b
import Derived.Lib.Hide
import Derived.Deep.RegionHeld3
import Derived.Deep.QuietTactic
import Derived.BigQuiet
import Derived.WalkSmall
namespace Go.Proofs.Ytinnkdbojgoicaa
open Go.RowKit
namespace Ref
theorem bits_low (b : Nat) (h : b < 18446744073709551616) : bits .and .u64 (b : Int) 9223372036854775807 = (Flo.rung b : Nat) := by
  have g := bits_and_u64_nat b 9223372036854775807 h (by decide)
  have e : b &&& 9223372036854775807 = b % 9223372036854775808 := Nat.and_two_pow_sub_one_eq_mod b 63
  rw [e] at g
  exact g
set_option maxRecDepth 100000 in
set_option maxHeartbeats 1000000 in
theorem canon_else (b : Nat) (w : World) (g1 : decide ((9218868437227405312 : Int) < bits .and .u64 (b : Int) 9223372036854775807) = false) (g2 : (bits .and .u64 (b : Int) 9223372036854775807 == 0) = false) : Calls Try.prog 75 #[.int .u64 b] w fun e w' => e = .returned (.int .u64 b) ∧ w = w' := by
  go_enter Try.func75, Try.ntmps75
  go_wp2_with fail
  go_ret
  exact ⟨rfl, rfl⟩
set_option maxRecDepth 100000 in
set_option maxHeartbeats 1000000 in
theorem canon_zero (b : Nat) (w : World) (g1 : decide ((9218868437227405312 : Int) < bits .and .u64 (b : Int) 9223372036854775807) = false) (g2 : (bits .and .u64 (b : Int) 9223372036854775807 == 0) = true) : Calls Try.prog 75 #[.int .u64 b] w fun e w' => e = .returned (.int .u64 0) ∧ w = w' := by
  go_enter Try.func75, Try.ntmps75
  go_wp2_with fail
  go_ret
  exact ⟨rfl, rfl⟩
set_option maxRecDepth 100000 in
set_option maxHeartbeats 1000000 in
theorem canon_nan (b : Nat) (w : World) (g1 : decide ((9218868437227405312 : Int) < bits .and .u64 (b : Int) 9223372036854775807) = true) : Calls Try.prog 75 #[.int .u64 b] w fun e w' => e = .returned (.int .u64 9221120237041090560) ∧ w = w' := by
  go_enter Try.func75, Try.ntmps75
  go_wp2_with fail
  go_ret
  exact ⟨rfl, rfl⟩
theorem canon_any (b : Nat) (hb : b < 18446744073709551616) (w : World) : Calls Try.prog 75 #[.int .u64 b] w fun e w' => e = .returned (.int .u64 (Flo.canon b : Nat)) ∧ w = w' := by
  have hl := bits_low b hb
  cases h : Flo.nanB b
  · have g1 : decide ((9218868437227405312 : Int) < bits .and .u64 (b : Int) 9223372036854775807) = false := by
      rw [hl]
      have := of_decide_eq_false h
      unfold Flo.inf at this
      exact decide_eq_false (by omega)
    cases z : Flo.zeroB b
    · rw [Flo.canon_else h z]
      refine canon_else b w g1 ?_
      rw [hl]
      unfold Flo.zeroB at z
      simpa using z
    · rw [Flo.canon_zero h z]
      refine canon_zero b w g1 ?_
      rw [hl]
      unfold Flo.zeroB at z
      simpa using z
  · rw [Flo.canon_nan h]
    refine canon_nan b w ?_
    rw [hl]
    have := of_decide_eq_true h
    unfold Flo.inf at this
    exact decide_eq_true (by omega)
end Ref
end Go.Proofs.Ytinnkdbojgoicaa
