/- turned and write of package key. Conditions: the value is right, its numbers fit their kinds; the buffer stays below 10^9 bytes; bytealg's MaxLen holds some number. -/
import Derived.Test.YtppdebhcaodcnaaDoorYc
import Derived.Test.YtppdebhcaodcnaaDoorShelf
namespace Go.Proofs.YtppdebhcaodcnaaDoor
open Go.RowKit Cod
namespace Ky
set_option maxHeartbeats 1000000 in
theorem turned_any (x : Nat) (hx : x < 18446744073709551616) (w : World) :
    Calls Tryd.prog 72 #[.float .f64 x] w fun e w' => e = .returned (.int .u64 (turn x : Nat)) ∧ w = w' := by
  have hh := Ref.bits_high x hx
  have hxo := xor_top x hx
  by_cases h : x < 9223372036854775808
  · rw [if_neg (by omega)] at hh
    rw [if_pos h] at hxo
    have e : turn x = x + 9223372036854775808 := by unfold turn; rw [if_pos h]
    rw [e]
    have g : (bits .and .u64 (x : Int) 9223372036854775808 != 0) = false := by rw [hh]; rfl
    clear e hh
    go_enter Tryd.func72, Tryd.ntmps72
    go_wp2_with fail
    go_ret
    exact ⟨rfl, rfl⟩
  · rw [if_pos (by omega)] at hh
    have e : turn x = 18446744073709551615 - x := by unfold turn; rw [if_neg h]
    rw [e]
    have g : (bits .and .u64 (x : Int) 9223372036854775808 != 0) = true := by rw [hh]; rfl
    have hf : bits .xor .u64 18446744073709551615 (x : Int) = ((18446744073709551615 - x : Nat) : Int) := by
      have e2 : (18446744073709551615 : Int) = ((18446744073709551615 : Nat) : Int) := rfl
      rw [e2, u64_xor_nat _ _ (by decide) hx, xor_full x hx]
    have HF := Lib.hid hf
    clear e hh hxo hf
    go_enter Tryd.func72, Tryd.ntmps72
    go_wp2_with fail
    go_ret
    refine ⟨Val.ret_int ?_, rfl⟩
    first | exact HF.out | (rw [← HF.out]; rfl) | (have := HF.out; omega)
end Ky
end Go.Proofs.YtppdebhcaodcnaaDoor
