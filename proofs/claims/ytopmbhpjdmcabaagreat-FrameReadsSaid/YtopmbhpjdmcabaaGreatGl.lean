/- Same of package frame, of transactions that have no changes, or other numbers. No condition. -/
import Derived.Test.YtopmbhpjdmcabaaGreatGf
namespace Go.Proofs.YtopmbhpjdmcabaaGreat
open Go.RowKit
namespace Frm
open Cod Sch
set_option maxHeartbeats 4000000 in
set_option maxRecDepth 100000 in
theorem equal_nil (ao bo : Option Addr) (ac bc : Nat) (f : Value) (w : World) :
    Calls Tryz.prog 42 #[.slice ao 0 ac, .slice bo 0 bc, f] w fun e w' => e = .returned (.bool true) ∧ w = w' := by
  go_enter Tryz.func42, Tryz.ntmps42
  go_wp2_with fail
  go_loopw [17] (fun ii wr => ii = .int .i64 (0 : Int) ∧ wr = w) (fun _ _ => 0)
  case atStart => exact ⟨rfl, rfl⟩
  case round =>
    obtain ⟨rfl, rfl⟩ := hrel
    go_wp2_with fail
    go_ret
    exact ⟨rfl, rfl⟩
set_option maxHeartbeats 4000000 in
set_option maxRecDepth 100000 in
theorem same_nil (sq tm : Int) (ao bo : Option Addr) (ac bc : Nat) (w : World) :
    Calls Tryz.prog 15 #[.agg #[.int .i64 sq, .int .i64 tm, .slice ao 0 ac], .agg #[.int .i64 sq, .int .i64 tm, .slice bo 0 bc]] w fun e w' => e = .returned (.bool true) ∧ Below w.heap.size w w' := by
  have HB := hidm (show Below w.heap.size w ((w.alloc (.cells #[.int .i64 sq, .int .i64 tm, .slice ao 0 ac] 24)).alloc (.cells #[.int .i64 sq, .int .i64 tm, .slice bo 0 bc] 24)) from ((Below.refl _ _).alloc (Nat.le_refl _) _).alloc (by simp) _)
  have f1 : (sq == sq) = true := by simp
  have f2 : (tm == tm) = true := by simp
  go_enter Tryz.func15, Tryz.ntmps15
  go_wp2_with fail
  refine (equal_nil _ _ _ _ _ _).mono ?_
  rintro e w1 ⟨rfl, rfl⟩
  go_wp2_with fail
  go_ret
  exact ⟨rfl, HB.out⟩
set_option maxHeartbeats 4000000 in
set_option maxRecDepth 100000 in
theorem same_other (sq tm sq' tm' : Int) (a b : Value) (hn : (sq == sq') = false) (w : World) :
    Calls Tryz.prog 15 #[.agg #[.int .i64 sq, .int .i64 tm, a], .agg #[.int .i64 sq', .int .i64 tm', b]] w fun e w' => e = .returned (.bool false) ∧ Below w.heap.size w w' := by
  have HB := hidm (show Below w.heap.size w ((w.alloc (.cells #[.int .i64 sq, .int .i64 tm, a] 24)).alloc (.cells #[.int .i64 sq', .int .i64 tm', b] 24)) from ((Below.refl _ _).alloc (Nat.le_refl _) _).alloc (by simp) _)
  go_enter Tryz.func15, Tryz.ntmps15
  go_wp2_with fail
  go_ret
  exact ⟨rfl, HB.out⟩
end Frm
end Go.Proofs.YtopmbhpjdmcabaaGreat
