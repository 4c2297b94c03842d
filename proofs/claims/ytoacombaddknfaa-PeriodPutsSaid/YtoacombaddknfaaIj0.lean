/- '!=' and '==' between two intervals. No condition. -/
import Derived.Test.YtoacombaddknfaaIb
namespace Go.Proofs.Ytoacombaddknfaa
open Go.RowKit
namespace Spn
/-- '!=' between two intervals. -/
def neS (a b c d : Int) : Bool := !(a == c && b == d)
theorem neS_no (x : Sp) : neS x.1 x.2 x.1 x.2 = false := by simp [neS]
theorem neS_yes {x y : Sp} (h : x ≠ y) : neS x.1 x.2 y.1 y.2 = true := by
  unfold neS
  rw [Bool.not_eq_true', Bool.and_eq_false_iff]
  by_cases h1 : x.1 = y.1
  · by_cases h2 : x.2 = y.2
    · exact absurd (Prod.ext h1 h2) h
    · exact .inr (by simp [h2])
  · exact .inl (by simp [h1])
set_option maxHeartbeats 1000000 in
theorem run_neS (a b c d : Int) (w : World) :
    (binOp .neq 24 (.agg #[.int .i64 a, .int .i64 b]) (.agg #[.int .i64 c, .int .i64 d])).run Try.prog w = .ok (.bool (neS a b c d)) w := by
  unfold neS
  by_cases h1 : a = c <;> by_cases h2 : b = d <;> go_simp
set_option maxHeartbeats 1000000 in
theorem run_eqS (a b c d : Int) (w : World) :
    (binOp .eql 24 (.agg #[.int .i64 a, .int .i64 b]) (.agg #[.int .i64 c, .int .i64 d])).run Try.prog w = .ok (.bool (!neS a b c d)) w := by
  unfold neS
  by_cases h1 : a = c <;> by_cases h2 : b = d <;> go_simp
attribute [go_sem ↓] run_neS run_eqS
end Spn
end Go.Proofs.Ytoacombaddknfaa
