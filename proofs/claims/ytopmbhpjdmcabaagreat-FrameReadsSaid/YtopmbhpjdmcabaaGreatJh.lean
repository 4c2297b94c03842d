/- schema.holds, Fits. Conditions: names are at most 2^48 bytes; there are at most a million columns; a value's number is below 2^64. -/
import Derived.Test.YtopmbhpjdmcabaaGreatMb
import Derived.Test.YtopmbhpjdmcabaaGreatJf
namespace Go.Proofs.YtopmbhpjdmcabaaGreat
open Go.RowKit
namespace Sch
open Cod
theorem vright_is {v : V} {b : Bool} (h : v.right = b) (w : World) :
    Calls Tryz.prog 84 #[.agg #[.int .i64 v.k, .int .i64 v.n, .int .u64 v.b, .string (S v.s)]] w fun e w' => e = .returned (.bool b) ∧ Below w.heap.size w w' := h ▸ Val.right_any v.k v.n v.b (S v.s) w
end Sch
end Go.Proofs.YtopmbhpjdmcabaaGreat
