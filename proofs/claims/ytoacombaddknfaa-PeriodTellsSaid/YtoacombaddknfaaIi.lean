/- span.Covers. Condition: no more than 1000 intervals. -/
import Derived.Test.YtoacombaddknfaaIh
namespace Go.Proofs.Ytoacombaddknfaa
open Go.RowKit
namespace Spn
/-- Two boxes at once: where an interval lies, and a world behind. -/
theorem At.both {s : Sp} {k : Nat} {w w' : World} (h : At s k w) (hb : Below w.heap.size w w') : At s k w' := h.later hb h.lt
end Spn
end Go.Proofs.Ytoacombaddknfaa
