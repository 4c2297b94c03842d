/- The document's Same of two rows of intervals: are they the same? Condition: no more than 1000 of them. -/
import Derived.Test.YtoacombaddknfaaIi
import Derived.Test.YtoacombaddknfaaIj0
namespace Go.Proofs.Ytoacombaddknfaa
open Go.RowKit
namespace Spn
end Spn
end Go.Proofs.Ytoacombaddknfaa
