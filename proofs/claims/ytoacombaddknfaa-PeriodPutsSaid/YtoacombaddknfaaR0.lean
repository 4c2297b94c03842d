/- strings.Clone. Condition: at most 2^48 bytes. -/
import Derived.Test.YtoacombaddknfaaVr
import Derived.Test.YtoacombaddknfaaShl
namespace Go.Proofs.Ytoacombaddknfaa
open Go.RowKit
namespace Cod
theorem strclone_of (l : List UInt8) (hl : l.length ≤ 281474976710656) (w : World) :
    Calls Try.prog 52 #[.string (S l)] w fun e w' => e = .returned (.string (S l)) ∧ Below w.heap.size w w' := by
  go_enter Try.func52, Try.ntmps52
  go_wp2_with fail
  refine (Try.stringslite_Clone (S l) w (by rw [S_size]; exact hl)).mono ?_
  rintro e w' ⟨rfl, hb⟩
  go_wp2_with fail
  go_ret
  exact ⟨rfl, hb⟩
end Cod
end Go.Proofs.Ytoacombaddknfaa
