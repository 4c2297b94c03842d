/- The document's Pad and Ints; Copy of what is no disk. Conditions: as each says. -/
import Derived.Test.YtpamffheapnoaaaDk
namespace Go.Proofs.Ytpamffheapnoaaa
open Go.RowKit
namespace Dsk
theorem pad_self {s : List UInt8} (h : 128 ≤ s.length) : pad s = s := by
  unfold pad
  rw [show 128 - s.length = 0 by omega]
  simp
theorem pad_more {s : List UInt8} (h : s.length < 128) : pad (s ++ [0]) = pad s := by
  unfold pad
  rw [List.length_append, List.append_assoc]
  congr 1
  rw [show 128 - s.length = (128 - (s.length + [(0 : UInt8)].length)) + 1 by simp; omega, List.replicate_succ]
  rfl
theorem ints_new (w : World) (l : List Nat) (hl : l.length ≤ 1000000) : IntsAt w.heap.size l (.slice (some ⟨w.heap.size, 0, none⟩) l.length l.length) (w.alloc (.cells (ints l).toArray 3)) := by
  have hn : (ints l).length = l.length := by simp [ints]
  refine ⟨by rw [hn]; omega, .inr ⟨w.heap.size, l.length, (ints l).toArray, rfl, Nat.le_refl _, heap_alloc_last w _, Nat.le_refl _, by unfold maxLen; omega, by simp [hn], ?_⟩⟩
  rw [Nat.mul_one, List.take_of_length_le (by simp [hn])]
end Dsk
end Go.Proofs.Ytpamffheapnoaaa
