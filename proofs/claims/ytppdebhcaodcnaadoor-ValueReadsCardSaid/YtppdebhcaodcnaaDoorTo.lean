/- The document's own bytes (layer 1): a row of bytes that grows, beside the result's box. Conditions: as each theorem says. -/
import Derived.Test.YtppdebhcaodcnaaDoorTh
import Derived.Test.YtppdebhcaodcnaaDoorYv
import Derived.Test.YtppdebhcaodcnaaDoorMan
import Derived.Deep.AppendLies
import Derived.Laws.BytesArg
namespace Go.Proofs.YtppdebhcaodcnaaDoor
open Go.RowKit
namespace Ref
/-- The text that the bytes of a row of the call's own make, an empty one too. -/
theorem str_own {w : World} {base : Nat} {l : List UInt8} {v : Value} (h : w.ownsRow base 5 1 v l.length (Lib.byteCells l)) :
    (convert 55 9 v).run Tryd.prog w = .ok (.string (Cod.S l)) w := by
  cases l with
  | nil =>
    rcases h.2 with ⟨hv, _⟩ | ⟨g, cap, cur, hv, _⟩
    · subst hv; exact run_convert_bytes_nil w _ _ Tryd.underlying55 Tryd.underlying5 0 0 _ Tryd.underlying9
    · subst hv
      exact run_convert_bytes_back (P := Tryd.prog) w _ _ _ _ _ [] Tryd.underlying55 Tryd.underlying5 Tryd.underlying9 (fun j hj => by cases hj)
  | cons c l => exact Cod.str_of_own h rfl (by simp)
structure Bst (w : World) (l : List UInt8) (v : Value) (u : World) : Prop where
  own : u.ownsRow (w.heap.size + 1) 5 1 v l.length (Lib.byteCells l)
  box : Vb w.heap.size 0 0 0 ⟨#[]⟩ u
  bel : Below w.heap.size w u
  sz : w.heap.size + 1 ≤ u.heap.size
theorem Bst.start (w : World) : Bst w [] (.slice none 0 0) (w.alloc (.cells #[.int .i64 0, .int .i64 0, .int .u64 0, .string ⟨#[]⟩] 25)) :=
  ⟨World.ownsRow_nil _ _ _ _, Vb.new w 0 0 0 ⟨#[]⟩, (Below.refl _ _).alloc (Nat.le_refl _) _, by simp⟩
section
variable {w u u' w1 : World} {l : List UInt8} {v v' : Value}
theorem Bst.later (h : Bst w l v u) (hb : Below u.heap.size u u') : Bst w l v u' :=
  ⟨Cod.owns_later h.own hb, h.box.later hb, h.bel.trans (hb.mono (by have := h.sz; omega)), Nat.le_trans h.sz hb.size⟩
theorem Bst.put (h : Bst w l v u) (c : UInt8) {X : Int} (hX : X = (c.toNat : Int)) (hown : w1.ownsRow (w.heap.size + 1) 5 1 v' (l.length + 1) (Lib.byteCells l ++ [.int .u8 X])) (hg : u.grownBy w1 v.ownBlock) : Bst w (l ++ [c]) v' w1 := by
  have hk : ∀ k, v.ownBlock = some k → w.heap.size + 1 ≤ k := fun k hk => (h.own.lt k hk).1
  refine ⟨?_, ?_, ?_, ?_⟩
  · rw [List.length_append, Lib.byteCells_append]; subst hX; exact hown
  · unfold Vb; rw [hg.block _ h.box.lt (fun e => by have := hk _ e.symm; omega)]; exact h.box
  · exact h.bel.grown hg (by have := h.sz; omega) (fun k hk' => by have := hk k hk'; omega)
  · exact Nat.le_trans h.sz hg.size
end
theorem byte_one (x : Int) : ∀ j u, [Value.int .u8 x][j]? = some u → j = 0 ∧ u = .int .u8 x := Cod.cell_one x
end Ref
end Go.Proofs.YtppdebhcaodcnaaDoor
