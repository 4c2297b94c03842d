/- The document's add: rising intervals, and one more. Condition: no more than 1000 of them; they rise, and do not touch, and the one is right. -/
import Derived.Test.YtjlejfjkigohhaaIj
namespace Go.Proofs.Ytjlejfjkigohhaa
open Go.RowKit
namespace Spn
theorem rjoin_y {a b c d : Int} (h : Joins (a, b) (c, d)) (w : World) :
    Calls Try.prog 13 #[.agg #[.int .i64 a, .int .i64 b], .agg #[.int .i64 c, .int .i64 d]] w fun e w' => e = .returned (.tuple #[.agg #[.int .i64 (wide (a, b) (c, d)).1, .int .i64 (wide (a, b) (c, d)).2], .bool true]) ∧ Below w.heap.size w w' := by
  have := rjoin_any a b c d w
  rw [join_yes h] at this
  exact this
theorem rjoin_n {a b c d : Int} (h : ¬ Joins (a, b) (c, d)) (w : World) :
    Calls Try.prog 13 #[.agg #[.int .i64 a, .int .i64 b], .agg #[.int .i64 c, .int .i64 d]] w fun e w' => e = .returned (.tuple #[.agg #[.int .i64 0, .int .i64 0], .bool false]) ∧ Below w.heap.size w w' := by
  have := rjoin_any a b c d w
  rw [join_no h] at this
  exact this
theorem steps_take {l : List Sp} {x : Tri} {i : Nat} (hi : i < l.length) : steps (l.take (i + 1)) x = step (steps (l.take i) x) l[i] := by
  unfold steps
  rw [List.take_succ_eq_append_getElem hi, List.foldl_append]
  rfl
theorem steps_len (l : List Sp) (x : Tri) : (steps l x).ah.length + (steps l x).be.length ≤ x.ah.length + x.be.length + l.length := by
  have key : ∀ k, k ≤ l.length → (steps (l.take k) x).ah.length + (steps (l.take k) x).be.length ≤ x.ah.length + x.be.length + k := by
    intro k
    induction k with
    | zero => intro _; simp [steps]
    | succ k ih =>
      intro hk
      rw [steps_take (by omega)]
      have := step_len (steps (l.take k) x) l[k]
      have := ih (by omega)
      omega
  have := key l.length (Nat.le_refl _)
  rwa [List.take_length] at this
/-- What add has in memory: the two rows, the one that grows in its box. -/
structure Tw (w : World) (B : Nat) (x : Tri) (va vb : Value) (z : World) : Prop where
  a : Row w.heap.size x.ah va z
  b : Row w.heap.size x.be vb z
  ap : ∀ g, va.ownBlock = some g → vb.ownBlock ≠ some g
  s : At x.s B z
  na : va.ownBlock ≠ some B
  nb : vb.ownBlock ≠ some B
  lo : w.heap.size ≤ B
  bel : Below w.heap.size w z
section
variable {w z z' : World} {B : Nat} {x : Tri} {va vb u : Value}
theorem Tw.later (h : Tw w B x va vb z) (hb : Below z.heap.size z z') : Tw w B x va vb z' :=
  ⟨h.a.later hb (Nat.le_refl _), h.b.later hb (Nat.le_refl _), h.ap, h.s.later hb h.s.lt, h.na, h.nb, h.lo, h.bel.trans (hb.mono h.bel.size)⟩
theorem Tw.drew (h : Tw w B x va vb z) : Tw w B x va vb z.drew := h.later (Below.refl _ _).drew
theorem At.grown {s : Sp} {k : Nat} {row : Option Nat} (h : At s k z) (hg : z.grownBy z' row) (hr : row ≠ some k) : At s k z' := by
  have e : z'.heap[k]? = z.heap[k]? := hg.block k h.lt (fun e => hr e.symm)
  exact ⟨by rw [World.cell?_of_block (a := ⟨k, 0, none⟩) e]; exact h.c0, by rw [World.cell?_of_block (a := ⟨k, 1, none⟩) e]; exact h.c1, by rw [World.frozen?_of_block (a := ⟨k, 0, none⟩) e]; exact h.z, by rw [World.frozen?_of_block (a := ⟨k, 1, none⟩) e]; exact h.z1, Nat.lt_of_lt_of_le h.lt hg.size⟩
/-- One more ahead. -/
theorem Tw.ahead (h : Tw w B x va vb z) {r : Sp} (hu : Row w.heap.size (x.ah ++ [r]) u z') (hg : z.grownBy z' va.ownBlock) (hob : u.ownBlock = va.ownBlock ∨ u.ownBlock = some z.heap.size) : Tw w B ⟨x.ah ++ [r], x.s, x.be⟩ u vb z' := by
  refine ⟨hu, h.b.kept (fun g hg2 => hg.block g (h.b.lt g hg2).2 (fun e => h.ap g e.symm hg2)), fun g hgu => ?_, h.s.grown hg h.na, fun e => ?_, h.nb, h.lo, h.bel.grown hg h.bel.size (fun k hk => (h.a.lt k hk).1)⟩
  · rcases hob with e | e
    · rw [e] at hgu; exact h.ap g hgu
    · rw [e] at hgu
      cases hgu
      exact fun e9 => absurd (h.b.lt _ e9).2 (Nat.lt_irrefl _)
  · rcases hob with e2 | e2
    · rw [e2] at e; exact h.na e
    · rw [e2] at e
      have e3 : z.heap.size = B := Option.some.inj e
      have := h.s.lt
      omega
/-- One more behind. -/
theorem Tw.behind (h : Tw w B x va vb z) {r : Sp} (hu : Row w.heap.size (x.be ++ [r]) u z') (hg : z.grownBy z' vb.ownBlock) (hob : u.ownBlock = vb.ownBlock ∨ u.ownBlock = some z.heap.size) : Tw w B ⟨x.ah, x.s, x.be ++ [r]⟩ va u z' := by
  refine ⟨h.a.kept (fun g hg2 => hg.block g (h.a.lt g hg2).2 (fun e => h.ap g hg2 e.symm)), hu, fun g hga e => ?_, h.s.grown hg h.nb, h.na, fun e => ?_, h.lo, h.bel.grown hg h.bel.size (fun k hk => (h.b.lt k hk).1)⟩
  · rcases hob with e2 | e2
    · rw [e2] at e; exact h.ap g hga e
    · rw [e2] at e
      cases e
      exact absurd (h.a.lt _ hga).2 (Nat.lt_irrefl _)
  · rcases hob with e2 | e2
    · rw [e2] at e; exact h.nb e
    · rw [e2] at e
      have e3 : z.heap.size = B := Option.some.inj e
      have := h.s.lt
      omega
/-- The one that grows is set. -/
theorem At.put {s : Sp} {k : Nat} (h : At s k z) (a b : Int) : At (a, b) k ((z.setCell ⟨k, 0, none⟩ (.int .i64 a)).setCell ⟨k, 1, none⟩ (.int .i64 b)) := by
  obtain ⟨c0, c1, f0, f1, lt⟩ := h
  have hne : (⟨k, 0, none⟩ : Addr) ≠ ⟨k, 1, none⟩ := by simp
  have d1 : (z.setCell ⟨k, 0, none⟩ (.int .i64 a)).cell? ⟨k, 1, none⟩ = some (.int .i64 s.2) := by rw [World.cell?_setCell_other (h := hne)]; exact c1
  refine ⟨?_, World.cell?_setCell_same _ _ _ d1, by simpa using f0, by simpa using f1, by simpa using lt⟩
  rw [World.cell?_setCell_other (h := hne.symm)]
  exact World.cell?_setCell_same _ _ _ c0
theorem Tw.grow (h : Tw w B x va vb z) (a b : Int) : Tw w B ⟨x.ah, (a, b), x.be⟩ va vb ((z.setCell ⟨B, 0, none⟩ (.int .i64 a)).setCell ⟨B, 1, none⟩ (.int .i64 b)) := by
  have keep : ∀ g, g ≠ B → ((z.setCell ⟨B, 0, none⟩ (.int .i64 a)).setCell ⟨B, 1, none⟩ (.int .i64 b)).heap[g]? = z.heap[g]? := fun g hg => by
    rw [Below.heap_setCell _ ⟨B, 1, none⟩ _ g hg, Below.heap_setCell _ ⟨B, 0, none⟩ _ g hg]
  exact ⟨h.a.kept (fun g hg => keep g (fun e => h.na (by rw [hg, e]))), h.b.kept (fun g hg => keep g (fun e => h.nb (by rw [hg, e]))), h.ap, h.s.put a b, h.na, h.nb, h.lo, (h.bel.setCell (p := ⟨B, 0, none⟩) h.lo _).setCell (p := ⟨B, 1, none⟩) h.lo _⟩
end
end Spn
end Go.Proofs.Ytjlejfjkigohhaa
