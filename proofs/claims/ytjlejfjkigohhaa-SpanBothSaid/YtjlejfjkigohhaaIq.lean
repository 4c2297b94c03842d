/- Boxes that stand; Meet and Join by what comes of them; that they are the same the other way round. Conditions: as each says. -/
import Derived.Test.YtjlejfjkigohhaaIo
namespace Go.Proofs.Ytjlejfjkigohhaa
open Go.RowKit
namespace Spn
/-- These blocks hold these intervals. -/
structure Bx (w : World) (L : List (Nat × Sp)) (z : World) : Prop where
  at_ : ∀ e, e ∈ L → At e.2 e.1 z
  bel : Below w.heap.size w z
theorem Bx.nil (w : World) : Bx w [] w := ⟨(fun e h => by cases h), Below.refl _ _⟩
theorem Bx.later {w z z' : World} {L : List (Nat × Sp)} (h : Bx w L z) (hb : Below z.heap.size z z') : Bx w L z' := ⟨fun e he => (h.at_ e he).both hb, h.bel.trans (hb.mono h.bel.size)⟩
theorem Bx.push {w z : World} {L : List (Nat × Sp)} (h : Bx w L z) (a b : Int) {k : Nat} (hk : k = z.heap.size) : Bx w ((k, (a, b)) :: L) (z.alloc (.cells #[.int .i64 a, .int .i64 b] 23)) := by
  have h' := h.later (below_alloc z (.cells #[.int .i64 a, .int .i64 b] 23))
  refine ⟨fun e he => ?_, h'.bel⟩
  rcases List.mem_cons.1 he with rfl | he
  · exact At.new' z a b _ hk
  · exact h'.at_ e he
theorem Bx.get {w z : World} {L : List (Nat × Sp)} (h : Bx w L z) (i : Nat) {k : Nat} {a b : Int} (hi : L[i]? = some (k, (a, b))) : At (a, b) k z := h.at_ (k, (a, b)) (List.mem_of_getElem? hi)
theorem bx1 (w : World) (a b : Int) : Bx w [(w.heap.size, (a, b))] (w.alloc (.cells #[.int .i64 a, .int .i64 b] 23)) := (Bx.nil w).push a b rfl
theorem bx2 (w : World) (a b c d : Int) : Bx w [(w.heap.size + 1, (c, d)), (w.heap.size, (a, b))] ((w.alloc (.cells #[.int .i64 a, .int .i64 b] 23)).alloc (.cells #[.int .i64 c, .int .i64 d] 23)) := (bx1 w a b).push c d (by simp)
theorem bx3 (w : World) (a b c d e f : Int) : Bx w [(w.heap.size + 1 + 1, (e, f)), (w.heap.size + 1, (c, d)), (w.heap.size, (a, b))] (((w.alloc (.cells #[.int .i64 a, .int .i64 b] 23)).alloc (.cells #[.int .i64 c, .int .i64 d] 23)).alloc (.cells #[.int .i64 e, .int .i64 f] 23)) := (bx2 w a b c d).push e f (by simp)
theorem meet_v {a b c d p q : Int} {t : Bool} (h : meet (a, b) (c, d) = ((p, q), t)) (w : World) :
    Calls Try.prog 10 #[.agg #[.int .i64 a, .int .i64 b], .agg #[.int .i64 c, .int .i64 d]] w fun e w' => e = .returned (.tuple #[.agg #[.int .i64 p, .int .i64 q], .bool t]) ∧ Below w.heap.size w w' := by
  have := meet_any a b c d w
  rw [h] at this
  exact this
theorem join_v {a b c d p q : Int} {t : Bool} (h : join (a, b) (c, d) = ((p, q), t)) (w : World) :
    Calls Try.prog 12 #[.agg #[.int .i64 a, .int .i64 b], .agg #[.int .i64 c, .int .i64 d]] w fun e w' => e = .returned (.tuple #[.agg #[.int .i64 p, .int .i64 q], .bool t]) ∧ Below w.heap.size w w' := by
  have := join_any a b c d w
  rw [h] at this
  exact this
theorem rmeet_v {a b c d p q : Int} {t : Bool} (h : meet (a, b) (c, d) = ((p, q), t)) (w : World) :
    Calls Try.prog 11 #[.agg #[.int .i64 a, .int .i64 b], .agg #[.int .i64 c, .int .i64 d]] w fun e w' => e = .returned (.tuple #[.agg #[.int .i64 p, .int .i64 q], .bool t]) ∧ Below w.heap.size w w' := by
  have := rmeet_any a b c d w
  rw [h] at this
  exact this
theorem rjoin_v {a b c d p q : Int} {t : Bool} (h : join (a, b) (c, d) = ((p, q), t)) (w : World) :
    Calls Try.prog 13 #[.agg #[.int .i64 a, .int .i64 b], .agg #[.int .i64 c, .int .i64 d]] w fun e w' => e = .returned (.tuple #[.agg #[.int .i64 p, .int .i64 q], .bool t]) ∧ Below w.heap.size w w' := by
  have := rjoin_any a b c d w
  rw [h] at this
  exact this
theorem as_pair (x : Sp × Bool) : ∃ p q t, x = ((p, q), t) := ⟨x.1.1, x.1.2, x.2, rfl⟩
/-! ### Plain -/
theorem mid_comm (x y : Sp) : mid x y = mid y x := by unfold mid; rw [Int.max_comm, Int.min_comm]
theorem wide_comm (x y : Sp) : wide x y = wide y x := by unfold wide; rw [Int.min_comm, Int.max_comm]
theorem meet_comm (x y : Sp) : meet x y = meet y x := by
  unfold meet
  by_cases h : Meets x y
  · have h' : Meets y x := ⟨h.2.1, h.1, by rw [mid_comm]; exact h.2.2⟩
    rw [if_pos h, if_pos h', mid_comm]
  · have h' : ¬ Meets y x := fun h9 => h ⟨h9.2.1, h9.1, by rw [mid_comm]; exact h9.2.2⟩
    rw [if_neg h, if_neg h']
theorem join_comm (x y : Sp) : join x y = join y x := by
  unfold join
  by_cases h : Joins x y
  · have h' : Joins y x := ⟨h.2.1, h.1, h.2.2.2, h.2.2.1⟩
    rw [if_pos h, if_pos h', wide_comm]
  · have h' : ¬ Joins y x := fun h9 => h ⟨h9.2.1, h9.1, h9.2.2.2, h9.2.2.1⟩
    rw [if_neg h, if_neg h']
theorem mid_self (x : Sp) : mid x x = x := by
  unfold mid
  rw [show max x.1 x.1 = x.1 by omega, show min x.2 x.2 = x.2 by omega]
theorem meet_self (x : Sp) (h : Right x) : meet x x = (x, true) := by
  have h' : Meets x x := ⟨h, h, by rw [mid_self]; exact h⟩
  rw [meet_yes h', mid_self]
theorem meet_wrong (x : Sp) (h : ¬ Right x) : meet x x = ((0, 0), false) := meet_no (fun h9 => h h9.1)
theorem right_ext {x y : Sp} (hx : Right x) (hy : Right y) (h : ∀ t, Has x t ↔ Has y t) : x = y := by
  have := canon_ext (n := [x]) (m := [y]) ⟨hx, by simp, trivial⟩ ⟨hy, by simp, trivial⟩ (fun t => by rw [hasL_cons, hasL_cons]; simp [hasL_nil, h])
  simpa using this
theorem meet_right (x y : Sp) : (meet x y).2 = decide (Right (meet x y).1) := by
  by_cases h : Meets x y
  · rw [meet_yes h]; exact (decide_eq_true h.2.2).symm
  · rw [meet_no h]; exact (decide_eq_false (by decide)).symm
theorem meet_zero {x y : Sp} (h : ¬ Right (meet x y).1) : meet x y = ((0, 0), false) := by
  by_cases h1 : Meets x y
  · rw [meet_yes h1] at h; exact absurd h1.2.2 h
  · exact meet_no h1
/-- Both come to one where they have the same times. -/
theorem meet_ext {x y x' y' : Sp} (h : ∀ t, (Has x t ∧ Has y t) ↔ (Has x' t ∧ Has y' t)) : meet x y = meet x' y' := by
  have h2 : ∀ t, Has (meet x y).1 t ↔ Has (meet x' y').1 t := fun t => by rw [has_meet, has_meet, h]
  by_cases h1 : Right (meet x y).1
  · have h3 : Right (meet x' y').1 := by
      have := (h2 (meet x y).1.1).1 ⟨h1, Int.le_refl _, h1.2.1⟩
      exact this.1
    have e := right_ext h1 h3 h2
    have a := meet_right x y
    have b := meet_right x' y'
    rw [decide_eq_true h1] at a
    rw [decide_eq_true h3] at b
    exact Prod.ext e (a.trans b.symm)
  · have h3 : ¬ Right (meet x' y').1 := fun h3 => h1 ((h2 (meet x' y').1.1).2 ⟨h3, Int.le_refl _, h3.2.1⟩).1
    rw [meet_zero h1, meet_zero h3]
theorem meet_assoc (x y z : Sp) : meet (meet x y).1 z = meet x (meet y z).1 :=
  meet_ext (fun t => by rw [has_meet, has_meet, and_assoc])
end Spn
end Go.Proofs.Ytjlejfjkigohhaa
