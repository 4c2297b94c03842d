/- Right rows and pieces, plain. No condition beyond what each says. -/
import Derived.Test.YtoacombaddknfaaOd
namespace Go.Proofs.Ytoacombaddknfaa
open Go.RowKit
namespace Prd
open Spn (Sp Right)
open Cod (V)
/-- All its values are right. -/
def rowB (vs : List V) : Bool := vs.all V.right
def Good (vs : List V) : Prop := rowB vs = true
instance (vs : List V) : Decidable (Good vs) := by unfold Good; exact inferInstance
theorem rowB_no {vs : List V} (i : Nat) (hi : i < vs.length) (h : (vs[i]).right = false) : rowB vs = false := by
  unfold rowB
  rw [List.all_eq_false]
  exact ⟨vs[i], List.getElem_mem hi, by rw [h]; simp⟩
theorem rowB_yes {vs : List V} (h : ∀ (j : Nat) (hj : j < vs.length), (vs[j]).right = true) : rowB vs = true := by
  unfold rowB
  rw [List.all_eq_true]
  intro v hv
  obtain ⟨j, hj, rfl⟩ := List.getElem_of_mem hv
  exact h j hj
noncomputable instance (l : List (Sp × List V)) : Decidable (Ok Good l) := Classical.propDecidable _
theorem ok_index {l : List (Sp × List V)} : Ok Good l ↔ ∀ (j : Nat) (hj : j < l.length), (Right (l[j]).1 ∧ Good (l[j]).2) ∧ (0 < j → (l[j - 1]'(by omega)).1.2 ≤ (l[j]).1.1) := by
  constructor
  · intro h j hj
    refine ⟨h.one _ (List.getElem_mem hj), fun h0 => ?_⟩
    exact (List.pairwise_iff_getElem.1 h.up) (j - 1) j (by omega) hj (by omega)
  · intro h
    have key : ∀ (d i : Nat) (hi : i + d + 1 < l.length), (l[i]'(by omega)).1.2 ≤ (l[i + d + 1]).1.1 := by
      intro d
      induction d with
      | zero =>
        intro i hi
        have := (h (i + 0 + 1) hi).2 (by omega)
        exact this
      | succ d ih =>
        intro i hi
        have a := ih i (by omega)
        have b := (h (i + (d + 1) + 1) hi).2 (by omega)
        have c := (h (i + d + 1) (by omega)).1.1.2.1
        have e : (l[i + (d + 1) + 1 - 1]'(by omega)) = l[i + d + 1]'(by omega) := by congr 1
        rw [e] at b
        omega
    refine ⟨fun p hp => ?_, List.pairwise_iff_getElem.2 (fun i j hi hj hij => ?_)⟩
    · obtain ⟨j, hj, rfl⟩ := List.getElem_of_mem hp
      exact (h j hj).1
    · have := key (j - i - 1) i (by omega)
      have e : l[i + (j - i - 1) + 1]'(by omega) = l[j] := by congr 1; omega
      rw [e] at this
      exact this
/-- Short enough to be walked over. -/
structure Small (l : List Pm) : Prop where
  n : l.length ≤ 1000
  r : ∀ x, x ∈ l → x.r.length ≤ 1000000
  i : ∀ x, x ∈ l → ∀ v ∈ x.r, v.inn
end Prd
end Go.Proofs.Ytoacombaddknfaa
