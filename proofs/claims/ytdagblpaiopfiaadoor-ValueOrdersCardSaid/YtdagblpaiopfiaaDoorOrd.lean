/- The order of values is total: plain lemmas. No condition. -/
import Derived.Test.YtdagblpaiopfiaaDoorSpeb
namespace Go.Proofs.YtdagblpaiopfiaaDoor
open Go.RowKit
namespace Ord
theorem less_irrefl : ∀ l : List UInt8, Op.bytesLess l l = false
  | [] => rfl
  | a :: l => by simp [Op.bytesLess, less_irrefl l]
theorem less_asymm : ∀ l m : List UInt8, Op.bytesLess l m = true → Op.bytesLess m l = false
  | _, [], h => by simp [Op.bytesLess] at h
  | [], _ :: _, _ => rfl
  | a :: l, b :: m, h => by
    simp only [Op.bytesLess, Bool.or_eq_true, decide_eq_true_eq, Bool.and_eq_true, beq_iff_eq] at h
    simp only [Op.bytesLess, Bool.or_eq_false_iff, decide_eq_false_iff_not, Bool.and_eq_false_iff, beq_eq_false_iff_ne]
    rcases h with h | ⟨rfl, h⟩
    · exact ⟨fun k => absurd (UInt8.lt_trans h k) (UInt8.lt_irrefl _), Or.inl (fun e => by subst e; exact UInt8.lt_irrefl _ h)⟩
    · exact ⟨UInt8.lt_irrefl _, Or.inr (less_asymm l m h)⟩
theorem less_tri : ∀ l m : List UInt8, Op.bytesLess l m = false → Op.bytesLess m l = false → l = m
  | [], [], _, _ => rfl
  | [], b :: m, h, _ => by simp [Op.bytesLess] at h
  | a :: l, [], _, h => by simp [Op.bytesLess] at h
  | a :: l, b :: m, h, k => by
    simp only [Op.bytesLess, Bool.or_eq_false_iff, decide_eq_false_iff_not, Bool.and_eq_false_iff, beq_eq_false_iff_ne] at h k
    have e : a = b := by
      apply UInt8.toNat_inj.1
      have h1 := h.1
      have k1 := k.1
      rw [UInt8.lt_iff_toNat_lt] at h1 k1
      omega
    subst e
    rw [less_tri l m (h.2.resolve_left (fun x => x rfl)) (k.2.resolve_left (fun x => x rfl))]
theorem less_trans : ∀ l m n : List UInt8, Op.bytesLess l m = true → Op.bytesLess m n = true → Op.bytesLess l n = true
  | _, [], _, h, _ => by simp [Op.bytesLess] at h
  | _, _ :: _, [], _, h => by simp [Op.bytesLess] at h
  | [], _ :: _, _ :: _, _, _ => rfl
  | a :: l, b :: m, c :: n, h, k => by
    simp only [Op.bytesLess, Bool.or_eq_true, decide_eq_true_eq, Bool.and_eq_true, beq_iff_eq] at h k ⊢
    rcases h with h | ⟨rfl, h⟩
    · rcases k with k | ⟨rfl, k⟩
      · exact Or.inl (UInt8.lt_trans h k)
      · exact Or.inl h
    · rcases k with k | ⟨rfl, k⟩
      · exact Or.inl k
      · exact Or.inr ⟨rfl, less_trans l m n h k⟩
/-- A three-valued comparison that is an order: swapped it turns its sign; below a second one that is not above a third is below that. -/
structure Tot {α : Type} (c : α → α → Int) : Prop where
  rng : ∀ a b, c a b = -1 ∨ c a b = 0 ∨ c a b = 1
  swap : ∀ a b, c a b = -c b a
  tr : ∀ x y z, c x y ≤ 0 → c y z ≤ 0 → c x z ≤ 0 ∧ (c x y < 0 → c x z < 0)
theorem cmpI_tot : Tot Val.cmpI where
  rng a b := by unfold Val.cmpI; repeat' split <;> omega
  swap a b := by unfold Val.cmpI; repeat' split <;> omega
  tr x y z := by unfold Val.cmpI; repeat' split <;> omega
theorem cmpS_tot : Tot Val.cmpS where
  rng a b := by
    unfold Val.cmpS
    split
    · exact Or.inl rfl
    · split
      · exact Or.inr (Or.inl rfl)
      · exact Or.inr (Or.inr rfl)
  swap a b := by
    unfold Val.cmpS
    cases h : Op.bytesLess a.toList b.toList
    · cases k : Op.bytesLess b.toList a.toList
      · have e := less_tri _ _ h k
        simp [e]
      · have ne : a.toList ≠ b.toList := fun e => by rw [e, less_irrefl] at k; cases k
        simp [ne]
    · have k := less_asymm _ _ h
      have ne : b.toList ≠ a.toList := fun e => by rw [e, less_irrefl] at h; cases h
      simp [k, ne]
  tr x y z := by
    have key : ∀ s t : ByteArray, Val.cmpS s t ≤ 0 → Op.bytesLess s.toList t.toList = true ∨ s.toList = t.toList := by
      intro s t h
      unfold Val.cmpS at h
      by_cases g : Op.bytesLess s.toList t.toList = true
      · exact Or.inl g
      · rw [if_neg g] at h
        by_cases e : s.toList = t.toList
        · exact Or.inr e
        · rw [if_neg e] at h; omega
    have neg : ∀ s t : ByteArray, Op.bytesLess s.toList t.toList = true → Val.cmpS s t = -1 := fun s t g => by unfold Val.cmpS; rw [if_pos g]
    have zer : ∀ s t : ByteArray, s.toList = t.toList → Val.cmpS s t = 0 := fun s t e => by unfold Val.cmpS; rw [if_neg (by rw [e, less_irrefl]; simp), if_pos e]
    intro h1 h2
    rcases key x y h1 with a | a
    · rcases key y z h2 with b | b
      · have := neg x z (less_trans _ _ _ a b); omega
      · have := neg x z (by rw [← b]; exact a); omega
    · rcases key y z h2 with b | b
      · have := neg x z (by rw [a]; exact b)
        have := zer x y a
        omega
      · have := zer x z (a.trans b)
        have := zer x y a
        omega
theorem cmpF_tot : Tot Val.cmpF where
  rng a b := by
    unfold Val.cmpF
    split
    · split
      · exact Or.inr (Or.inl rfl)
      · exact Or.inr (Or.inr rfl)
    · split
      · exact Or.inl rfl
      · exact cmpI_tot.rng _ _
  swap a b := by
    have := cmpI_tot.swap (Flo.key a) (Flo.key b)
    unfold Val.cmpF
    cases Flo.nanB a <;> cases Flo.nanB b <;> simp <;> omega
  tr x y z := by
    have := cmpI_tot.tr (Flo.key x) (Flo.key y) (Flo.key z)
    unfold Val.cmpF
    cases Flo.nanB x <;> cases Flo.nanB y <;> cases Flo.nanB z <;> simp <;> first | exact this | omega
end Ord
end Go.Proofs.YtdagblpaiopfiaaDoor
