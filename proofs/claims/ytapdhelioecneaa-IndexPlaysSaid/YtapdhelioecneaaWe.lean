/- Where the place of a key and a start is among blocks, plain. No condition beyond the order. -/
import Derived.Test.YtapdhelioecneaaWd
namespace Go.Proofs.Ytapdhelioecneaa
open Go.RowKit
namespace Idx
/-- The first item of a block. -/
def b0 (b : Bkm) : It := (b.xs.head?).getD ⟨[], 0, 0, 0⟩
theorem b0_at {b : Bkm} (h : 0 < b.xs.length) : b.xs[0] = b0 b := by
  unfold b0
  rw [List.head?_eq_getElem?, List.getElem?_eq_getElem h]; rfl
theorem up_its {Bs : List Bkm} (h : Up (its Bs)) : (∀ b, b ∈ Bs → Up b.xs) ∧ ∀ (i j : Nat) (hi : i < Bs.length) (hj : j < Bs.length), i < j → ∀ x, x ∈ Bs[i].xs → ∀ y, y ∈ Bs[j].xs → aheadB x y.k y.s = true := by
  unfold Up its at h
  rw [List.pairwise_flatMap] at h
  exact ⟨h.1, fun i j hi hj hij => (List.pairwise_iff_getElem.1 h.2) i j hi hj hij⟩
/-- What stands behind what is not ahead. -/
theorem past {x y : It} {k : List UInt8} {s : Int} (hx : aheadB x k s = false) (hxy : aheadB x y.k y.s = true) : aheadB y k s = false ∧ ¬ (y.k = k ∧ y.s = s) := by
  constructor
  · cases hc : aheadB y k s with
    | false => rfl
    | true => rw [ahead_trans hxy hc] at hx; cases hx
  · rintro ⟨rfl, rfl⟩
    rw [hxy] at hx; cases hx
/-- What a search in halves tells. -/
structure SrI (l : List It) (k : List UInt8) (s : Int) (i : Nat) (f : Bool) : Prop where
  le : i ≤ l.length
  lo : ∀ (j : Nat) (hj : j < l.length), j < i → aheadB l[j] k s = true
  hi : ∀ (j : Nat) (hj : j < l.length), i ≤ j → aheadB l[j] k s = false
  yes : f = true → ∃ hi : i < l.length, (l[i]).k = k ∧ (l[i]).s = s
  no : f = false → ∀ hi : i < l.length, ¬ ((l[i]).k = k ∧ (l[i]).s = s)
/-- The block in which a key and a start can be. -/
structure Hol (Bs : List Bkm) (k : List UInt8) (s : Int) (n : Nat) : Prop where
  a : ∀ e, e ∈ its (Bs.take n) → aheadB e k s = true
  b : ∀ e, e ∈ its (Bs.drop (n + 1)) → aheadB e k s = false ∧ ¬ (e.k = k ∧ e.s = s)
  z : n ≤ Bs.length
  n : Bs ≠ [] → n < Bs.length
theorem mem_take_its {Bs : List Bkm} {n : Nat} {e : It} (h : e ∈ its (Bs.take n)) : ∃ (j : Nat) (hj : j < Bs.length), j < n ∧ e ∈ Bs[j].xs := by
  obtain ⟨b, hb, he⟩ := mem_its.1 h
  obtain ⟨j, hj, rfl⟩ := List.getElem_of_mem hb
  rw [List.length_take] at hj
  rw [List.getElem_take] at he
  exact ⟨j, by omega, by omega, he⟩
theorem mem_drop_its {Bs : List Bkm} {n : Nat} {e : It} (h : e ∈ its (Bs.drop n)) : ∃ (j : Nat) (hj : j < Bs.length), n ≤ j ∧ e ∈ Bs[j].xs := by
  obtain ⟨b, hb, he⟩ := mem_its.1 h
  obtain ⟨j, hj, rfl⟩ := List.getElem_of_mem hb
  rw [List.length_drop] at hj
  rw [List.getElem_drop] at he
  exact ⟨n + j, by omega, by omega, he⟩
theorem b0_mem {b : Bkm} (h : 1 ≤ b.xs.length) : b0 b ∈ b.xs := by rw [← b0_at (by omega)]; exact List.getElem_mem _
/-- What is in a block is its first one, or stands behind it. -/
theorem b0_past {b : Bkm} (hu : Up b.xs) {e : It} (he : e ∈ b.xs) : e = b0 b ∨ aheadB (b0 b) e.k e.s = true := by
  obtain ⟨j, hj, rfl⟩ := List.getElem_of_mem he
  rcases Nat.eq_zero_or_pos j with rfl | h
  · exact .inl (b0_at hj)
  · refine .inr ?_
    rw [← b0_at (by omega)]
    exact up_at hu 0 j (by omega) hj h
theorem hol_of {Bs : List Bkm} {k : List UInt8} {s : Int} (h : Up (its Bs)) (h1 : ∀ b, b ∈ Bs → 1 ≤ b.xs.length) {r : Nat} {f : Bool} (hs : SrI (Bs.map b0) k s r f) : Hol Bs k s (if f = true then r else r - 1) := by
  obtain ⟨hin, hup⟩ := up_its h
  have hle : r ≤ Bs.length := by simpa using hs.le
  have hlo : ∀ (j : Nat) (hj : j < Bs.length), j < r → aheadB (b0 Bs[j]) k s = true := fun j hj hjr => by
    have := hs.lo j (by simpa using hj) hjr; rwa [List.getElem_map] at this
  have hhi : ∀ (j : Nat) (hj : j < Bs.length), r ≤ j → aheadB (b0 Bs[j]) k s = false := fun j hj hjr => by
    have := hs.hi j (by simpa using hj) hjr; rwa [List.getElem_map] at this
  cases f with
  | true =>
    rw [if_pos rfl]
    obtain ⟨hr, e1, e2⟩ := hs.yes rfl
    rw [List.getElem_map] at e1 e2
    have hr2 : r < Bs.length := by simpa using hr
    refine ⟨fun e he => ?_, fun e he => ?_, hle, fun _ => hr2⟩
    · obtain ⟨j, hj, hjr, he⟩ := mem_take_its he
      have := hup j r hj hr2 hjr e he _ (b0_mem (h1 _ (List.getElem_mem hr2)))
      rwa [e1, e2] at this
    · obtain ⟨j, hj, hjr, he⟩ := mem_drop_its he
      exact past (hhi r hr2 (Nat.le_refl _)) (hup r j hr2 hj (by omega) _ (b0_mem (h1 _ (List.getElem_mem hr2))) e he)
  | false =>
    rw [if_neg (by simp)]
    refine ⟨fun e he => ?_, fun e he => ?_, by omega, fun hne => by have : 0 < Bs.length := List.length_pos_iff.2 hne; omega⟩
    · obtain ⟨j, hj, hjr, he⟩ := mem_take_its he
      exact ahead_trans (hup j (r - 1) hj (by omega) hjr e he _ (b0_mem (h1 _ (List.getElem_mem (by omega))))) (hlo (r - 1) (by omega) (by omega))
    · obtain ⟨j, hj, hjr, he⟩ := mem_drop_its he
      have hrj : r ≤ j := by omega
      have hr2 : r < Bs.length := by omega
      have hx := hhi r hr2 (Nat.le_refl _)
      have hno : ¬ ((b0 Bs[r]).k = k ∧ (b0 Bs[r]).s = s) := by
        have := hs.no rfl (by simpa using hr2); rwa [List.getElem_map] at this
      rcases Nat.eq_or_lt_of_le hrj with e9 | hlt
      · subst e9
        rcases b0_past (hin _ (List.getElem_mem hr2)) he with e8 | e8
        · rw [e8]; exact ⟨hx, hno⟩
        · exact past hx e8
      · exact past hx (hup r j hr2 hj hlt _ (b0_mem (h1 _ (List.getElem_mem hr2))) e he)
/-- The place, out of its block's. -/
theorem find_of {Bs : List Bkm} {k : List UInt8} {s : Int} {n i : Nat} {f : Bool} (hh : Hol Bs k s n) (hn : n < Bs.length) (hs : SrI Bs[n].xs k s i f) : pl (its Bs) k s = cnt Bs n + i ∧ isAt (its Bs) k s = f := by
  have e0 := its_split Bs n hn
  obtain ⟨A, hA⟩ : ∃ A, A = its (Bs.take n) := ⟨_, rfl⟩
  obtain ⟨B, hB⟩ : ∃ B, B = its (Bs.drop (n + 1)) := ⟨_, rfl⟩
  obtain ⟨X, hX⟩ : ∃ X, X = Bs[n].xs := ⟨_, rfl⟩
  have hc : cnt Bs n = A.length := by rw [hA]; rfl
  have ha := hh.a
  have hb := hh.b
  rw [← hA] at ha
  rw [← hB] at hb
  rw [← hX] at hs
  rw [← hA, ← hB, ← hX] at e0
  rw [e0, hc]
  have hat : ∀ (hz : A.length + i < (A ++ (X ++ B)).length), aheadB ((A ++ (X ++ B))[A.length + i]) k s = false ∧ (f = false → ¬ (((A ++ (X ++ B))[A.length + i]).k = k ∧ ((A ++ (X ++ B))[A.length + i]).s = s)) := fun hz => by
    rcases Nat.lt_or_ge i X.length with hi | hi
    · have e : (A ++ (X ++ B))[A.length + i] = X[i] := by
        rw [List.getElem_append_right (by omega), List.getElem_append_left (by omega)]
        congr 1; omega
      rw [e]
      exact ⟨hs.hi i hi (Nat.le_refl _), fun hf => hs.no hf hi⟩
    · have hm : (A ++ (X ++ B))[A.length + i] ∈ B := by
        rw [List.getElem_append_right (by omega), List.getElem_append_right (by omega)]
        exact List.getElem_mem _
      exact ⟨(hb _ hm).1, fun _ => (hb _ hm).2⟩
  have hp : pl (A ++ (X ++ B)) k s = A.length + i := by
    refine pl_is (by have := hs.le; simp only [List.length_append]; omega) (fun j hj hji => ?_) (fun hz => (hat hz).1)
    rcases Nat.lt_or_ge j A.length with h | h
    · rw [List.getElem_append_left h]; exact ha _ (List.getElem_mem h)
    · rw [List.getElem_append_right h, List.getElem_append_left (by have := hs.le; omega)]
      exact hs.lo _ _ (by omega)
  refine ⟨hp, ?_⟩
  cases f with
  | true =>
    obtain ⟨hi, e1, e2⟩ := hs.yes rfl
    unfold isAt
    rw [hp, List.getElem?_append_right (by omega), show A.length + i - A.length = i by omega, List.getElem?_append_left hi, List.getElem?_eq_getElem hi]
    simp [e1, e2]
  | false =>
    cases hc9 : isAt (A ++ (X ++ B)) k s with
    | false => rfl
    | true =>
      obtain ⟨h1, h2, h3⟩ := isAt_yes hc9
      have h4 := (hat (by rw [← hp]; exact h1)).2 rfl
      have e : (A ++ (X ++ B))[A.length + i]'(by rw [← hp]; exact h1) = (A ++ (X ++ B))[pl (A ++ (X ++ B)) k s] := by congr 1; exact hp.symm
      rw [e] at h4
      exact absurd ⟨h2, h3⟩ h4
theorem up_b0 {Bs : List Bkm} (h : Up (its Bs)) (h1 : ∀ b, b ∈ Bs → 1 ≤ b.xs.length) : Up (Bs.map b0) := by
  unfold Up
  rw [List.pairwise_map, List.pairwise_iff_getElem]
  intro i j hi hj hij
  exact (up_its h).2 i j hi hj hij _ (b0_mem (h1 _ (List.getElem_mem hi))) _ (b0_mem (h1 _ (List.getElem_mem hj)))
end Idx
end Go.Proofs.Ytapdhelioecneaa
