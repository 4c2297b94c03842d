/- Rows that fit a schema: plain functions and lemmas. No condition. -/
import Derived.Test.YtopmbhpjdmcabaaJa
import Derived.Test.YtopmbhpjdmcabaaQc
namespace Go.Proofs.Ytopmbhpjdmcabaa
open Go.RowKit
namespace Sch
open Cod
def holdsB (c : C) (v : V) : Bool := v.right && (decide (v.k = c.k) || (decide (v.k = 0) && !c.nd))
def holdAt (s : T) (r : List V) (i : Nat) : Bool := match s.cols[i]?, r[i]? with
  | some c, some v => holdsB c v
  | _, _ => true
def fitsB (s : T) (r : List V) : Int := if rightB s = false then 11 else if r.length ≠ s.cols.length then 10 else if (List.range r.length).all (holdAt s r) then 0 else 10
def keyB (s : T) (r : List V) : List V := if fitsB s r = 0 then r.take s.keys.toNat else []
def nullV : V := ⟨0, 0, 0, []⟩
def wideB (s : T) (r : List V) : List V := r ++ List.replicate (s.cols.length - r.length) nullV
def widenB (s : T) (r : List V) : List V × Int := if rightB s = false then ([], 11) else if s.cols.length < r.length then ([], 10) else if fitsB s (wideB s r) = 0 then (wideB s r, 0) else ([], fitsB s (wideB s r))
theorem holdAt_at {s : T} {r : List V} {i : Nat} (h1 : i < s.cols.length) (h2 : i < r.length) : holdAt s r i = holdsB s.cols[i] r[i] := by
  unfold holdAt; rw [List.getElem?_eq_getElem h1, List.getElem?_eq_getElem h2]
theorem fits_no_right {s : T} {r : List V} (h : rightB s = false) : fitsB s r = 11 := by unfold fitsB; rw [if_pos h]
theorem fits_len {s : T} {r : List V} (h : rightB s = true) (hl : r.length ≠ s.cols.length) : fitsB s r = 10 := by
  unfold fitsB; rw [if_neg (by simp [h]), if_pos hl]
theorem fits_no {s : T} {r : List V} {i : Nat} (h : rightB s = true) (hl : r.length = s.cols.length) (hi : i < r.length) (hb : holdAt s r i = false) : fitsB s r = 10 := by
  unfold fitsB; rw [if_neg (by simp [h]), if_neg (by simp [hl]), if_neg]
  intro hx
  rw [List.all_eq_true] at hx
  rw [hx i (List.mem_range.2 hi)] at hb
  cases hb
theorem fits_yes {s : T} {r : List V} (h : rightB s = true) (hl : r.length = s.cols.length) (hb : ∀ j, j < r.length → holdAt s r j = true) : fitsB s r = 0 := by
  unfold fitsB; rw [if_neg (by simp [h]), if_neg (by simp [hl]), if_pos]
  rw [List.all_eq_true]; intro x hx; exact hb x (List.mem_range.1 hx)
theorem fits_parts {s : T} {r : List V} (h : fitsB s r = 0) : rightB s = true ∧ r.length = s.cols.length ∧ ∀ j, j < r.length → holdAt s r j = true := by
  unfold fitsB at h
  split at h
  · cases h
  · split at h
    · cases h
    · split at h
      · rename_i h1 h2 h3
        refine ⟨by simpa using h1, by simpa using h2, fun j hj => ?_⟩
        rw [List.all_eq_true] at h3
        exact h3 j (List.mem_range.2 hj)
      · cases h
/-- A row's cells, and that its place has room. -/
def RowC (vs : List V) (sl : Value) (w : World) : Prop := RowAt vs sl w ∧ ∃ ao cap, sl = .slice ao vs.length cap ∧ vs.length ≤ cap ∧ cap ≤ 9223372036854775807 ∧ (ao = none → cap = 0)
theorem RowC.later {vs : List V} {sl : Value} {w w' : World} (h : RowC vs sl w) (hb : Below w.heap.size w w') : RowC vs sl w' := ⟨h.1.later hb, h.2⟩
theorem RowC.nil (w : World) : RowC [] (.slice none 0 0) w := ⟨⟨none, 0, rfl, fun h => absurd rfl h⟩, none, 0, rfl, Nat.le_refl _, by omega, fun _ => rfl⟩
theorem flat_app (l m : List V) : flat (l ++ m) = flat l ++ flat m := by simp [flat]
/-- The first values alone. -/
theorem RowC.take {vs : List V} {ao : Option Addr} {cap : Nat} {w : World} (h : RowC vs (.slice ao vs.length cap) w) (k : Nat) (hk : k ≤ vs.length) : RowC (vs.take k) (.slice ao k cap) w := by
  obtain ⟨⟨ao', cap', h1, h2⟩, ao2, cap2, h3, hc, hm, hz⟩ := h
  simp only [Value.slice.injEq, true_and] at h1 h3
  obtain ⟨rfl, rfl⟩ := h1
  obtain ⟨rfl, rfl⟩ := h3
  have hl : (vs.take k).length = k := by rw [List.length_take]; omega
  refine ⟨⟨ao, cap, by rw [hl], fun hne => ?_⟩, ao, cap, by rw [hl], by rw [hl]; omega, hm, hz⟩
  obtain ⟨b, off, h3, h4, h5⟩ := h2 (fun e => hne (by rw [e]; simp))
  refine ⟨b, off, h3, h4, fun j hj => ?_⟩
  rw [hl] at hj
  rw [h5 j (by omega)]
  have e : flat vs = flat (vs.take k) ++ flat (vs.drop k) := by rw [← flat_app, List.take_append_drop]
  rw [e, List.getElem?_append_left (by rw [flat_len, hl]; exact hj)]
theorem RowC.of_owns {base : Nat} {vs : List V} {sl : Value} {w : World} (h : w.ownsRow base 33 4 sl vs.length (flat vs)) : RowC vs sl w := by
  refine ⟨RowAt.of_owns h rfl, ?_⟩
  rcases h.2 with ⟨hv, h0⟩ | ⟨g, cap, cur, hv, _, _, hc, hm, _⟩
  · exact ⟨none, 0, by rw [hv, h0], by omega, by omega, fun _ => rfl⟩
  · exact ⟨_, cap, hv, hc, by unfold maxLen at hm; omega, fun e => by cases e⟩
end Sch
end Go.Proofs.Ytopmbhpjdmcabaa
