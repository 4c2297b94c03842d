/- Rows that fit a schema: plain functions and lemmas. No condition. -/
/- schema.copied. Condition: at most a million values, of at most 2^48 bytes each. -/
/- slices.Grow from nothing, slices.Concat of two rows of values. Condition: one to a million values together. -/
import Derived.Test.YtopmbhpjdmcabaaGreatJa
import Derived.Test.YtopmbhpjdmcabaaGreatQc
import Derived.Test.YtopmbhpjdmcabaaGreatQa
import Derived.Lib.AppendZeros
import Derived.Laws.AppendOwnNone
namespace Go.Proofs.YtopmbhpjdmcabaaGreat
open Go.RowKit
namespace Sch
open Cod
def holdsB (c : C) (v : V) : Bool := v.right && (decide (v.k = c.k) || (decide (v.k = 0) && !c.nd))
def holdAt (s : T) (r : List V) (i : Nat) : Bool := match s.cols[i]?, r[i]? with
  | some c, some v => holdsB c v
  | _, _ => true
def fitsB (s : T) (r : List V) : Int := if rightB s = false then 11 else if r.length ≠ s.cols.length then 10 else if (List.range r.length).all (holdAt s r) then 0 else 10
def keyB (s : T) (r : List V) : List V := if fitsB s r = 0 then r.take s.keys.toNat else []
def nullV : V := ⟨0, 0, 0, []⟩
def wideB (s : T) (r : List V) : List V := r ++ List.replicate (s.cols.length - r.length) nullV
def widenB (s : T) (r : List V) : List V × Int := if rightB s = false then ([], 11) else if s.cols.length < r.length then ([], 10) else if fitsB s (wideB s r) = 0 then (wideB s r, 0) else ([], fitsB s (wideB s r))
theorem holdAt_at {s : T} {r : List V} {i : Nat} (h1 : i < s.cols.length) (h2 : i < r.length) : holdAt s r i = holdsB s.cols[i] r[i] := by
  unfold holdAt; rw [List.getElem?_eq_getElem h1, List.getElem?_eq_getElem h2]
theorem fits_no_right {s : T} {r : List V} (h : rightB s = false) : fitsB s r = 11 := by unfold fitsB; rw [if_pos h]
theorem fits_len {s : T} {r : List V} (h : rightB s = true) (hl : r.length ≠ s.cols.length) : fitsB s r = 10 := by
  unfold fitsB; rw [if_neg (by simp [h]), if_pos hl]
theorem fits_no {s : T} {r : List V} {i : Nat} (h : rightB s = true) (hl : r.length = s.cols.length) (hi : i < r.length) (hb : holdAt s r i = false) : fitsB s r = 10 := by
  unfold fitsB; rw [if_neg (by simp [h]), if_neg (by simp [hl]), if_neg]
  intro hx
  rw [List.all_eq_true] at hx
  rw [hx i (List.mem_range.2 hi)] at hb
  cases hb
theorem fits_yes {s : T} {r : List V} (h : rightB s = true) (hl : r.length = s.cols.length) (hb : ∀ j, j < r.length → holdAt s r j = true) : fitsB s r = 0 := by
  unfold fitsB; rw [if_neg (by simp [h]), if_neg (by simp [hl]), if_pos]
  rw [List.all_eq_true]; intro x hx; exact hb x (List.mem_range.1 hx)
theorem fits_parts {s : T} {r : List V} (h : fitsB s r = 0) : rightB s = true ∧ r.length = s.cols.length ∧ ∀ j, j < r.length → holdAt s r j = true := by
  unfold fitsB at h
  split at h
  · cases h
  · split at h
    · cases h
    · split at h
      · rename_i h1 h2 h3
        refine ⟨by simpa using h1, by simpa using h2, fun j hj => ?_⟩
        rw [List.all_eq_true] at h3
        exact h3 j (List.mem_range.2 hj)
      · cases h
/-- A row's cells, and that its place has room. -/
def RowC (vs : List V) (sl : Value) (w : World) : Prop := RowAt vs sl w ∧ ∃ ao cap, sl = .slice ao vs.length cap ∧ vs.length ≤ cap ∧ cap ≤ 9223372036854775807 ∧ (ao = none → cap = 0)
theorem RowC.later {vs : List V} {sl : Value} {w w' : World} (h : RowC vs sl w) (hb : Below w.heap.size w w') : RowC vs sl w' := ⟨h.1.later hb, h.2⟩
theorem RowC.nil (w : World) : RowC [] (.slice none 0 0) w := ⟨⟨none, 0, rfl, fun h => absurd rfl h⟩, none, 0, rfl, Nat.le_refl _, by omega, fun _ => rfl⟩
theorem flat_app (l m : List V) : flat (l ++ m) = flat l ++ flat m := by simp [flat]
/-- The first values alone. -/
theorem RowC.take {vs : List V} {ao : Option Addr} {cap : Nat} {w : World} (h : RowC vs (.slice ao vs.length cap) w) (k : Nat) (hk : k ≤ vs.length) : RowC (vs.take k) (.slice ao k cap) w := by
  obtain ⟨⟨ao', cap', h1, h2⟩, ao2, cap2, h3, hc, hm, hz⟩ := h
  simp only [Value.slice.injEq, true_and] at h1 h3
  obtain ⟨rfl, rfl⟩ := h1
  obtain ⟨rfl, rfl⟩ := h3
  have hl : (vs.take k).length = k := by rw [List.length_take]; omega
  refine ⟨⟨ao, cap, by rw [hl], fun hne => ?_⟩, ao, cap, by rw [hl], by rw [hl]; omega, hm, hz⟩
  obtain ⟨b, off, h3, h4, h5⟩ := h2 (fun e => hne (by rw [e]; simp))
  refine ⟨b, off, h3, h4, fun j hj => ?_⟩
  rw [hl] at hj
  rw [h5 j (by omega)]
  have e : flat vs = flat (vs.take k) ++ flat (vs.drop k) := by rw [← flat_app, List.take_append_drop]
  rw [e, List.getElem?_append_left (by rw [flat_len, hl]; exact hj)]
theorem RowC.of_owns {base : Nat} {vs : List V} {sl : Value} {w : World} (h : w.ownsRow base 52 4 sl vs.length (flat vs)) : RowC vs sl w := by
  refine ⟨RowAt.of_owns h rfl, ?_⟩
  rcases h.2 with ⟨hv, h0⟩ | ⟨g, cap, cur, hv, _, _, hc, hm, _⟩
  · exact ⟨none, 0, by rw [hv, h0], by omega, by omega, fun _ => rfl⟩
  · exact ⟨_, cap, hv, hc, by unfold maxLen at hm; omega, fun e => by cases e⟩
end Sch
end Go.Proofs.YtopmbhpjdmcabaaGreat
namespace Go.Proofs.YtopmbhpjdmcabaaGreat
open Go.RowKit
namespace Sch
open Cod
theorem clone_of (l : List UInt8) (hl : l.length ≤ 281474976710656) (w : World) :
    Calls Tryz.prog 72 #[.string (S l)] w fun e w' => e = .returned (.string (S l)) ∧ Below w.heap.size w w' := clone_any (S l) w (by rw [S_size]; exact hl)
def Out1 (vs : List V) (w : World) (e : Ending) (w' : World) : Prop := ∃ v, e = .returned v ∧ RowC vs v w' ∧ Below w.heap.size w w'
theorem four {w : World} {c : Nat} {a b d e : Value} {t : TypeId} (h : w.heap[c]? = some (.cells #[a, b, d, e] t (0, 0))) : w.cell? ⟨c, 0, none⟩ = some a ∧ w.cell? ⟨c, 1, none⟩ = some b ∧ w.cell? ⟨c, 2, none⟩ = some d ∧ w.cell? ⟨c, 3, none⟩ = some e ∧ w.frozen? ⟨c, 3, none⟩ = false := by
  refine ⟨?_, ?_, ?_, ?_, ?_⟩ <;> simp [World.cell?, World.frozen?, h]
end Sch
end Go.Proofs.YtopmbhpjdmcabaaGreat
namespace Go.Proofs.YtopmbhpjdmcabaaGreat
open Go.RowKit
namespace Sch
open Cod
theorem flat_one {vs : List V} : ∀ u ∈ flat vs, u.oneCell' = true := by
  intro u hu
  unfold flat at hu
  rw [List.mem_flatMap] at hu
  obtain ⟨v, _, h⟩ := hu
  unfold V.cells at h
  simp only [List.mem_cons, List.not_mem_nil, or_false] at h
  rcases h with rfl | rfl | rfl | rfl <;> rfl
theorem add_at (b off j : Nat) : (⟨b, off, none⟩ : Addr).add j = ⟨b, off + j, none⟩ := by unfold Addr.add; split <;> simp_all
/-- A row as the source of an append. -/
theorem RowC.src {vs : List V} {sl : Value} {w : World} (h : RowC vs sl w) : (sl = .slice none 0 0 ∧ vs = []) ∨ ∃ a cap, sl = .slice (some a) vs.length cap ∧ vs.length ≤ cap ∧ ∀ j u, (flat vs)[j]? = some u → w.cell? (a.add j) = some u := by
  obtain ⟨⟨ao, cap, h1, h2⟩, ao2, cap2, h3, hc, hm, hz⟩ := h
  rw [h1] at h3
  simp only [Value.slice.injEq, true_and] at h3
  obtain ⟨rfl, rfl⟩ := h3
  cases ao with
  | none =>
    left
    have hv : vs = [] := by
      rcases Decidable.em (vs = []) with e | e
      · exact e
      · obtain ⟨b, off, h3, _⟩ := h2 e; cases h3
    subst hv
    exact ⟨by rw [h1, hz rfl]; rfl, rfl⟩
  | some a =>
    right
    refine ⟨a, cap, h1, hc, fun j u hu => ?_⟩
    have hj := (List.getElem?_eq_some_iff.1 hu).1
    rw [flat_len] at hj
    obtain ⟨b, off, h3, h4, h5⟩ := h2 (fun e => by rw [e] at hj; simp at hj)
    cases h3
    rw [add_at, h5 j hj, hu]
def GrowP (base : Nat) (w : World) (e : Ending) (w' : World) : Prop := ∃ v, e = .returned v ∧ w'.ownsRow base 52 4 v 0 [] ∧ Below w.heap.size w w'
def szAt (n m i : Nat) : Nat := if i = 0 then 0 else if i = 1 then n else n + m
def ptAt (xs ys : List V) (i : Nat) : List V := if i = 0 then [] else if i = 1 then xs else xs ++ ys
end Sch
end Go.Proofs.YtopmbhpjdmcabaaGreat
