/- slices.SortFunc of a row of intervals by where they begin: the row has the same ones, in that order. Condition: no more than 100000 of them. -/
import Derived.Test.YtoacombaddknfaaId
import Derived.Shelf.SlSortCmp.NoneTotal
import Derived.Test.YtoacombaddknfaaShelf
namespace Go.Proofs.Ytoacombaddknfaa
open Go.RowKit
namespace Spn
def encS (x : Sp) : List Value := [.int .i64 x.1, .int .i64 x.2]
abbrev cmpS (x y : Sp) : Int := Lib.compareInt x.1 y.1
theorem ltS (x y : Sp) : Go.Proofs.ltOf cmpS x y = decide (x.1 < y.1) := by
  unfold Go.Proofs.ltOf cmpS Lib.compareInt
  by_cases h1 : x.1 < y.1
  · simp [h1]
  · by_cases h2 : y.1 < x.1 <;> simp [h1, h2]
theorem swoS : Go.Sort.SWO (Go.Proofs.ltOf cmpS) where
  irrefl x := by rw [ltS]; simp
  trans x y z h1 h2 := by rw [ltS] at *; simp at *; omega
  ntrans x y z h1 h2 := by rw [ltS] at *; simp at *; omega
set_option maxHeartbeats 1000000 in
set_option maxRecDepth 100000 in
theorem closure_any (x y : Sp) (W : World) : Calls Try.prog 77 #[.agg #[.int .i64 x.1, .int .i64 x.2], .agg #[.int .i64 y.1, .int .i64 y.2]] W fun e w' => e = .returned (.int .i64 (Lib.compareInt x.1 y.1)) ∧ ∃ q os', w' = Go.Sort.grow (W.drewN q) os' := by
  have hcon := fun W' => Try.cmp_Compare_int x.1 y.1 W'
  generalize Lib.compareInt x.1 y.1 = r at hcon ⊢
  go_enter Try.func77, Try.ntmps77
  go_wp2_with fail
  refine (hcon _).mono ?_
  rintro e w' ⟨rfl, rfl⟩
  go_wp2_with fail
  go_ret
  exact ⟨rfl, 0, _, by rw [Go.Sort.alloc_eq_grow, Go.Sort.alloc_eq_grow, Go.Sort.grow_grow]; rfl⟩
theorem flat_get (l : List Sp) (j : Nat) (hj : j < l.length * 2) : (flat l)[j]? = some ((encS (l.toArray[j / 2]!))[j % 2]!) := by
  have h1 : j / 2 < l.length := by omega
  have h2 := flat_at l (j / 2) h1 (j % 2) (by omega)
  rw [show j / 2 * 2 + j % 2 = j by omega] at h2
  rw [h2]
  have e : l.toArray[j / 2]! = l[j / 2] := by simp [getElem!_pos, h1]
  rw [e]
  have h3 : j % 2 < 2 := by omega
  generalize j % 2 = f at h3
  match f, h3 with
  | 0, _ => rfl
  | 1, _ => rfl
theorem flatK_eq (l : List Sp) (j : Nat) (hj : j < l.length * 2) : (Go.Sort.flatK encS 2 l.toArray)[j]? = (flat l)[j]? := by
  rw [flat_get l j hj]
  have h1 : j < (Go.Sort.flatK encS 2 l.toArray).size := by rw [Go.Sort.size_flatK]; simpa using hj
  rw [Array.getElem?_eq_getElem h1]
  have := Go.Sort.get_flatK encS 2 l.toArray j (by simpa using hj)
  rw [getElem!_pos _ j h1] at this
  rw [this]
theorem holds_of {base g cap : Nat} {l : List Sp} {w : World} (h : Row base l (.slice (some ⟨g, 0, none⟩) l.length cap) w) : Go.Sort.HoldsK encS 2 w g 0 l.toArray := by
  intro j hj
  have hj2 : j < l.length * 2 := by simpa using hj
  refine ⟨?_, by rw [Nat.zero_add]; exact World.ownsRow.frozenAt h j⟩
  rw [Nat.zero_add, World.ownsRow.cellAt h j (by omega), ← flatK_eq l j hj2, Array.getElem?_eq_getElem hj, getElem!_pos _ j hj]
  rfl
theorem sorted_row {base g cap q : Nat} {l r : List Sp} {w : World} {os : Array Obj} (h : Row base l (.slice (some ⟨g, 0, none⟩) l.length cap) w) (hr : r.length = l.length) :
    Row base r (.slice (some ⟨g, 0, none⟩) l.length cap) (Go.Proofs.sortWorldK encS 2 w g 0 q r.toArray os) := by
  rcases h.2 with ⟨e0, _⟩ | ⟨g', cap', cur, e0, hb, hg, hn, hm, hs, ht⟩
  · cases e0
  · injection e0 with e1 _ e3
    injection e1 with e1
    injection e1 with e1
    subst e1; subst e3
    unfold Row
    rw [hr]
    have hgl : g < w.heap.size := lt_of_block hg
    refine ⟨by rw [flat_len, hr], .inr ⟨g, cap, Go.Sort.putCells id 0 (Go.Sort.flatK encS 2 r.toArray) cur, rfl, hb, ?_, hn, hm, by simpa [Go.Sort.putCells] using hs, ?_⟩⟩
    · unfold Go.Proofs.sortWorldK
      rw [Go.Sort.heap_grow_old _ _ (by simpa [Go.Sort.putRowK] using hgl)]
      simp [Go.Sort.putRowK, Go.Sort.putRow, Go.Sort.mapBlock, Go.Sort.ahead, Array.getElem?_modify, hg, Go.Sort.onCells]
    · apply List.ext_getElem?
      intro j
      rw [List.getElem?_take, Array.getElem?_toList]
      by_cases hj : j < l.length * 2
      · have hjc : j < cur.size := by omega
        have hjr : j < r.length * 2 := by omega
        rw [if_pos hj, ← flatK_eq r j hjr]
        simp only [Go.Sort.putCells, Array.getElem?_mapIdx, Array.getElem?_eq_getElem hjc, Option.map_some]
        have h1 : j < (Go.Sort.flatK encS 2 r.toArray).size := by rw [Go.Sort.size_flatK]; simpa using hjr
        rw [if_pos (by omega), Nat.sub_zero, Array.getElem?_eq_getElem h1, getElem!_pos _ j h1]
        rfl
      · rw [if_neg hj, List.getElem?_eq_none (by rw [flat_len]; omega)]
theorem sorted_below {B g q : Nat} {r : List Sp} {w : World} {os : Array Obj} (hg : B ≤ g) (hgw : g < w.heap.size) : Go.RowKit.Below B w (Go.Proofs.sortWorldK encS 2 w g 0 q r.toArray os) := by
  refine ⟨rfl, rfl, rfl, by simp [Go.Proofs.sortWorldK, Go.Sort.putRowK, Go.Sort.grow], fun k hk => ?_⟩
  unfold Go.Proofs.sortWorldK
  rw [Go.Sort.heap_grow_old _ _ (by simp [Go.Sort.putRowK]; omega)]
  simp [Go.Sort.putRowK, Go.Sort.putRow, Go.Sort.mapBlock, Go.Sort.ahead, Array.getElem?_modify, show g ≠ k by omega]
theorem sort_any {base : Nat} {l : List Sp} {v : Value} {w : World} (h : Row base l v w) (hl : l.length ≤ 100000) :
    Calls Try.prog 76 #[v, .func (.func 77) #[] #[]] w fun e w' =>
      e = .returned (.tuple #[]) ∧ ∃ r : List Sp, r.Perm l ∧ r.Pairwise (fun a b => a.1 ≤ b.1) ∧ Row base r v w' ∧ Go.RowKit.Below base w w' := by
  rcases Nat.eq_zero_or_pos l.length with h0 | hp
  · have e0 : l = [] := List.eq_nil_of_length_eq_zero h0
    subst e0
    obtain ⟨ao, cap, rfl, _, _⟩ := h.form
    refine (AnyF.slices_SortFunc_none Try.sortS ao cap (.func (.func 77) #[] #[]) w).mono fun e w' hh => ?_
    obtain ⟨he, rfl⟩ := hh
    exact ⟨he, [], List.Perm.refl _, List.Pairwise.nil, h, Go.RowKit.Below.refl _ _⟩
  · obtain ⟨g, cap, rfl, _, _, hb, hg⟩ := h.held hp
    have eg : ∀ args w, (callFunc 77 args).run Try.prog w = .ok (.enter 77 args) w := enters_of Try.func77 (by kernel_rfl) rfl
    have hcon := AnyQ.slices_SortFunc Try.sortS 2 Try.isAgg24 Try.sizeOf24 encS (fun _ => rfl) (fun x v hv => by simp [encS] at hv; rcases hv with rfl | rfl <;> rfl) cmpS swoS 77 #[] g 0 cap l.toArray w eg (fun _ _ _ _ x y => closure_any x y _) (holds_of h) hg (by simp; omega)
    refine hcon.mono fun e w' hh => ?_
    obtain ⟨he, d', n, os, hpm, hsr, rfl⟩ := hh
    have hsz : d'.size = l.length := by simpa using hpm.1
    refine ⟨he, d'.toList, ?_, ?_, ?_, ?_⟩
    · have := hpm.2.2
      have e : List.take l.length d'.toList = d'.toList := List.take_of_length_le (by simp [hsz])
      simpa [e] using this
    · rw [List.pairwise_iff_getElem]
      intro i j hi hj hij
      have hi2 : i < d'.size := by simpa using hi
      have hj2 : j < d'.size := by simpa using hj
      have := hsr i j (Nat.zero_le _) hij (by simp; omega)
      rw [ltS, getElem!_pos _ j hj2, getElem!_pos _ i hi2] at this
      simp at this ⊢
      omega
    · have := sorted_row (q := n) (r := d'.toList) (os := os) h (by simpa using hsz)
      simpa using this
    · have := sorted_below (q := n) (r := d'.toList) (os := os) hb hg
      simpa using this
end Spn
end Go.Proofs.Ytoacombaddknfaa
