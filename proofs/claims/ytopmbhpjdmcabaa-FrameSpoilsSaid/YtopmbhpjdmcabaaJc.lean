/- Columns in memory: a slice of api.Columns as a list; isColumn, needs, needBit. Condition: a name is at most 2^48 bytes. -/
import Derived.Test.YtopmbhpjdmcabaaJb
namespace Go.Proofs.Ytopmbhpjdmcabaa
open Go.RowKit
namespace Sch
open Cod
theorem cell_later {w w' : World} {a : Addr} {v : Value} (h : Below w.heap.size w w') (hc : w.cell? a = some v) : w'.cell? a = some v := by
  rw [h.cell (World.block_lt_of_cell? w _ hc)]; exact hc
def C.agg (c : C) : Value := .agg #[.string (S c.nm), .int .i64 c.k, .bool c.nd]
def C.cells (c : C) : List Value := [.string (S c.nm), .int .i64 c.k, .bool c.nd]
def cflat (l : List C) : List Value := l.flatMap C.cells
theorem cflat_len (l : List C) : (cflat l).length = l.length * 3 := by
  induction l with
  | nil => rfl
  | cons v l ih => simp only [cflat, List.flatMap_cons, List.length_append] at ih ⊢; rw [ih]; simp [C.cells]; omega
theorem cflat_app (l m : List C) : cflat (l ++ m) = cflat l ++ cflat m := by simp [cflat]
theorem cflat_snoc (l : List C) (v : C) : cflat (l ++ [v]) = cflat l ++ v.cells := by simp [cflat]
theorem cflat_at (vs : List C) : ∀ (j : Nat) (h : j < vs.length) (f : Nat), f < 3 → (cflat vs)[j * 3 + f]? = (vs[j]).cells[f]? := by
  induction vs with
  | nil => intro j h; cases h
  | cons v vs ih =>
    intro j h f hf
    have e : cflat (v :: vs) = v.cells ++ cflat vs := rfl
    have el : v.cells.length = 3 := rfl
    cases j with
    | zero => rw [e, List.getElem?_append_left (by rw [el]; omega)]; simp
    | succ j =>
      rw [e, List.getElem?_append_right (by rw [el]; omega), el, show (j + 1) * 3 + f - 3 = j * 3 + f by omega]
      exact ih j (by simpa using h) f hf
/-- The slice sl holds these columns. -/
def ColsAt (cs : List C) (sl : Value) (w : World) : Prop := ∃ ao cap, sl = .slice ao cs.length cap ∧ cs.length ≤ cap ∧ cap ≤ 9223372036854775807 ∧ (cs ≠ [] → ∃ b off, ao = some ⟨b, off, none⟩ ∧ b < w.heap.size ∧ ∀ j, j < cs.length * 3 → w.cell? ⟨b, off + j, none⟩ = (cflat cs)[j]?)
theorem ColsAt.later {vs : List C} {sl : Value} {w w' : World} (h : ColsAt vs sl w) (hb : Below w.heap.size w w') : ColsAt vs sl w' := by
  obtain ⟨ao, cap, h1, hc, hm, h2⟩ := h
  refine ⟨ao, cap, h1, hc, hm, fun hne => ?_⟩
  obtain ⟨b, off, h3, h4, h5⟩ := h2 hne
  exact ⟨b, off, h3, Nat.lt_of_lt_of_le h4 hb.size, fun j hj => by rw [hb.cell (p := ⟨b, off + j, none⟩) h4]; exact h5 j hj⟩
/-- The cells of the column that stands at place i. -/
theorem ColsAt.at {vs : List C} {sl : Value} {w : World} (h : ColsAt vs sl w) (i : Nat) (hi : i < vs.length) : ∃ b off cap, sl = .slice (some ⟨b, off, none⟩) vs.length cap ∧ b < w.heap.size ∧
    w.cell? ⟨b, off + i * 3, none⟩ = some (.string (S vs[i].nm)) ∧ w.cell? ⟨b, off + i * 3 + 1, none⟩ = some (.int .i64 vs[i].k) ∧ w.cell? ⟨b, off + i * 3 + 2, none⟩ = some (.bool vs[i].nd) := by
  obtain ⟨ao, cap, h1, _, _, h2⟩ := h
  obtain ⟨b, off, rfl, h4, h5⟩ := h2 (fun e => by rw [e] at hi; cases hi)
  refine ⟨b, off, cap, h1, h4, ?_, ?_, ?_⟩
  · have := h5 (i * 3 + 0) (by omega); rw [cflat_at vs i hi 0 (by omega)] at this; exact this
  · have := h5 (i * 3 + 1) (by omega); rw [cflat_at vs i hi 1 (by omega)] at this; exact this
  · have := h5 (i * 3 + 2) (by omega); rw [cflat_at vs i hi 2 (by omega)] at this; exact this
theorem ColsAt.form {vs : List C} {sl : Value} {w : World} (h : ColsAt vs sl w) : ∃ ao cap, sl = .slice ao vs.length cap ∧ vs.length ≤ cap ∧ cap ≤ 9223372036854775807 := by
  obtain ⟨ao, cap, h1, hc, hm, _⟩ := h
  exact ⟨ao, cap, h1, hc, hm⟩
theorem ColsAt.nil (w : World) : ColsAt [] (.slice none 0 0) w := ⟨none, 0, rfl, Nat.le_refl _, by omega, fun h => absurd rfl h⟩
/-- The first columns alone. -/
theorem ColsAt.take {vs : List C} {ao : Option Addr} {cap : Nat} {w : World} (h : ColsAt vs (.slice ao vs.length cap) w) (k : Nat) (hk : k ≤ vs.length) : ColsAt (vs.take k) (.slice ao k cap) w := by
  obtain ⟨ao', cap', h1, hc, hm, h2⟩ := h
  simp only [Value.slice.injEq, true_and] at h1
  obtain ⟨rfl, rfl⟩ := h1
  have hl : (vs.take k).length = k := by rw [List.length_take]; omega
  refine ⟨ao, cap, by rw [hl], by rw [hl]; omega, hm, fun hne => ?_⟩
  obtain ⟨b, off, h3, h4, h5⟩ := h2 (fun e => hne (by rw [e]; simp))
  refine ⟨b, off, h3, h4, fun j hj => ?_⟩
  rw [hl] at hj
  rw [h5 j (by omega)]
  have e : cflat vs = cflat (vs.take k) ++ cflat (vs.drop k) := by rw [← cflat_app, List.take_append_drop]
  rw [e, List.getElem?_append_left (by rw [cflat_len, hl]; exact hj)]
/-- The columns from one on. -/
theorem ColsAt.drop {vs : List C} {ao : Option Addr} {cap : Nat} {w : World} (h : ColsAt vs (.slice ao vs.length cap) w) (k : Nat) (hk : k ≤ vs.length) : ColsAt (vs.drop k) (.slice (if cap = k then ao else ao.map (·.add (k * 3))) (vs.length - k) (cap - k)) w := by
  obtain ⟨ao', cap', h1, hc, hm, h2⟩ := h
  simp only [Value.slice.injEq, true_and] at h1
  obtain ⟨rfl, rfl⟩ := h1
  have hl : (vs.drop k).length = vs.length - k := List.length_drop
  refine ⟨_, _, by rw [hl], by rw [hl]; omega, by omega, fun hne => ?_⟩
  have hkl : k < vs.length := by
    rcases Nat.lt_or_ge k vs.length with hx | hx
    · exact hx
    · exact absurd (List.drop_eq_nil_of_le hx) hne
  obtain ⟨b, off, h3, h4, h5⟩ := h2 (fun e => by rw [e] at hkl; cases hkl)
  subst h3
  refine ⟨b, off + k * 3, ?_, h4, fun j hj => ?_⟩
  · rw [if_neg (by omega)]
    simp only [Option.map_some, Option.some.injEq]
    unfold Addr.add
    split
    · rename_i h0; rw [h0]; rfl
    · rfl
  · rw [hl] at hj
    rw [Nat.add_assoc, h5 (k * 3 + j) (by omega)]
    have e : cflat vs = cflat (vs.take k) ++ cflat (vs.drop k) := by rw [← cflat_app, List.take_append_drop]
    have hl2 : (cflat (vs.take k)).length = k * 3 := by rw [cflat_len, List.length_take]; congr 1; omega
    rw [e, List.getElem?_append_right (by omega), hl2, Nat.add_sub_cancel_left]
theorem name_is {s : ByteArray} {b : Bool} (h : nameB s.data.toList = b) (hs : s.size ≤ 281474976710656) (w : World) :
    Calls Try.prog 28 #[.string s] w fun e w' => e = .returned (.bool b) ∧ Below w.heap.size w w' := h ▸ name_any s hs w
theorem iscolumn_any (c : C) (hc : c.nm.length ≤ 281474976710656) (w : World) :
    Calls Try.prog 53 #[.agg #[.string (S c.nm), .int .i64 c.k, .bool c.nd]] w fun e w' => e = .returned (.bool (colIs c)) ∧ Below w.heap.size w w' := by
  obtain ⟨nm, k, nd⟩ := c
  have hn : (S nm).size ≤ 281474976710656 := by rw [S_size]; exact hc
  clear hc
  rcases hb : nameB nm with _ | _
  · have N := fun w => name_is (s := S nm) (b := false) hb hn w
    have e : colIs ⟨nm, k, nd⟩ = false := by unfold colIs; rw [hb]; rfl
    rw [e]
    clear e hb hn
    go_enter Try.func53, Try.ntmps53
    go_wp2_with (first | (go_at_call 28; refine (N _).mono ?_; rintro e w1 ⟨rfl, hb1⟩; obtain ⟨hc1, hf1⟩ := Val.bcell hb1))
    have HB := hidm (((Below.refl _ _).alloc (Nat.le_refl w.heap.size) _).trans (hb1.mono (by simp)))
    clear hb1 hc1 hf1 N
    go_wp2_with fail
    go_ret
    exact ⟨rfl, HB.out⟩
  · have N := fun w => name_is (s := S nm) (b := true) hb hn w
    have e : colIs ⟨nm, k, nd⟩ = (decide (1 ≤ k) && decide (k ≤ 5)) := by unfold colIs; rw [hb]; rfl
    rw [e]
    clear e hb hn
    go_enter Try.func53, Try.ntmps53
    go_wp2_with (first | (go_at_call 28; refine (N _).mono ?_; rintro e w1 ⟨rfl, hb1⟩; obtain ⟨hc1, hf1⟩ := Val.bcell hb1))
    all_goals
      go_ret
      refine ⟨Val.ret_bool ?_, ?_⟩
      · simp_all
        try omega
      · exact ((Below.refl _ _).alloc (Nat.le_refl w.heap.size) _).trans (hb1.mono (by simp))
theorem needs_any (c : C) (w : World) :
    Calls Try.prog 58 #[.agg #[.string (S c.nm), .int .i64 c.k, .bool c.nd]] w fun e w' => e = .returned (.bool c.nd) ∧ Below w.heap.size w w' := by
  go_enter Try.func58, Try.ntmps58
  go_wp2_with fail
  go_ret
  exact ⟨rfl, (Below.refl _ _).alloc (Nat.le_refl _) _⟩
theorem needbit_any (c : C) (w : World) :
    Calls Try.prog 51 #[.agg #[.string (S c.nm), .int .i64 c.k, .bool c.nd]] w fun e w' => e = .returned (.int .u64 (bitB c : Nat)) ∧ Below w.heap.size w w' := by
  obtain ⟨nm, k, nd⟩ := c
  cases nd
  all_goals
    go_enter Try.func51, Try.ntmps51
    go_wp2_with fail
    go_ret
    exact ⟨rfl, (Below.refl _ _).alloc (Nat.le_refl _) _⟩
theorem thename_any (c : C) (n : List UInt8) (b : Nat) (w : World) (hn : w.cell? ⟨b, 0, none⟩ = some (.string (S n))) :
    Calls Try.prog 74 #[.agg #[.string (S c.nm), .int .i64 c.k, .bool c.nd], .pointer (some ⟨b, 0, none⟩)] w fun e w' => e = .returned (.bool (decide (c.nm = n))) ∧ Below w.heap.size w w' := by
  have hlt := World.block_lt_of_cell? w _ hn
  have hn2 : ∀ o : Obj, (w.alloc o).cell? ⟨b, 0, none⟩ = some (.string (S n)) := fun o => by
    rw [World.cell?_alloc_lt w o _ hlt]; exact hn
  go_enter Try.func74, Try.ntmps74
  go_wp2_with fail
  go_ret
  refine ⟨Val.ret_bool ?_, (Below.refl _ _).alloc (Nat.le_refl _) _⟩
  rw [Bool.eq_iff_iff]
  simp
end Sch
end Go.Proofs.Ytopmbhpjdmcabaa
