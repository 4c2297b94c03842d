/- What extends a schema, and rows widened: plain lemmas; three schemas as one argument. No condition. -/
import Derived.Test.YtkgiomdjihcfoaaJy
namespace Go.Proofs.Ytkgiomdjihcfoaa
open Go.ChangeShapes Go.WideShapes Go.ChangeAt Go.RowKit Go.Deep
namespace Sch
open Cod
structure Ext (a b : T) : Prop where
  ra : rightB a = true
  rb : rightB b = true
  le : a.cols.length ≤ b.cols.length
  nm : a.nm = b.nm
  ks : a.keys = b.keys
  cs : a.cols = b.cols.take a.cols.length
  nd : ∀ c ∈ b.cols.drop a.cols.length, c.nd = false
theorem ext_iff (a b : T) : extB a b = true ↔ Ext a b := by
  unfold extB sameB
  obtain ⟨an, ac, ak⟩ := a
  obtain ⟨bn, bc, bk⟩ := b
  simp only [Bool.and_eq_true, decide_eq_true_eq, T.mk.injEq, Bool.not_eq_true', List.any_eq_false, Bool.not_eq_true]
  constructor
  · rintro ⟨h1, h2, h3, ⟨h4, h5, h6⟩, h7⟩; exact ⟨h1, h2, h3, h4, h6, h5, h7⟩
  · rintro ⟨h1, h2, h3, h4, h6, h5, h7⟩; exact ⟨h1, h2, h3, ⟨h4, h5, h6⟩, h7⟩
theorem ext_self (a : T) : extB a a = rightB a := by
  rcases hr : rightB a with _ | _
  · rw [Bool.eq_false_iff]; intro h; rw [((ext_iff a a).1 h).ra] at hr; cases hr
  · exact (ext_iff a a).2 ⟨hr, hr, Nat.le_refl _, rfl, rfl, by rw [List.take_length], by rw [List.drop_length]; intro c hc; cases hc⟩
theorem ext_trans {a b c : T} (h : extB a b = true) (g : extB b c = true) : extB a c = true := by
  have h := (ext_iff _ _).1 h
  have g := (ext_iff _ _).1 g
  refine (ext_iff _ _).2 ⟨h.ra, g.rb, Nat.le_trans h.le g.le, h.nm.trans g.nm, h.ks.trans g.ks, ?_, ?_⟩
  · have h1 := h.cs
    rw [g.cs, List.take_take, Nat.min_eq_left h.le] at h1
    exact h1
  · intro d hd
    have e : c.cols.drop a.cols.length = b.cols.drop a.cols.length ++ c.cols.drop b.cols.length := by
      have e1 : c.cols = b.cols ++ c.cols.drop b.cols.length := by
        have := List.take_append_drop b.cols.length c.cols
        rw [← g.cs] at this; exact this.symm
      conv => lhs; rw [e1]
      rw [List.drop_append_of_le_length h.le]
    rw [e] at hd
    rcases List.mem_append.1 hd with hd | hd
    · exact h.nd d hd
    · exact g.nd d hd
theorem v00 : nullV.right = true := by
  unfold nullV V.right Val.rightB Val.eqV
  simp [ByteArray.toList_eq]
theorem hold_null {c : C} (h : c.nd = false) : holdsB c nullV = true := by
  unfold holdsB; rw [v00, h]; simp [nullV]
theorem grow_fits {a b : T} {r : List V} (h : extB a b = true) (hf : fitsB a r = 0) : fitsB b (wideB b r) = 0 := by
  have h := (ext_iff _ _).1 h
  obtain ⟨h1, h2, h3⟩ := fits_parts hf
  have hwl : (wideB b r).length = b.cols.length := by
    unfold wideB; rw [List.length_append, List.length_replicate]; have := h.le; omega
  refine fits_yes h.rb hwl (fun j hj => ?_)
  rw [hwl] at hj
  rw [holdAt_at hj (by rw [hwl]; exact hj)]
  rcases Nat.lt_or_ge j r.length with hjr | hjr
  · have g := h3 j hjr
    rw [holdAt_at (by omega) hjr] at g
    have e1 : (wideB b r)[j]'(by rw [hwl]; exact hj) = r[j] := by
      unfold wideB; exact List.getElem_append_left hjr
    have e2 : b.cols[j] = a.cols[j]'(by omega) := by
      have ha : j < a.cols.length := by omega
      have q : a.cols[j]? = (b.cols.take a.cols.length)[j]? := by rw [← h.cs]
      rw [List.getElem?_take_of_lt ha, List.getElem?_eq_getElem ha, List.getElem?_eq_getElem hj] at q
      exact (Option.some.inj q).symm
    rw [e1, e2]; exact g
  · have e1 : (wideB b r)[j]'(by rw [hwl]; exact hj) = nullV := by
      unfold wideB
      rw [List.getElem_append_right hjr, List.getElem_replicate]
    rw [e1]
    refine hold_null (h.nd _ ?_)
    have e : b.cols[j] = (b.cols.drop a.cols.length)[j - a.cols.length]'(by rw [List.length_drop]; omega) := by
      rw [List.getElem_drop]; congr 1; omega
    rw [e]; exact List.getElem_mem _
theorem grow_widen {a b : T} {r : List V} (h : extB a b = true) (hf : fitsB a r = 0) : widenB b r = (wideB b r, 0) := by
  have g := grow_fits h hf
  have h := (ext_iff _ _).1 h
  obtain ⟨_, h2, _⟩ := fits_parts hf
  unfold widenB
  rw [if_neg (by rw [h.rb]; simp), if_neg (by have := h.le; omega), if_pos g]
theorem grow_key {a b : T} {r : List V} (h : extB a b = true) (hf : fitsB a r = 0) : keyB b (wideB b r) = keyB a r := by
  have g := grow_fits h hf
  have h := (ext_iff _ _).1 h
  obtain ⟨h1, h2, _⟩ := fits_parts hf
  have hk := (head_parts (right_head h1)).2.2
  unfold keyB
  rw [if_pos g, if_pos hf, ← h.ks]
  unfold wideB
  rw [List.take_append_of_le_length (by omega)]
theorem wide_take (b : T) (r : List V) : (wideB b r).take r.length = r := by
  unfold wideB; rw [List.take_append_of_le_length (Nat.le_refl _), List.take_length]
section
variable {H : Type} {enc : TypeId × Value → H} {W : World} {base : Nat} {sp : Nat → Bool} {held : Bool}
theorem cT : Try.prog.cellsOf 24 = 3 := by kernel_rfl
theorem cL : Try.prog.cellsOf 22 = 1 := by kernel_rfl
theorem c9 : Try.prog.cellsOf 42 = 9 := by kernel_rfl
set_option maxRecDepth 100000 in
theorem okWide_arr {r : Reach} {b0 : Nat} {v : Value} (h : Value.okWide Try.prog W r b0 42 v) : ∃ cs, v = .agg cs ∧ cs.size = 9 := by
  simp only [Value.okWide, Try.underlying42] at h
  obtain ⟨cs, h1, h2, _⟩ := h
  exact ⟨cs, h1, by rw [h2, c9]⟩
set_option maxRecDepth 100000 in
theorem open_cells {fuel : Nat} {v0 v1 v2 : Value} {x : DataW H × List MemPlace} (h : DataW.trod enc Try.prog W base sp held fuel 24 [v0, v1, v2] = some x) : ∃ s : T, v0 = .string (S s.nm) ∧ v2 = .int .i64 s.keys ∧ ColsAt s.cols v1 W ∧ s.inn := by
  obtain ⟨xs, n, _, _, hlen, hxl, hf⟩ := DataW.trod_struct Try.underlying24 h
  match xs, hxl with
  | [y0, y1, y2], _ =>
    have a0 : DataW.trod enc Try.prog W base sp held n 9 (([v0, v1, v2].drop 0).take (Try.prog.cellsOf 9)) = some y0 := hf 0 _ rfl
    have a1 : DataW.trod enc Try.prog W base sp held n 22 (([v0, v1, v2].drop 1).take (Try.prog.cellsOf 22)) = some y1 := hf 1 _ rfl
    have a2 : DataW.trod enc Try.prog W base sp held n 3 (([v0, v1, v2].drop 2).take (Try.prog.cellsOf 3)) = some y2 := hf 2 _ rfl
    rw [cS] at a0
    rw [cL] at a1
    rw [cI] at a2
    exact open_three a0 a1 a2
set_option maxRecDepth 100000 in
theorem open_schema3 {v : Value} {d : DataW H} {p : List MemPlace} {r : Reach} {b0 : Nat} (hok : Value.okWide Try.prog W r b0 42 v) (h : DataW.Trod enc Try.prog W base sp held 42 v d p) :
    ∃ (a : T) (sa : Value) (b : T) (sb : Value) (c : T) (sc : Value), v = .agg #[.string (S a.nm), sa, .int .i64 a.keys, .string (S b.nm), sb, .int .i64 b.keys, .string (S c.nm), sc, .int .i64 c.keys] ∧ ColsAt a.cols sa W ∧ ColsAt b.cols sb W ∧ ColsAt c.cols sc W ∧ a.inn ∧ b.inn ∧ c.inn := by
  obtain ⟨cs, rfl, hsz⟩ := okWide_arr hok
  obtain ⟨fuel, hf⟩ := h
  obtain ⟨l⟩ := cs
  match l, hsz with
  | [c0, c1, c2, c3, c4, c5, c6, c7, c8], _ =>
    obtain ⟨xs, m, _, _, _, hl, hel⟩ := DataW.trod_array Try.underlying42 hf
    match xs, hl with
    | [y0, y1, y2], _ =>
      have g0 := hel 0 (by omega)
      have g1 := hel 1 (by omega)
      have g2 := hel 2 (by omega)
      rw [cT] at g0 g1 g2
      have e0 : DataW.trod enc Try.prog W base sp held m 24 [c0, c1, c2] = some y0 := g0
      have e1 : DataW.trod enc Try.prog W base sp held m 24 [c3, c4, c5] = some y1 := g1
      have e2 : DataW.trod enc Try.prog W base sp held m 24 [c6, c7, c8] = some y2 := g2
      obtain ⟨a, rfl, rfl, ha, na⟩ := open_cells e0
      obtain ⟨b, rfl, rfl, hb, nb⟩ := open_cells e1
      obtain ⟨c, rfl, rfl, hc, nc⟩ := open_cells e2
      exact ⟨a, c1, b, c4, c, c7, rfl, ha, hb, hc, na, nb, nc⟩
end
end Sch
end Go.Proofs.Ytkgiomdjihcfoaa
