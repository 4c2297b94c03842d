/- A row of texts from some place of its block on, appended to; what a disk's sector may have behind a crash. No condition. -/
import Derived.Test.YtkbadjlehmaneaaDp
import Derived.ArgAppend
namespace Go.Proofs.Ytkbadjlehmaneaa
open Go.RowKit
namespace Dsk
/-- Block g holds these texts from off on, and room for cap of them. -/
structure Part (l : List (List UInt8)) (g o cap : Nat) (w : World) : Prop where
  len : l.length ≤ cap
  cm : cap ≤ 9223372036854775807
  row : ∃ cur, w.heap[g]? = some (.cells cur 9 (0, 0)) ∧ cur.size = o + cap ∧ ∀ j (h : j < l.length), cur[o + j]? = some (.string (S l[j]))
section
variable {l : List (List UInt8)} {g o cap : Nat} {w w' : World}
theorem Part.lt (h : Part l g o cap w) : g < w.heap.size := by
  obtain ⟨cur, hh, _⟩ := h.row
  exact lt_of_block hh
theorem Part.keep (h : Part l g o cap w) (hk : w'.heap[g]? = w.heap[g]?) : Part l g o cap w' := by
  obtain ⟨cur, hh, hs, hc⟩ := h.row
  exact ⟨h.len, h.cm, cur, hk.trans hh, hs, hc⟩
theorem Part.later (h : Part l g o cap w) (hb : Below w.heap.size w w') : Part l g o cap w' := h.keep (hb.block g h.lt)
theorem Part.at (h : Part l g o cap w) (i : Nat) (hi : i < l.length) : w.cell? ⟨g, o + i, none⟩ = some (.string (S l[i])) := by
  obtain ⟨cur, hh, hs, hc⟩ := h.row
  rw [cell_of_row _ _ _ _ _ (0, 0) hh]
  exact hc i hi
theorem Part.new (w : World) (x : List UInt8) : Part [x] w.heap.size 0 1 (w.alloc (.cells #[.string (S x)] 9)) :=
  ⟨Nat.le_refl _, by omega, _, heap_alloc_last w _, rfl, fun j hj => by
    have : j = 0 := by simp at hj; omega
    subst this; rfl⟩
theorem Part.last (h : Part l g o cap w) (n : Nat) (hn : l.length = n + 1) (x : List UInt8) (hx : l[n]? = some x) : Part [x] g (o + n) (cap - n) w := by
  obtain ⟨cur, hh, hs, hc⟩ := h.row
  have hl := h.len
  refine ⟨by simp; omega, by have := h.cm; omega, cur, hh, by omega, fun j hj => ?_⟩
  have : j = 0 := by simp at hj; omega
  subst this
  have h1 := hc n (by omega)
  have h2 : l[n]'(by omega) = x := by
    rw [List.getElem?_eq_getElem (by omega)] at hx
    exact Option.some.inj hx
  rw [Nat.add_zero, h1, h2]; rfl
theorem part_append (h : Part l g o cap w) (hn : l.length ≤ 1000000) (ty : TypeId) (x : List UInt8) (ad : Addr) (c : Nat) (hx : w.cell? (ad.add 0) = some (.string (S x))) :
    ∃ g' o' cap' w', (Builtin.append_ #[43, 43] ty #[.slice (some ⟨g, o, none⟩) l.length cap, .slice (some ad) 1 c]).run Try.prog w = .ok (.slice (some ⟨g', o', none⟩) (l.length + 1) cap') w' ∧
      Part (l ++ [x]) g' o' cap' w' ∧ w.grownBy w' (some g) ∧ (g' = g ∨ (w.heap.size ≤ g' ∧ g' < w'.heap.size)) := by
  obtain ⟨i0, hi0, hz0, hz1, hz2⟩ := info_parts infoS
  have hnews : ∀ j u, ([.string (S x)] : List Value)[j]? = some u → w.cell? (ad.add j) = some u := by
    intro j u hu
    match j, hu with
    | 0, hu => simp at hu; subst hu; exact hx
    | j + 1, hu => simp at hu
  have h1 : ∀ u ∈ ([.string (S x)] : List Value), u.oneCell' = true := by intro u hu; simp at hu; subst hu; rfl
  rcases Nat.lt_or_ge cap (l.length + 1) with hc | hc
  · obtain ⟨v', w', hr, hown, hgr⟩ := run_append_arg_grows (P := Try.prog) w 43 ty 9 i0 (.string ⟨#[]⟩) 1 16 Try.underlying43 hi0 hz0 hz1 hz2 rfl (by decide) ⟨g, o, none⟩ l.length cap (strs l) (by simp [strs]) (by
      intro j u hu
      have hj : j < l.length := by
        have := (List.getElem?_eq_some_iff.1 hu).1
        simpa [strs] using this
      have hadd : (⟨g, o, none⟩ : Addr).add j = ⟨g, o + j, none⟩ := by unfold Addr.add; split <;> simp_all
      rw [hadd, h.at j hj, ← hu]
      simp [strs, hj]) ad 1 c [.string (S x)] rfl hnews hc (by unfold maxLen; omega) (by omega)
    rcases hown.2 with ⟨_, h0⟩ | ⟨g', c', cur, hv, hg, hh, hnc, hcm, hsz, htk⟩
    · omega
    · subst hv
      refine ⟨g', 0, c', w', hr, ⟨by simpa using hnc, by unfold maxLen at hcm; omega, cur, hh, by omega, fun j hj => ?_⟩, ⟨hgr.os, hgr.tape, hgr.output, hgr.size, fun k hk _ => hgr.block k hk (by simp)⟩, .inr ⟨hg, lt_of_block hh⟩⟩
      have e1 : (strs (l ++ [x]))[j]? = some (.string (S (l ++ [x])[j])) := by unfold strs; rw [List.getElem?_map, List.getElem?_eq_getElem hj]; rfl
      have e2 : strs l ++ [.string (S x)] = strs (l ++ [x]) := (strs_snoc l x).symm
      rw [e2] at htk
      have hj2 : j < l.length + 1 := by simpa using hj
      rw [← htk, List.getElem?_take_of_lt (by omega)] at e1
      rw [Nat.zero_add]
      simpa using e1
  · obtain ⟨cur, hh, hs, hcells⟩ := h.row
    have hr := run_append_room_cells (P := Try.prog) w 43 ty 9 i0 Try.underlying43 hi0 g o l.length cap ad 1 c [.string (S x)] (by rw [hz1]; rfl) hnews h1 hc (by
      intro j hj
      have : j = 0 := by simp at hj; omega
      subst this
      rw [hz1, cell_of_row _ _ _ _ _ (0, 0) hh]
      have hlt : o + l.length < cur.size := by omega
      simp [hlt]) (fun j _ => frozen_of_row w g _ _ _ hh)
    have hse : w.setCells g (o + l.length * i0.size) [.string (S x)] = w.setCell ⟨g, o + l.length, none⟩ (.string (S x)) := by
      rw [hz1, Nat.mul_one]; rfl
    rw [hse] at hr
    refine ⟨g, o, cap, _, hr, ⟨by simpa using hc, h.cm, _, heap_setCell_same w g _ cur _ _ hh, by simpa using hs, fun j hj => ?_⟩, ⟨rfl, rfl, rfl, by simp, fun k _ hk => heap_setCell_other w _ k _ (fun e => hk (by rw [e]))⟩, .inl rfl⟩
    have hj2 : j < l.length + 1 := by simpa using hj
    rcases Nat.lt_or_ge j l.length with hj3 | hj3
    · rw [List.getElem_append_left hj3, Array.getElem?_setIfInBounds_ne (by omega)]
      exact hcells j hj3
    · have : j = l.length := by omega
      subst this
      rw [Array.getElem?_setIfInBounds_self]
      have hlt : o + l.length < cur.size := by omega
      simp [hlt]
theorem wpList_part_append {ops : Array Oper} {rest : List Oper} {op : Oper} {a : Act} {Q : Exit → Act → World → Prop} (hgd : op.guard = none) (s y : Operand)
    (ho : op.op = .call { callee := .builtin .append, args := #[s, y], argTypes := #[43, 43] })
    (h : Part l g o cap w) (hn : l.length ≤ 1000000) (hs : a.eval s = .slice (some ⟨g, o, none⟩) l.length cap) (x : List UInt8) (ad : Addr) (c : Nat) (hy : a.eval y = .slice (some ad) 1 c) (hx : w.cell? (ad.add 0) = some (.string (S x)))
    (hK : ∀ g' o' cap' w', Part (l ++ [x]) g' o' cap' w' → w.grownBy w' (some g) → (g' = g ∨ (w.heap.size ≤ g' ∧ g' < w'.heap.size)) → wpList Try.prog ops Q rest (a.put op.dst (.slice (some ⟨g', o', none⟩) (l.length + 1) cap')) w') :
    wpList Try.prog ops Q (op :: rest) a w := by
  refine wpList_plain hgd fun K hK' => ?_
  obtain ⟨g', o', cap', w', hr, h1, h2, h3⟩ := part_append h hn op.type x ad c hx
  unfold Oper.wp execOp
  simp only [ho, resolve, invoke, builtin, Sem.run_bind, Sem.run_pure, Result.andThen_ok, List.map_toArray, List.map_cons, List.map_nil, hs, hy, hr]
  exact hK' _ _ (hK _ _ _ _ h1 h2 h3)
end
section
variable {W : World} {Q : Nat → Prop} {D : Nat} {d : PD} {w w' : World}
/-- One block of Q is written; what comes is kept, too. -/
theorem Mine.side {g : Nat} (h : Mine W Q D d w) (hg : w.grownBy w' (some g)) (hQ : Q g) (hW : W.heap.size ≤ g) : Mine W (fun k => Q k ∨ (w.heap.size ≤ k ∧ k < w'.heap.size)) D d w' := by
  obtain ⟨⟨T, hT, hq⟩, hB, hl⟩ := h
  refine ⟨⟨T, hT.keep (T' := fun k => k = g) ((Only.refl _ _).grown hg (fun k e => by cases e; exact .inl rfl)) (fun k hk e => (hq k hk).2 (by rw [e]; exact hQ)), fun k hk => ⟨(hq k hk).1, fun e => ?_⟩⟩, hB.grown hg hB.size (fun k e => by cases e; exact hW), fun k hk => ?_⟩
  · rcases e with e | e
    · exact (hq k hk).2 e
    · have := hT.lt k hk; omega
  · rcases hk with hk | hk
    · exact Nat.lt_of_lt_of_le (hl k hk) hg.size
    · exact hk.2
end
/-! ### What a sector may have behind a crash -/
structure Inv (d : PD) (may : List (List UInt8)) (k : Nat) : Prop where
  last : may.getLast? = some (d.f k)
  base : undoW d.f d.cs k ∈ may
  laid : ∀ x ∈ d.cs, x.pos = k → x.laid ∈ may
theorem Inv.new (n k : Nat) : Inv (PD.new n) [zeros] k := ⟨rfl, List.mem_singleton.2 rfl, fun _ h => nomatch h⟩
theorem undoW_write (f : Int → List UInt8) (cs : List Wt) (p : Nat) (a : List UInt8) : undoW (upd f p a) (cs ++ [⟨p, a, f p⟩]) = undoW f cs := by
  unfold undoW
  rw [List.reverse_append]
  show List.foldl _ (upd (upd f p a) (p : Int) (f p)) cs.reverse = _
  congr 1
  funext j
  by_cases hj : j = (p : Int)
  · rw [hj, upd_same]
  · rw [upd_other _ _ _ _ hj, upd_other _ _ _ _ hj]
theorem Inv.write {d : PD} {may : List (List UInt8)} {k : Nat} (h : Inv d may k) (p : Nat) (s : List UInt8) : Inv (d.write p s).burn (if p = k then may ++ [pad s] else may) k := by
  have e1 : (d.write p s).burn.f = upd d.f p (pad s) := rfl
  have e2 : (d.write p s).burn.cs = d.cs ++ [⟨p, pad s, d.f p⟩] := rfl
  by_cases hp : p = k
  · rw [if_pos hp]
    refine ⟨by rw [e1, hp, upd_same]; simp, ?_, fun x hx hxk => ?_⟩
    · rw [e1, e2, undoW_write]; exact List.mem_append.2 (.inl h.base)
    · rw [e2] at hx
      rcases List.mem_append.1 hx with hx | hx
      · exact List.mem_append.2 (.inl (h.laid x hx hxk))
      · rw [List.mem_singleton.1 hx]; exact List.mem_append.2 (.inr (List.mem_singleton.2 rfl))
  · rw [if_neg hp]
    refine ⟨by rw [e1, upd_other _ _ _ _ (by omega)]; exact h.last, ?_, fun x hx hxk => ?_⟩
    · rw [e1, e2, undoW_write]; exact h.base
    · rw [e2] at hx
      rcases List.mem_append.1 hx with hx | hx
      · exact h.laid x hx hxk
      · rw [List.mem_singleton.1 hx] at hxk; exact absurd hxk hp
theorem Inv.flush {d : PD} {may : List (List UInt8)} {k : Nat} (_ : Inv d may k) : Inv d.flush.burn [d.f k] k := ⟨rfl, List.mem_singleton.2 rfl, fun _ h => nomatch h⟩
theorem redo_mem (j : Int) : ∀ (l : List (Wt × Bool)) (f : Int → List UInt8), (l.foldl (fun f p => if p.2 then upd f p.1.pos p.1.laid else f) f) j = f j ∨ ∃ p ∈ l, (p.1.pos : Int) = j ∧ (l.foldl (fun f p => if p.2 then upd f p.1.pos p.1.laid else f) f) j = p.1.laid := by
  intro l
  induction l with
  | nil => intro f; exact .inl rfl
  | cons p l ih =>
    intro f
    rw [List.foldl_cons]
    rcases ih (if p.2 = true then upd f p.1.pos p.1.laid else f) with h | ⟨q, hq, h1, h2⟩
    · rw [h]
      by_cases hp : p.2 = true
      · rw [if_pos hp]
        by_cases hj : j = (p.1.pos : Int)
        · right
          exact ⟨p, List.mem_cons_self .., hj.symm, by rw [hj, upd_same]⟩
        · left; rw [upd_other _ _ _ _ hj]
      · left; rw [if_neg hp]
    · exact .inr ⟨q, List.mem_cons_of_mem _ hq, h1, h2⟩
theorem Inv.crash {d : PD} {may : List (List UInt8)} {k : Nat} (h : Inv d may k) (ks : List Bool) : (d.crash ks).f k ∈ may := by
  show redo (undoW d.f d.cs) d.cs ks k ∈ may
  unfold redo
  rcases redo_mem k (d.cs.zip ks) (undoW d.f d.cs) with e | ⟨p, hp, h1, h2⟩
  · rw [e]; exact h.base
  · rw [h2]
    exact h.laid p.1 (List.of_mem_zip hp).1 (by omega)
theorem BoolsAt.take {ks : List Bool} {ao : Option Addr} {cap : Nat} {w : World} (h : BoolsAt ks ao cap w) (m : Nat) (hm : m ≤ ks.length) : BoolsAt (ks.take m) ao cap w := by
  obtain ⟨h1, h2, h3⟩ := h
  refine ⟨by rw [List.length_take]; omega, h2, fun hne => ?_⟩
  obtain ⟨b, o, e, hlt, hc⟩ := h3 (fun e => hne (by rw [e]; simp))
  refine ⟨b, o, e, hlt, fun j hj => ?_⟩
  rw [List.length_take] at hj
  rw [List.getElem_take]
  exact hc j (by omega)
end Dsk
end Go.Proofs.Ytkbadjlehmaneaa
