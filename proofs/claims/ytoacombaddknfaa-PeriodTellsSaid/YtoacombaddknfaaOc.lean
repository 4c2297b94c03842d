/- Pieces in memory: what a slice of them holds; a row of the call's own: appended to. (period.Piece and the document's lie alike.) Conditions: as each says. -/
import Derived.Test.YtoacombaddknfaaOb
import Derived.Test.YtoacombaddknfaaVr
import Derived.Test.YtoacombaddknfaaId
namespace Go.Proofs.Ytoacombaddknfaa
open Go.RowKit
namespace Prd
open Spn (Sp)
open Cod (V RowAt)
/-- A piece, and where its row lies. -/
structure Pm where
  s : Sp
  r : List V
  ro : Option Addr
  rc : Nat
def Pm.sl (x : Pm) : Value := .slice x.ro x.r.length x.rc
def Pm.pc (x : Pm) : Sp × List V := (x.s, x.r)
def Pm.cells (x : Pm) : List Value := [.int .i64 x.s.1, .int .i64 x.s.2, .slice x.ro x.r.length x.rc]
/-- Their rows lie there. -/
def Rows3 (l : List Pm) (w : World) : Prop := ∀ x, x ∈ l → RowAt x.r x.sl w
def pcs (l : List Pm) : List (Sp × List V) := l.map Pm.pc
theorem pcs_len (l : List Pm) : (pcs l).length = l.length := by simp [pcs]
theorem pcs_app (l m : List Pm) : pcs (l ++ m) = pcs l ++ pcs m := by simp [pcs]
theorem pcs_at (l : List Pm) (i : Nat) (hi : i < l.length) : (pcs l)[i]'(by rw [pcs_len]; exact hi) = (l[i]).pc := by simp [pcs]
theorem Rows3.later {l : List Pm} {w w' : World} (h : Rows3 l w) (hb : Below w.heap.size w w') : Rows3 l w' := fun x hx => (h x hx).later hb
theorem Rows3.nil (w : World) : Rows3 [] w := fun x hx => by cases hx
theorem Rows3.snoc {l : List Pm} {x : Pm} {w : World} (h : Rows3 l w) (hx : RowAt x.r x.sl w) : Rows3 (l ++ [x]) w := fun y hy => by
  rcases List.mem_append.1 hy with hy | hy
  · exact h y hy
  · rw [List.mem_singleton.1 hy]; exact hx
def flat3 (l : List Pm) : List Value := l.flatMap Pm.cells
theorem flat3_len (l : List Pm) : (flat3 l).length = l.length * 3 := by
  induction l with
  | nil => rfl
  | cons v l ih => simp only [flat3, List.flatMap_cons, List.length_append] at ih ⊢; rw [ih]; simp [Pm.cells]; omega
theorem flat3_app (l m : List Pm) : flat3 (l ++ m) = flat3 l ++ flat3 m := by simp [flat3]
theorem flat3_at (vs : List Pm) : ∀ (j : Nat) (h : j < vs.length) (f : Nat), f < 3 → (flat3 vs)[j * 3 + f]? = (vs[j]).cells[f]? := by
  induction vs with
  | nil => intro j h; cases h
  | cons v vs ih =>
    intro j h f hf
    have e : flat3 (v :: vs) = v.cells ++ flat3 vs := rfl
    have el : v.cells.length = 3 := rfl
    cases j with
    | zero => rw [e, List.getElem?_append_left (by rw [el]; omega)]; simp
    | succ j =>
      rw [e, List.getElem?_append_right (by rw [el]; omega), el, show (j + 1) * 3 + f - 3 = j * 3 + f by omega]
      exact ih j (by simpa using h) f hf
theorem flat3_one (l : List Pm) : ∀ u, u ∈ flat3 l → u.oneCell' = true := by
  intro u hu
  simp only [flat3, List.mem_flatMap] at hu
  obtain ⟨v, _, hv⟩ := hu
  simp only [Pm.cells, List.mem_cons, List.not_mem_nil, or_false] at hv
  rcases hv with rfl | rfl | rfl <;> rfl
/-- The slice sl has these pieces' cells. -/
def PcsAt (l : List Pm) (sl : Value) (w : World) : Prop := ∃ ao cap, sl = .slice ao l.length cap ∧ l.length ≤ cap ∧ cap ≤ 9223372036854775807 ∧ ((l = [] ∧ (ao = none → cap = 0)) ∨ ∃ b off, ao = some ⟨b, off, none⟩ ∧ b < w.heap.size ∧ ∀ j, j < l.length * 3 → w.cell? ⟨b, off + j, none⟩ = (flat3 l)[j]?)
section
variable {l m : List Pm} {sl v v' : Value} {w w' : World} {base base' n : Nat} {e : TypeId}
theorem PcsAt.later (h : PcsAt l sl w) (hb : Below n w w') (hn : w.heap.size ≤ n) : PcsAt l sl w' := by
  obtain ⟨ao, cap, h1, hc, hm, h2⟩ := h
  refine ⟨ao, cap, h1, hc, hm, ?_⟩
  rcases h2 with h2 | ⟨b, off, h3, h4, h5⟩
  · exact .inl h2
  · exact .inr ⟨b, off, h3, Nat.lt_of_lt_of_le h4 hb.size, fun j hj => by rw [hb.cell (p := ⟨b, off + j, none⟩) (Nat.lt_of_lt_of_le h4 hn)]; exact h5 j hj⟩
theorem PcsAt.form (h : PcsAt l sl w) : ∃ ao cap, sl = .slice ao l.length cap ∧ l.length ≤ cap ∧ cap ≤ 9223372036854775807 := by
  obtain ⟨ao, cap, h1, hc, hm, _⟩ := h
  exact ⟨ao, cap, h1, hc, hm⟩
theorem PcsAt.at (h : PcsAt l sl w) (i : Nat) (hi : i < l.length) : ∃ b off cap, sl = .slice (some ⟨b, off, none⟩) l.length cap ∧ b < w.heap.size ∧
    w.cell? ⟨b, off + i * 3, none⟩ = some (.int .i64 (l[i]).s.1) ∧ w.cell? ⟨b, off + i * 3 + 1, none⟩ = some (.int .i64 (l[i]).s.2) ∧ w.cell? ⟨b, off + i * 3 + 2, none⟩ = some (.slice (l[i]).ro (l[i]).r.length (l[i]).rc) := by
  obtain ⟨ao, cap, h1, _, _, h2⟩ := h
  rcases h2 with ⟨rfl, _⟩ | ⟨b, off, rfl, h4, h5⟩
  · cases hi
  · refine ⟨b, off, cap, h1, h4, ?_, ?_, ?_⟩
    · have := h5 (i * 3 + 0) (by omega); rw [flat3_at l i hi 0 (by omega)] at this; exact this
    · have := h5 (i * 3 + 1) (by omega); rw [flat3_at l i hi 1 (by omega)] at this; exact this
    · have := h5 (i * 3 + 2) (by omega); rw [flat3_at l i hi 2 (by omega)] at this; exact this
theorem PcsAt.got {b off n c : Nat} (h : PcsAt l (.slice (some ⟨b, off, none⟩) n c) w) (i : Nat) (hi : i < l.length) : b < w.heap.size ∧
    w.cell? ⟨b, off + i * 3, none⟩ = some (.int .i64 (l[i]).s.1) ∧ w.cell? ⟨b, off + i * 3 + 1, none⟩ = some (.int .i64 (l[i]).s.2) ∧ w.cell? ⟨b, off + i * 3 + 2, none⟩ = some (.slice (l[i]).ro (l[i]).r.length (l[i]).rc) := by
  obtain ⟨b1, off1, cap1, he1, hb, j0, j1, j2⟩ := h.at i hi
  simp only [Value.slice.injEq, Option.some.injEq, Addr.mk.injEq, and_true] at he1
  obtain ⟨⟨rfl, rfl⟩, _⟩ := he1
  exact ⟨hb, j0, j1, j2⟩
theorem PcsAt.cells {ad : Addr} {cap : Nat} (h : PcsAt l (.slice (some ad) l.length cap) w) : ∀ j u, (flat3 l)[j]? = some u → w.cell? (ad.add j) = some u := by
  intro j u hu
  obtain ⟨ao, c, he, _, _, h2⟩ := h
  have hj : j < l.length * 3 := by rw [← flat3_len]; exact (List.getElem?_eq_some_iff.1 hu).1
  rcases h2 with ⟨rfl, _⟩ | ⟨b, off, h3, h4, h5⟩
  · simp at hj
  · simp only [Value.slice.injEq] at he
    obtain ⟨rfl, _, _⟩ := he
    have e := Option.some.inj h3
    subst e
    have e2 : (⟨b, off, none⟩ : Addr).add j = ⟨b, off + j, none⟩ := by unfold Addr.add; split <;> simp_all
    rw [e2, h5 j hj, hu]
/-- The slice v owns these, in a block from base on, of elements e. -/
def Row3 (e : TypeId) (base : Nat) (l : List Pm) (v : Value) (w : World) : Prop := w.ownsRow base e 3 v l.length (flat3 l)
theorem Row3.nil (e : TypeId) (base : Nat) (w : World) : Row3 e base [] (.slice none 0 0) w := World.ownsRow_nil _ _ _ _
theorem Row3.mono (h : Row3 e base l v w) (hb : base' ≤ base) : Row3 e base' l v w := ⟨h.1, h.2.elim .inl (fun ⟨g, c, cur, hv, hg, rest⟩ => .inr ⟨g, c, cur, hv, Nat.le_trans hb hg, rest⟩)⟩
theorem Row3.later (h : Row3 e base l v w) (hb : Below n w w') (hn : w.heap.size ≤ n) : Row3 e base l v w' := Spn.own_of h (fun g hg => hb.block g (Nat.lt_of_lt_of_le (h.lt g hg).2 hn))
theorem Row3.kept (h : Row3 e base l v w) (hk : ∀ g, v.ownBlock = some g → w'.heap[g]? = w.heap[g]?) : Row3 e base l v w' := Spn.own_of h hk
theorem Row3.form (h : Row3 e base l v w) : ∃ ao cap, v = .slice ao l.length cap ∧ l.length ≤ cap ∧ cap ≤ 9223372036854775807 := by
  rcases h.2 with ⟨h2, h0⟩ | ⟨g, cap, cur, hv, _, _, hc, hm, _⟩
  · exact ⟨none, 0, by rw [h2, h0], by omega, by omega⟩
  · exact ⟨_, cap, hv, hc, by unfold maxLen at hm; omega⟩
theorem Row3.held (h : Row3 e base l v w) (hp : 0 < l.length) : ∃ g cap, v = .slice (some ⟨g, 0, none⟩) l.length cap ∧ l.length ≤ cap ∧ cap ≤ 9223372036854775807 ∧ base ≤ g ∧ g < w.heap.size := by
  rcases h.2 with ⟨_, h2⟩ | ⟨g, c, cur, hv, hlo, hh, hnc, hcm, _⟩
  · omega
  · exact ⟨g, c, hv, hnc, by unfold maxLen at hcm; omega, hlo, lt_of_block hh⟩
theorem Row3.pieces (h : Row3 e base l v w) : PcsAt l v w := by
  rcases h.2 with ⟨h2, h0⟩ | ⟨g, cap, cur, hv, _, hh, hc, hm, _⟩
  · have e : l = [] := List.eq_nil_of_length_eq_zero h0
    subst e
    exact ⟨none, 0, h2, Nat.le_refl _, by omega, .inl ⟨rfl, fun _ => rfl⟩⟩
  · refine ⟨some ⟨g, 0, none⟩, cap, hv, hc, by unfold maxLen at hm; omega, .inr ⟨g, 0, rfl, lt_of_block hh, fun j hj => ?_⟩⟩
    subst hv
    rw [Nat.zero_add, World.ownsRow.cellAt h j (by omega)]
/-- What makes the two types of pieces rows of three cells. -/
structure Ty3 (t e : TypeId) : Prop where
  u : Try.prog.underlying t = some (.slice e)
  i : (Try.prog.info? e).map (fun i => (i.zero, i.size, i.bytes)) = some (some (.agg #[.int .i64 0, .int .i64 0, .slice none 0 0]), 3, 40)
theorem tyP : Ty3 22 56 := ⟨Try.underlying22, by kernel_rfl⟩
theorem tyR : Ty3 30 54 := ⟨Try.underlying30, by kernel_rfl⟩
/-- append(v, m...) -/
theorem row3_append {t ty : TypeId} (hT : Ty3 t e) (h : Row3 e base l v w) (hm : PcsAt m v' w) (hn : l.length + m.length ≤ 100000) (hb : base ≤ w.heap.size) :
    ∃ u w', (Builtin.append_ #[t, t] ty #[v, v']).run Try.prog w = .ok u w' ∧ Row3 e base (l ++ m) u w' ∧ w.grownBy w' v.ownBlock ∧ (u.ownBlock = v.ownBlock ∨ u.ownBlock = some w.heap.size) := by
  obtain ⟨i0, hi0, hz0, hz2, hz3⟩ := Spn.info_parts hT.i
  have hm0 := hm
  obtain ⟨ao, cap, rfl, hc, hcm, h2⟩ := hm
  cases ao with
  | none =>
    have h0 : m = [] := by
      rcases h2 with ⟨e, _⟩ | ⟨b, off, e, _⟩
      · exact e
      · cases e
    subst h0
    have hc0 : cap = 0 := by
      rcases h2 with ⟨_, e⟩ | ⟨b, off, e, _⟩
      · exact e rfl
      · cases e
    subst hc0
    refine ⟨v, w, ?_, by rw [List.append_nil]; exact h, World.grownBy.refl w _, .inl rfl⟩
    exact run_append_owned_none (P := Try.prog) (w := w) base t ty e i0 3 hT.u hi0 v l.length (flat3 l) h
  | some ad =>
    obtain ⟨u, w', hr, hown, hgr, _, hob⟩ := run_append_own_at (P := Try.prog) (w := w) base t ty e i0 (.agg #[.int .i64 0, .int .i64 0, .slice none 0 0]) 3 40 hT.u hi0 hz0 hz2 hz3 rfl (by decide) v l.length (flat3 l) h ad m.length cap (flat3 m) (flat3_len m) (PcsAt.cells hm0) (flat3_one m) (by unfold maxLen; omega) (by omega) hb
    refine ⟨u, w', hr, ?_, hgr, hob⟩
    unfold Row3
    rw [List.length_append, flat3_app]
    exact hown
theorem wpList_row3 {t : TypeId} (hT : Ty3 t e) {ops : Array Oper} {rest : List Oper} {o : Oper} {a : Act} {Qx : Exit → Act → World → Prop} (hgd : o.guard = none) (s y : Operand)
    (ho : o.op = .call { callee := .builtin .append, args := #[s, y], argTypes := #[t, t] }) (hs : a.eval s = v) (hx : a.eval y = v')
    (h : Row3 e base l v w) (hm : PcsAt m v' w) (hn : l.length + m.length ≤ 100000) (hb : base ≤ w.heap.size)
    (hK : ∀ u w', Row3 e base (l ++ m) u w' → w.grownBy w' v.ownBlock → (u.ownBlock = v.ownBlock ∨ u.ownBlock = some w.heap.size) → wpList Try.prog ops Qx rest (a.put o.dst u) w') : wpList Try.prog ops Qx (o :: rest) a w := by
  obtain ⟨u, w', hr, hp, hg, hob⟩ := row3_append (ty := o.type) hT h hm hn hb
  exact Lib.wpList_append_run w hgd s y _ _ ho v _ hs hx u w' hr (hK u w' hp hg hob)
theorem oper_row3 {t : TypeId} (hT : Ty3 t e) {o : Oper} {a : Act} {K : Act → World → Prop} {Qx : Exit → Act → World → Prop} (s y : Operand)
    (ho : o.op = .call { callee := .builtin .append, args := #[s, y], argTypes := #[t, t] }) (hs : a.eval s = v) (hx : a.eval y = v')
    (h : Row3 e base l v w) (hm : PcsAt m v' w) (hn : l.length + m.length ≤ 100000) (hb : base ≤ w.heap.size)
    (hK : ∀ u w', Row3 e base (l ++ m) u w' → w.grownBy w' v.ownBlock → (u.ownBlock = v.ownBlock ∨ u.ownBlock = some w.heap.size) → K (a.put o.dst u) w') : Oper.wp Try.prog o a w K Qx := by
  obtain ⟨u, w', hr, hp, hg, hob⟩ := row3_append (ty := o.type) hT h hm hn hb
  unfold Oper.wp execOp
  simp only [ho, resolve, invoke, builtin, Sem.run_bind, Sem.run_pure, Result.andThen_ok, List.map_toArray, List.map_cons, List.map_nil, hs, hx, hr]
  exact hK u w' hp hg hob
/-- One piece, newly laid. -/
theorem one3_at (w : World) (x : Pm) (T : TypeId) {k : Nat} (hk : k = w.heap.size) : PcsAt [x] (.slice (some ⟨k, 0, none⟩) 1 1) (w.alloc (.cells #[.int .i64 x.s.1, .int .i64 x.s.2, .slice x.ro x.r.length x.rc] T)) := by
  subst hk
  refine ⟨_, 1, rfl, by simp, by omega, .inr ⟨w.heap.size, 0, rfl, by simp, fun j hj => ?_⟩⟩
  have : j < 3 := by simpa using hj
  match j, this with
  | 0, _ => go_keep; rfl
  | 1, _ => go_keep; rfl
  | 2, _ => go_keep; rfl
end
/-! ### As arguments -/
section
open Go.ChangeShapes Go.WideShapes Go.ChangeAt Go.Joins Go.Deep
variable {H : Type} {enc : TypeId × Value → H} {W : World} {base : Nat} {sp : Nat → Bool} {held : Bool}
theorem cP3 : Try.prog.cellsOf 56 = 3 := by kernel_rfl
theorem cS3 : Try.prog.cellsOf 24 = 2 := by kernel_rfl
theorem cR3 : Try.prog.cellsOf 25 = 1 := by kernel_rfl
theorem cI3 : Try.prog.cellsOf 3 = 1 := by kernel_rfl
theorem cB3 : Try.prog.cellsOf 4 = 1 := by kernel_rfl
theorem cO3 : Try.prog.cellsOf 27 = 4 := by kernel_rfl
set_option maxRecDepth 100000 in
theorem open_two {fuel : Nat} {cs : List Value} {x : DataW H × List MemPlace} (h : DataW.trod enc Try.prog W base sp held fuel 24 cs = some x) : ∃ v : Sp, cs = [.int .i64 v.1, .int .i64 v.2] := by
  obtain ⟨xs, n, _, _, hlen, hxl, hf⟩ := DataW.trod_struct Try.underlying24 h
  rw [cS3] at hlen
  match cs, hlen with
  | [c0, c1], _ =>
    match xs, hxl with
    | [y0, y1], _ =>
      have a0 : DataW.trod enc Try.prog W base sp held n 3 (([c0, c1].drop 0).take (Try.prog.cellsOf 3)) = some y0 := hf 0 _ rfl
      have a1 : DataW.trod enc Try.prog W base sp held n 3 (([c0, c1].drop 1).take (Try.prog.cellsOf 3)) = some y1 := hf 1 _ rfl
      rw [cI3] at a0 a1
      have g0 : DataW.trod enc Try.prog W base sp held n 3 [c0] = some y0 := a0
      have g1 : DataW.trod enc Try.prog W base sp held n 3 [c1] = some y1 := a1
      obtain ⟨k, e0, _, _⟩ := DataW.trod_int Try.underlying3 g0
      obtain ⟨m, e1, _, _⟩ := DataW.trod_int Try.underlying3 g1
      simp only [List.cons.injEq, and_true] at e0 e1
      subst e0 e1
      exact ⟨(k, m), rfl⟩
end
end Prd
end Go.Proofs.Ytoacombaddknfaa
