/- Rows of intervals: what a slice of them holds; a row of the call's own: appended to, its last one's end set, sorted. Conditions: as each says. -/
import Derived.Test.YtoacombaddknfaaIc
import Derived.Maps.AppendAt
import Derived.Laws.AppendOwnNone
import Derived.Laws.OwnMore
import Derived.Lib.OwnKind
import Derived.Lib.SmallJoins
import Derived.Lib.AppendZeros
namespace Go.Proofs.Ytoacombaddknfaa
open Go.RowKit
namespace Spn
def scells (s : Sp) : List Value := [.int .i64 s.1, .int .i64 s.2]
def flat (l : List Sp) : List Value := l.flatMap scells
theorem flat_len (l : List Sp) : (flat l).length = l.length * 2 := by
  induction l with
  | nil => rfl
  | cons v l ih => simp only [flat, List.flatMap_cons, List.length_append] at ih ⊢; rw [ih]; simp [scells]; omega
theorem flat_app (l m : List Sp) : flat (l ++ m) = flat l ++ flat m := by simp [flat]
theorem flat_at (vs : List Sp) : ∀ (j : Nat) (h : j < vs.length) (f : Nat), f < 2 → (flat vs)[j * 2 + f]? = (scells vs[j])[f]? := by
  induction vs with
  | nil => intro j h; cases h
  | cons v vs ih =>
    intro j h f hf
    have e : flat (v :: vs) = scells v ++ flat vs := rfl
    have el : (scells v).length = 2 := rfl
    cases j with
    | zero => rw [e, List.getElem?_append_left (by rw [el]; omega)]; simp
    | succ j =>
      rw [e, List.getElem?_append_right (by rw [el]; omega), el, show (j + 1) * 2 + f - 2 = j * 2 + f by omega]
      exact ih j (by simpa using h) f hf
theorem flat_set (l : List Sp) (q : Sp) (x : Int) : (flat (l ++ [q])).set (l.length * 2 + 1) (.int .i64 x) = flat (l ++ [(q.1, x)]) := by
  rw [flat_app, flat_app, List.set_append_right _ _ (by rw [flat_len]; omega), flat_len]
  rw [show l.length * 2 + 1 - l.length * 2 = 1 by omega]
  rfl
theorem flat_one (l : List Sp) : ∀ u, u ∈ flat l → u.oneCell' = true := by
  intro u hu
  simp only [flat, List.mem_flatMap] at hu
  obtain ⟨v, _, hv⟩ := hu
  simp only [scells, List.mem_cons, List.not_mem_nil, or_false] at hv
  rcases hv with rfl | rfl <;> rfl
theorem own_of {w w' : World} {B : Nat} {e : TypeId} {sz : Nat} {v : Value} {n : Nat} {xs : List Value} (h : w.ownsRow B e sz v n xs) (hk : ∀ g, v.ownBlock = some g → w'.heap[g]? = w.heap[g]?) : w'.ownsRow B e sz v n xs := by
  refine ⟨h.1, ?_⟩
  rcases h.2 with h2 | ⟨g, c, cur, hv, hg, hh, rest⟩
  · exact .inl h2
  · exact .inr ⟨g, c, cur, hv, hg, (hk g (by rw [hv]; rfl)).trans hh, rest⟩
/-- The slice sl holds these intervals. -/
def SpansAt (l : List Sp) (sl : Value) (w : World) : Prop := ∃ ao cap, sl = .slice ao l.length cap ∧ l.length ≤ cap ∧ cap ≤ 9223372036854775807 ∧ ((l = [] ∧ (ao = none → cap = 0)) ∨ ∃ b off, ao = some ⟨b, off, none⟩ ∧ b < w.heap.size ∧ ∀ j, j < l.length * 2 → w.cell? ⟨b, off + j, none⟩ = (flat l)[j]?)
theorem SpansAt.keep {l : List Sp} {sl : Value} {w w' : World} (h : SpansAt l sl w) (hs : w.heap.size ≤ w'.heap.size) (ho : ∀ b off c n, sl = .slice (some ⟨b, off, none⟩) n c → w'.heap[b]? = w.heap[b]?) : SpansAt l sl w' := by
  obtain ⟨ao, cap, rfl, hc, hm, h2⟩ := h
  refine ⟨ao, cap, rfl, hc, hm, ?_⟩
  rcases h2 with h2 | ⟨b, off, rfl, h4, h5⟩
  · exact .inl h2
  · exact .inr ⟨b, off, rfl, Nat.lt_of_lt_of_le h4 hs, fun j hj => by rw [World.cell?_of_block (a := ⟨b, off + j, none⟩) (ho b off cap l.length rfl)]; exact h5 j hj⟩
theorem SpansAt.later {l : List Sp} {sl : Value} {w w' : World} {n : Nat} (h : SpansAt l sl w) (hb : Below n w w') (hn : w.heap.size ≤ n) : SpansAt l sl w' := by
  obtain ⟨ao, cap, h1, hc, hm, h2⟩ := h
  refine ⟨ao, cap, h1, hc, hm, ?_⟩
  rcases h2 with h2 | ⟨b, off, h3, h4, h5⟩
  · exact .inl h2
  · exact .inr ⟨b, off, h3, Nat.lt_of_lt_of_le h4 hb.size, fun j hj => by rw [hb.cell (p := ⟨b, off + j, none⟩) (Nat.lt_of_lt_of_le h4 hn)]; exact h5 j hj⟩
theorem SpansAt.form {l : List Sp} {sl : Value} {w : World} (h : SpansAt l sl w) : ∃ ao cap, sl = .slice ao l.length cap ∧ l.length ≤ cap ∧ cap ≤ 9223372036854775807 := by
  obtain ⟨ao, cap, h1, hc, hm, _⟩ := h
  exact ⟨ao, cap, h1, hc, hm⟩
theorem SpansAt.at {l : List Sp} {sl : Value} {w : World} (h : SpansAt l sl w) (i : Nat) (hi : i < l.length) : ∃ b off cap, sl = .slice (some ⟨b, off, none⟩) l.length cap ∧ b < w.heap.size ∧
    w.cell? ⟨b, off + i * 2, none⟩ = some (.int .i64 (l[i]).1) ∧ w.cell? ⟨b, off + i * 2 + 1, none⟩ = some (.int .i64 (l[i]).2) := by
  obtain ⟨ao, cap, h1, _, _, h2⟩ := h
  rcases h2 with ⟨rfl, _⟩ | ⟨b, off, rfl, h4, h5⟩
  · cases hi
  · refine ⟨b, off, cap, h1, h4, ?_, ?_⟩
    · have := h5 (i * 2 + 0) (by omega); rw [flat_at l i hi 0 (by omega)] at this; exact this
    · have := h5 (i * 2 + 1) (by omega); rw [flat_at l i hi 1 (by omega)] at this; exact this
theorem SpansAt.cells {l : List Sp} {w : World} {ad : Addr} {cap : Nat} (h : SpansAt l (.slice (some ad) l.length cap) w) : ∀ j u, (flat l)[j]? = some u → w.cell? (ad.add j) = some u := by
  intro j u hu
  obtain ⟨ao, c, he, _, _, h2⟩ := h
  have hj : j < l.length * 2 := by rw [← flat_len]; exact (List.getElem?_eq_some_iff.1 hu).1
  rcases h2 with ⟨rfl, _⟩ | ⟨b, off, h3, h4, h5⟩
  · simp at hj
  · simp only [Value.slice.injEq] at he
    obtain ⟨rfl, _, _⟩ := he
    have e := Option.some.inj h3
    subst e
    have e2 : (⟨b, off, none⟩ : Addr).add j = ⟨b, off + j, none⟩ := by unfold Addr.add; split <;> simp_all
    rw [e2, h5 j hj, hu]
/-- The slice v owns these intervals, in a block from base on. -/
def Row (base : Nat) (l : List Sp) (v : Value) (w : World) : Prop := w.ownsRow base 24 2 v l.length (flat l)
section
variable {base base' n : Nat} {l m : List Sp} {v v' : Value} {w w' : World}
theorem Row.nil (base : Nat) (w : World) : Row base [] (.slice none 0 0) w := World.ownsRow_nil _ _ _ _
theorem Row.mono (h : Row base l v w) (hb : base' ≤ base) : Row base' l v w := ⟨h.1, h.2.elim .inl (fun ⟨g, c, cur, hv, hg, rest⟩ => .inr ⟨g, c, cur, hv, Nat.le_trans hb hg, rest⟩)⟩
theorem Row.later (h : Row base l v w) (hb : Below n w w') (hn : w.heap.size ≤ n) : Row base l v w' := own_of h (fun g hg => hb.block g (Nat.lt_of_lt_of_le (h.lt g hg).2 hn))
theorem Row.kept (h : Row base l v w) (hk : ∀ g, v.ownBlock = some g → w'.heap[g]? = w.heap[g]?) : Row base l v w' := own_of h hk
theorem Row.form (h : Row base l v w) : ∃ ao cap, v = .slice ao l.length cap ∧ l.length ≤ cap ∧ cap ≤ 9223372036854775807 := by
  rcases h.2 with ⟨h2, h0⟩ | ⟨g, cap, cur, hv, _, _, hc, hm, _⟩
  · exact ⟨none, 0, by rw [h2, h0], by omega, by omega⟩
  · exact ⟨_, cap, hv, hc, by unfold maxLen at hm; omega⟩
theorem Row.held (h : Row base l v w) (hp : 0 < l.length) : ∃ g cap, v = .slice (some ⟨g, 0, none⟩) l.length cap ∧ l.length ≤ cap ∧ cap ≤ 9223372036854775807 ∧ base ≤ g ∧ g < w.heap.size := by
  rcases h.2 with ⟨_, h2⟩ | ⟨g, c, cur, hv, hlo, hh, hnc, hcm, _⟩
  · omega
  · exact ⟨g, c, hv, hnc, by unfold maxLen at hcm; omega, hlo, lt_of_block hh⟩
theorem Row.at {g cap : Nat} (h : Row base l (.slice (some ⟨g, 0, none⟩) n cap) w) (i : Nat) (hi : i < l.length) :
    w.cell? ⟨g, i * 2, none⟩ = some (.int .i64 (l[i]).1) ∧ w.cell? ⟨g, i * 2 + 1, none⟩ = some (.int .i64 (l[i]).2) ∧ w.frozen? ⟨g, i * 2, none⟩ = false ∧ w.frozen? ⟨g, i * 2 + 1, none⟩ = false := by
  have hn : n = l.length := by
    obtain ⟨_, _, h1, _⟩ := h.form
    simp only [Value.slice.injEq] at h1
    exact h1.2.1
  subst hn
  refine ⟨?_, ?_, h.frozenAt _, h.frozenAt _⟩
  · rw [h.cellAt (i * 2) (by omega)]; exact flat_at l i hi 0 (by omega)
  · rw [h.cellAt (i * 2 + 1) (by omega)]; exact flat_at l i hi 1 (by omega)
/-- As a slice that is read. -/
theorem Row.spans (h : Row base l v w) : SpansAt l v w := by
  rcases h.2 with ⟨h2, h0⟩ | ⟨g, cap, cur, hv, _, hh, hc, hm, _⟩
  · have e : l = [] := List.eq_nil_of_length_eq_zero h0
    subst e
    exact ⟨none, 0, h2, Nat.le_refl _, by omega, .inl ⟨rfl, fun _ => rfl⟩⟩
  · refine ⟨some ⟨g, 0, none⟩, cap, hv, hc, by unfold maxLen at hm; omega, .inr ⟨g, 0, rfl, lt_of_block hh, fun j hj => ?_⟩⟩
    subst hv
    rw [Nat.zero_add, World.ownsRow.cellAt h j (by omega)]
/-- The end of the last one is set. -/
theorem Row.set {g cap : Nat} {q : Sp} (h : Row base (l ++ [q]) (.slice (some ⟨g, 0, none⟩) (l.length + 1) cap) w) (x : Int) :
    Row base (l ++ [(q.1, x)]) (.slice (some ⟨g, 0, none⟩) (l.length + 1) cap) (w.setCell ⟨g, l.length * 2 + 1, none⟩ (.int .i64 x)) := by
  unfold Row at h ⊢
  rw [show (l ++ [(q.1, x)]).length = l.length + 1 by simp]
  rw [show (l ++ [q]).length = l.length + 1 by simp] at h
  rw [← flat_set]
  exact (h.stored _ _).1
theorem infoS : (Try.prog.info? 24).map (fun i => (i.zero, i.size, i.bytes)) = some (some (.agg #[.int .i64 0, .int .i64 0]), 2, 16) := by kernel_rfl
theorem info_parts {e : TypeId} {z : Value} {s b : Nat} (h : (Try.prog.info? e).map (fun i => (i.zero, i.size, i.bytes)) = some (some z, s, b)) : ∃ i0, Try.prog.info? e = some i0 ∧ i0.zero = some z ∧ i0.size = s ∧ i0.bytes = b := by
  cases hi : Try.prog.info? e with
  | none => rw [hi] at h; cases h
  | some i0 => rw [hi] at h; simp at h; exact ⟨i0, rfl, h.1, h.2.1, h.2.2⟩
/-- append(v, m...) -/
theorem row_append {ty : TypeId} (h : Row base l v w) (hm : SpansAt m v' w) (hn : l.length + m.length ≤ 100000) (hb : base ≤ w.heap.size) :
    ∃ u w', (Builtin.append_ #[73, 73] ty #[v, v']).run Try.prog w = .ok u w' ∧ Row base (l ++ m) u w' ∧ w.grownBy w' v.ownBlock ∧ (u.ownBlock = v.ownBlock ∨ u.ownBlock = some w.heap.size) := by
  obtain ⟨i0, hi0, hz0, hz2, hz3⟩ := info_parts infoS
  have hm0 := hm
  obtain ⟨ao, cap, rfl, hc, hcm, h2⟩ := hm
  cases ao with
  | none =>
    have h0 : m = [] := by
      rcases h2 with ⟨e, _⟩ | ⟨b, off, e, _⟩
      · exact e
      · cases e
    subst h0
    have hc0 : cap = 0 := by
      rcases h2 with ⟨_, e⟩ | ⟨b, off, e, _⟩
      · exact e rfl
      · cases e
    subst hc0
    refine ⟨v, w, ?_, by rw [List.append_nil]; exact h, World.grownBy.refl w _, .inl rfl⟩
    exact run_append_owned_none (P := Try.prog) (w := w) base 73 ty 24 i0 2 Try.underlying73 hi0 v l.length (flat l) h
  | some ad =>
    obtain ⟨u, w', hr, hown, hgr, _, hob⟩ := run_append_own_at (P := Try.prog) (w := w) base 73 ty 24 i0 (.agg #[.int .i64 0, .int .i64 0]) 2 16 Try.underlying73 hi0 hz0 hz2 hz3 rfl (by decide) v l.length (flat l) h ad m.length cap (flat m) (flat_len m) (SpansAt.cells hm0) (flat_one m) (by unfold maxLen; omega) (by omega) hb
    refine ⟨u, w', hr, ?_, hgr, hob⟩
    unfold Row
    rw [List.length_append, flat_app]
    exact hown
theorem wpList_row {ops : Array Oper} {rest : List Oper} {o : Oper} {a : Act} {Qx : Exit → Act → World → Prop} (hgd : o.guard = none) (s y : Operand)
    (ho : o.op = .call { callee := .builtin .append, args := #[s, y], argTypes := #[73, 73] }) (hs : a.eval s = v) (hx : a.eval y = v')
    (h : Row base l v w) (hm : SpansAt m v' w) (hn : l.length + m.length ≤ 100000) (hb : base ≤ w.heap.size)
    (hK : ∀ u w', Row base (l ++ m) u w' → w.grownBy w' v.ownBlock → (u.ownBlock = v.ownBlock ∨ u.ownBlock = some w.heap.size) → wpList Try.prog ops Qx rest (a.put o.dst u) w') : wpList Try.prog ops Qx (o :: rest) a w := by
  obtain ⟨u, w', hr, hp, hg, hob⟩ := row_append (ty := o.type) h hm hn hb
  exact Lib.wpList_append_run w hgd s y _ _ ho v _ hs hx u w' hr (hK u w' hp hg hob)
/-- One interval, newly laid. -/
theorem one_at (w : World) (s : Sp) : SpansAt [s] (.slice (some ⟨w.heap.size, 0, none⟩) 1 1) (w.alloc (.cells #[.int .i64 s.1, .int .i64 s.2] 24)) := by
  refine ⟨_, 1, rfl, by simp, by omega, .inr ⟨w.heap.size, 0, rfl, by simp, fun j hj => ?_⟩⟩
  have hh := At.new w s.1 s.2 24
  have : j < 2 := by simpa using hj
  match j, this with
  | 0, _ => exact hh.c0
  | 1, _ => exact hh.c1
theorem two_at (w : World) (s r : Sp) : SpansAt [s, r] (.slice (some ⟨w.heap.size, 0, none⟩) 2 2) (w.alloc (.cells #[.int .i64 s.1, .int .i64 s.2, .int .i64 r.1, .int .i64 r.2] 24)) := by
  refine ⟨_, 2, rfl, by simp, by omega, .inr ⟨w.heap.size, 0, rfl, by simp, fun j hj => ?_⟩⟩
  have : j < 4 := by simpa using hj
  match j, this with
  | 0, _ => go_keep; rfl
  | 1, _ => go_keep; rfl
  | 2, _ => go_keep; rfl
  | 3, _ => go_keep; rfl
end
end Spn
end Go.Proofs.Ytoacombaddknfaa
