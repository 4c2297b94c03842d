/- Items in memory: what a slice of them holds; a row of the call's own: appended to, the end of one of them set; as arguments. Conditions: as each says. -/
import Derived.Test.YtapdhelioecneaaU1
import Derived.ProofKit
import Derived.OpenShut
import Derived.WalkSpells
import Derived.WalkLawsBesides
import Derived.Maps.AppendAt
import Derived.Laws.AppendOwnNone
import Derived.Laws.OwnMore
import Derived.Lib.OwnKind
import Derived.Lib.SmallJoins
import Derived.Lib.AppendZeros
import Derived.Deep.Slices
import Derived.Deep.QuietTactic
import Derived.BigQuiet
import Derived.Deep.RegionHeld3
import Derived.Carry
import Derived.SizedLaws
namespace Go.Proofs.Ytapdhelioecneaa
open Go.RowKit
namespace Idx
theorem hide {p : Prop} (h : p) : Hid p := h
theorem ret_bool {a b : Bool} (h : a = b) : Ending.returned (.bool a) = Ending.returned (.bool b) := by rw [h]
theorem ret_int {a b : Int} (h : a = b) : Ending.returned (.int .i64 a) = Ending.returned (.int .i64 b) := by rw [h]
theorem below_alloc (w : World) (o : Obj) : Below w.heap.size w (w.alloc o) := (Below.refl _ _).alloc (Nat.le_refl _) _
theorem add_none (b off j : Nat) : (⟨b, off, none⟩ : Addr).add j = ⟨b, off + j, none⟩ := by unfold Addr.add; split <;> simp_all
/-- A text of these bytes. -/
abbrev S (l : List UInt8) : ByteArray := ⟨l.toArray⟩
theorem S_list (l : List UInt8) : (S l).data.toList = l := rfl
theorem S_of (t : ByteArray) : S t.data.toList = t := by cases t; simp [S]
theorem S_size (l : List UInt8) : (S l).size = l.length := by simp [ByteArray.size]
def It.cells (x : It) : List Value := [.string (S x.k), .int .i64 x.s, .int .i64 x.e, .int .i64 x.id]
def flat (l : List It) : List Value := l.flatMap It.cells
theorem flat_len (l : List It) : (flat l).length = l.length * 4 := by
  induction l with
  | nil => rfl
  | cons v l ih => simp only [flat, List.flatMap_cons, List.length_append] at ih ⊢; rw [ih]; simp [It.cells]; omega
theorem flat_app (l m : List It) : flat (l ++ m) = flat l ++ flat m := by simp [flat]
theorem flat_at (vs : List It) : ∀ (j : Nat) (h : j < vs.length) (f : Nat), f < 4 → (flat vs)[j * 4 + f]? = (vs[j]).cells[f]? := by
  induction vs with
  | nil => intro j h; cases h
  | cons v vs ih =>
    intro j h f hf
    have e : flat (v :: vs) = v.cells ++ flat vs := rfl
    have el : v.cells.length = 4 := rfl
    cases j with
    | zero => rw [e, List.getElem?_append_left (by rw [el]; omega)]; simp
    | succ j =>
      rw [e, List.getElem?_append_right (by rw [el]; omega), el, show (j + 1) * 4 + f - 4 = j * 4 + f by omega]
      exact ih j (by simpa using h) f hf
theorem flat_one (l : List It) : ∀ u, u ∈ flat l → u.oneCell' = true := by
  intro u hu
  simp only [flat, List.mem_flatMap] at hu
  obtain ⟨v, _, hv⟩ := hu
  simp only [It.cells, List.mem_cons, List.not_mem_nil, or_false] at hv
  rcases hv with rfl | rfl | rfl | rfl <;> rfl
theorem flat_drop (l : List It) (i : Nat) : flat (l.drop i) = (flat l).drop (i * 4) := by
  induction l generalizing i with
  | nil => simp [flat]
  | cons x l ih =>
    cases i with
    | zero => simp
    | succ i =>
      have e : flat (x :: l) = x.cells ++ flat l := rfl
      rw [List.drop_succ_cons, ih, e, show (i + 1) * 4 = x.cells.length + i * 4 by show _ = 4 + i * 4; omega, List.drop_append]
      simp
theorem flat_take (l : List It) (i : Nat) : flat (l.take i) = (flat l).take (i * 4) := by
  induction l generalizing i with
  | nil => simp [flat]
  | cons x l ih =>
    cases i with
    | zero => simp [flat]
    | succ i =>
      have e : flat (x :: l) = x.cells ++ flat l := rfl
      have e2 : flat (x :: l.take i) = x.cells ++ flat (l.take i) := rfl
      rw [List.take_succ_cons, e2, ih, e, show (i + 1) * 4 = x.cells.length + i * 4 by show _ = 4 + i * 4; omega, List.take_append]
      simp
      exact (List.take_of_length_le (by omega)).symm
/-- The slice sl has these items' cells. -/
def ItemsAt (l : List It) (sl : Value) (w : World) : Prop := ∃ ao cap, sl = .slice ao l.length cap ∧ l.length ≤ cap ∧ cap ≤ 9223372036854775807 ∧ ((l = [] ∧ (ao = none → cap = 0)) ∨ ∃ b off, ao = some ⟨b, off, none⟩ ∧ b < w.heap.size ∧ ∀ j, j < l.length * 4 → w.cell? ⟨b, off + j, none⟩ = (flat l)[j]?)
section
variable {l m : List It} {sl v v' : Value} {w w' : World} {base base' n : Nat} {e : TypeId}
theorem ItemsAt.keep (h : ItemsAt l sl w) (hs : w.heap.size ≤ w'.heap.size) (hk : ∀ g, sl.ownBlock = some g → w'.heap[g]? = w.heap[g]?) : ItemsAt l sl w' := by
  obtain ⟨ao, cap, rfl, hc, hm, h2⟩ := h
  refine ⟨ao, cap, rfl, hc, hm, ?_⟩
  rcases h2 with h2 | ⟨b, off, rfl, h4, h5⟩
  · exact .inl h2
  · exact .inr ⟨b, off, rfl, Nat.lt_of_lt_of_le h4 hs, fun j hj => by rw [World.cell?_of_block (a := ⟨b, off + j, none⟩) (hk b rfl)]; exact h5 j hj⟩
theorem ItemsAt.later (h : ItemsAt l sl w) (hb : Below n w w') (hn : w.heap.size ≤ n) : ItemsAt l sl w' := by
  obtain ⟨ao, cap, h1, hc, hm, h2⟩ := h
  refine ⟨ao, cap, h1, hc, hm, ?_⟩
  rcases h2 with h2 | ⟨b, off, h3, h4, h5⟩
  · exact .inl h2
  · exact .inr ⟨b, off, h3, Nat.lt_of_lt_of_le h4 hb.size, fun j hj => by rw [hb.cell (p := ⟨b, off + j, none⟩) (Nat.lt_of_lt_of_le h4 hn)]; exact h5 j hj⟩
theorem ItemsAt.form (h : ItemsAt l sl w) : ∃ ao cap, sl = .slice ao l.length cap ∧ l.length ≤ cap ∧ cap ≤ 9223372036854775807 := by
  obtain ⟨ao, cap, h1, hc, hm, _⟩ := h
  exact ⟨ao, cap, h1, hc, hm⟩
theorem ItemsAt.at (h : ItemsAt l sl w) (i : Nat) (hi : i < l.length) : ∃ b off cap, sl = .slice (some ⟨b, off, none⟩) l.length cap ∧ b < w.heap.size ∧
    w.cell? ⟨b, off + i * 4, none⟩ = some (.string (S (l[i]).k)) ∧ w.cell? ⟨b, off + i * 4 + 1, none⟩ = some (.int .i64 (l[i]).s) ∧ w.cell? ⟨b, off + i * 4 + 2, none⟩ = some (.int .i64 (l[i]).e) ∧ w.cell? ⟨b, off + i * 4 + 3, none⟩ = some (.int .i64 (l[i]).id) := by
  obtain ⟨ao, cap, h1, _, _, h2⟩ := h
  rcases h2 with ⟨rfl, _⟩ | ⟨b, off, rfl, h4, h5⟩
  · cases hi
  · refine ⟨b, off, cap, h1, h4, ?_, ?_, ?_, ?_⟩
    · have := h5 (i * 4 + 0) (by omega); rw [flat_at l i hi 0 (by omega)] at this; exact this
    · have := h5 (i * 4 + 1) (by omega); rw [flat_at l i hi 1 (by omega)] at this; exact this
    · have := h5 (i * 4 + 2) (by omega); rw [flat_at l i hi 2 (by omega)] at this; exact this
    · have := h5 (i * 4 + 3) (by omega); rw [flat_at l i hi 3 (by omega)] at this; exact this
theorem ItemsAt.got {b off n c : Nat} (h : ItemsAt l (.slice (some ⟨b, off, none⟩) n c) w) (i : Nat) (hi : i < l.length) : b < w.heap.size ∧
    w.cell? ⟨b, off + i * 4, none⟩ = some (.string (S (l[i]).k)) ∧ w.cell? ⟨b, off + i * 4 + 1, none⟩ = some (.int .i64 (l[i]).s) ∧ w.cell? ⟨b, off + i * 4 + 2, none⟩ = some (.int .i64 (l[i]).e) ∧ w.cell? ⟨b, off + i * 4 + 3, none⟩ = some (.int .i64 (l[i]).id) := by
  obtain ⟨b1, off1, cap1, he1, hb, j0, j1, j2, j3⟩ := h.at i hi
  simp only [Value.slice.injEq, Option.some.injEq, Addr.mk.injEq, and_true] at he1
  obtain ⟨⟨rfl, rfl⟩, _⟩ := he1
  exact ⟨hb, j0, j1, j2, j3⟩
theorem ItemsAt.cells {ad : Addr} {cap : Nat} (h : ItemsAt l (.slice (some ad) l.length cap) w) : ∀ j u, (flat l)[j]? = some u → w.cell? (ad.add j) = some u := by
  intro j u hu
  obtain ⟨ao, c, he, _, _, h2⟩ := h
  have hj : j < l.length * 4 := by rw [← flat_len]; exact (List.getElem?_eq_some_iff.1 hu).1
  rcases h2 with ⟨rfl, _⟩ | ⟨b, off, h3, h4, h5⟩
  · simp at hj
  · simp only [Value.slice.injEq] at he
    obtain ⟨rfl, _, _⟩ := he
    have e := Option.some.inj h3
    subst e
    rw [add_none, h5 j hj, hu]
/-- A part of it, from i on. -/
theorem ItemsAt.cut {ao : Option Addr} {cap : Nat} (h : ItemsAt l (.slice ao l.length cap) w) (i : Nat) (hi : i ≤ l.length) : ItemsAt (l.drop i) (sliced ao i l.length cap 4) w := by
  obtain ⟨ao', cap', he, hc, hm, h2⟩ := h
  simp only [Value.slice.injEq, true_and] at he
  obtain ⟨rfl, rfl⟩ := he
  unfold sliced
  rw [List.length_drop.symm]
  refine ⟨_, _, rfl, by rw [List.length_drop]; omega, by omega, ?_⟩
  by_cases hci : cap = i
  · have e0 : l.drop i = [] := List.drop_eq_nil_of_le (by omega)
    exact .inl ⟨e0, fun _ => by omega⟩
  · rw [if_neg hci]
    rcases h2 with ⟨e, hn⟩ | ⟨b, off, rfl, hlt, hcell⟩
    · subst e
      have : i = 0 := by simpa using hi
      subst this
      cases ao with
      | none => have := hn rfl; omega
      | some ad => exact .inl ⟨rfl, fun e => by cases e⟩
    · by_cases hd : l.drop i = []
      · exact .inl ⟨hd, fun e => by cases e⟩
      · refine .inr ⟨b, off + i * 4, ?_, hlt, fun j hj => ?_⟩
        · simp [add_none]
        · rw [List.length_drop] at hj
          rw [flat_drop, List.getElem?_drop, ← hcell (i * 4 + j) (by omega)]
          congr 2
          omega
/-- Its first i. -/
theorem ItemsAt.first {ao : Option Addr} {cap : Nat} (h : ItemsAt l (.slice ao l.length cap) w) (i : Nat) (hi : i ≤ l.length) : ItemsAt (l.take i) (.slice ao i cap) w := by
  obtain ⟨ao', cap', he, hc, hm, h2⟩ := h
  simp only [Value.slice.injEq, true_and] at he
  obtain ⟨rfl, rfl⟩ := he
  have hl : (l.take i).length = i := by rw [List.length_take]; omega
  refine ⟨ao, cap, by rw [hl], by omega, hm, ?_⟩
  rcases h2 with ⟨e, hn⟩ | ⟨b, off, rfl, hlt, hcell⟩
  · exact .inl ⟨by rw [e]; simp, hn⟩
  · refine .inr ⟨b, off, rfl, hlt, fun j hj => ?_⟩
    rw [hl] at hj
    rw [flat_take, List.getElem?_take_of_lt hj]
    exact hcell j (by omega)
/-- The slice v owns these, in a block from base on, of elements e. -/
def Row4 (e : TypeId) (base : Nat) (l : List It) (v : Value) (w : World) : Prop := w.ownsRow base e 4 v l.length (flat l)
theorem own_of {B : Nat} {sz k : Nat} {xs : List Value} (h : w.ownsRow B e sz v k xs) (hk : ∀ g, v.ownBlock = some g → w'.heap[g]? = w.heap[g]?) : w'.ownsRow B e sz v k xs := by
  refine ⟨h.1, ?_⟩
  rcases h.2 with h2 | ⟨g, c, cur, hv, hg, hh, rest⟩
  · exact .inl h2
  · exact .inr ⟨g, c, cur, hv, hg, (hk g (by rw [hv]; rfl)).trans hh, rest⟩
theorem Row4.nil (e : TypeId) (base : Nat) (w : World) : Row4 e base [] (.slice none 0 0) w := World.ownsRow_nil _ _ _ _
theorem Row4.mono (h : Row4 e base l v w) (hb : base' ≤ base) : Row4 e base' l v w := ⟨h.1, h.2.elim .inl (fun ⟨g, c, cur, hv, hg, rest⟩ => .inr ⟨g, c, cur, hv, Nat.le_trans hb hg, rest⟩)⟩
theorem Row4.kept (h : Row4 e base l v w) (hk : ∀ g, v.ownBlock = some g → w'.heap[g]? = w.heap[g]?) : Row4 e base l v w' := own_of h hk
theorem Row4.later (h : Row4 e base l v w) (hb : Below n w w') (hn : w.heap.size ≤ n) : Row4 e base l v w' := own_of h (fun g hg => hb.block g (Nat.lt_of_lt_of_le (h.lt g hg).2 hn))
theorem Row4.form (h : Row4 e base l v w) : ∃ ao cap, v = .slice ao l.length cap ∧ l.length ≤ cap ∧ cap ≤ 9223372036854775807 := by
  rcases h.2 with ⟨h2, h0⟩ | ⟨g, cap, cur, hv, _, _, hc, hm, _⟩
  · exact ⟨none, 0, by rw [h2, h0], by omega, by omega⟩
  · exact ⟨_, cap, hv, hc, by unfold maxLen at hm; omega⟩
theorem Row4.held (h : Row4 e base l v w) (hp : 0 < l.length) : ∃ g cap, v = .slice (some ⟨g, 0, none⟩) l.length cap ∧ l.length ≤ cap ∧ cap ≤ 9223372036854775807 ∧ base ≤ g ∧ g < w.heap.size := by
  rcases h.2 with ⟨_, h2⟩ | ⟨g, c, cur, hv, hlo, hh, hnc, hcm, _⟩
  · omega
  · exact ⟨g, c, hv, hnc, by unfold maxLen at hcm; omega, hlo, lt_of_block hh⟩
theorem Row4.items (h : Row4 e base l v w) : ItemsAt l v w := by
  rcases h.2 with ⟨h2, h0⟩ | ⟨g, cap, cur, hv, _, hh, hc, hm, _⟩
  · have e : l = [] := List.eq_nil_of_length_eq_zero h0
    subst e
    exact ⟨none, 0, h2, Nat.le_refl _, by omega, .inl ⟨rfl, fun _ => rfl⟩⟩
  · refine ⟨some ⟨g, 0, none⟩, cap, hv, hc, by unfold maxLen at hm; omega, .inr ⟨g, 0, rfl, lt_of_block hh, fun j hj => ?_⟩⟩
    subst hv
    rw [Nat.zero_add, World.ownsRow.cellAt h j (by omega)]
theorem flat_set (l : List It) (n : Nat) (hn : n < l.length) (x : It) (hk : x.k = (l[n]).k) (hs : x.s = (l[n]).s) (hi : x.id = (l[n]).id) : (flat l).set (n * 4 + 2) (.int .i64 x.e) = flat (l.set n x) := by
  refine List.ext_getElem? (fun j => ?_)
  have hj : j = j / 4 * 4 + j % 4 := by omega
  have hf : j % 4 < 4 := Nat.mod_lt _ (by omega)
  rcases Nat.lt_or_ge (j / 4) l.length with hq | hq
  · have h1 := flat_at l (j / 4) hq (j % 4) hf
    have h2 := flat_at (l.set n x) (j / 4) (by rw [List.length_set]; exact hq) (j % 4) hf
    rw [← hj] at h1 h2
    rw [List.getElem?_set, h2, List.getElem_set]
    by_cases hjn : n * 4 + 2 = j
    · rw [if_pos hjn]
      have e1 : n = j / 4 := by omega
      have e2 : j % 4 = 2 := by omega
      rw [if_pos e1, e2, if_pos (by rw [flat_len]; omega)]
      rfl
    · rw [if_neg hjn, h1]
      by_cases e1 : n = j / 4
      · rw [if_pos e1]
        subst e1
        have e2 : j % 4 ≠ 2 := by omega
        have : j % 4 = 0 ∨ j % 4 = 1 ∨ j % 4 = 3 := by omega
        rcases this with e | e | e <;> rw [e] <;> simp [It.cells, hk, hs, hi]
      · rw [if_neg e1]
  · rw [List.getElem?_eq_none (by rw [List.length_set, flat_len]; omega), List.getElem?_eq_none (by rw [flat_len, List.length_set]; omega)]
/-- The end of the n-th is set. -/
theorem Row4.set {g cap k : Nat} (h : Row4 e base l (.slice (some ⟨g, 0, none⟩) k cap) w) (n : Nat) (hn : n < l.length) (x : It) (hk : x.k = (l[n]).k) (hs : x.s = (l[n]).s) (hi : x.id = (l[n]).id) :
    Row4 e base (l.set n x) (.slice (some ⟨g, 0, none⟩) k cap) (w.setCell ⟨g, n * 4 + 2, none⟩ (.int .i64 x.e)) := by
  have hkl : k = l.length := by
    obtain ⟨_, _, h1, _⟩ := h.form
    simp only [Value.slice.injEq] at h1
    exact h1.2.1
  subst hkl
  unfold Row4 at h ⊢
  rw [List.length_set, ← flat_set l n hn x hk hs hi]
  exact (h.stored _ _).1
/-- What makes a type of items rows of four cells. -/
structure Ty4 (t e : TypeId) : Prop where
  u : Try.prog.underlying t = some (.slice e)
  i : (Try.prog.info? e).map (fun i => (i.zero, i.size, i.bytes)) = some (some (.agg #[.string ⟨#[]⟩, .int .i64 0, .int .i64 0, .int .i64 0]), 4, 40)
theorem tyX : Ty4 42 31 := ⟨Try.underlying42, by kernel_rfl⟩
theorem tyR : Ty4 40 36 := ⟨Try.underlying40, by kernel_rfl⟩
theorem info_parts {e : TypeId} {z : Value} {s b : Nat} (h : (Try.prog.info? e).map (fun i => (i.zero, i.size, i.bytes)) = some (some z, s, b)) : ∃ i0, Try.prog.info? e = some i0 ∧ i0.zero = some z ∧ i0.size = s ∧ i0.bytes = b := by
  cases hi : Try.prog.info? e with
  | none => rw [hi] at h; cases h
  | some i0 => rw [hi] at h; simp at h; exact ⟨i0, rfl, h.1, h.2.1, h.2.2⟩
/-- append(v, m...) -/
theorem row4_append {t ty : TypeId} (hT : Ty4 t e) (h : Row4 e base l v w) (hm : ItemsAt m v' w) (hn : l.length + m.length ≤ 100000) (hb : base ≤ w.heap.size) :
    ∃ u w', (Builtin.append_ #[t, t] ty #[v, v']).run Try.prog w = .ok u w' ∧ Row4 e base (l ++ m) u w' ∧ w.grownBy w' v.ownBlock ∧ (u.ownBlock = v.ownBlock ∨ u.ownBlock = some w.heap.size) := by
  obtain ⟨i0, hi0, hz0, hz2, hz3⟩ := info_parts hT.i
  have hm0 := hm
  obtain ⟨ao, cap, rfl, hc, hcm, h2⟩ := hm
  cases ao with
  | none =>
    have h0 : m = [] := by
      rcases h2 with ⟨e, _⟩ | ⟨b, off, e, _⟩
      · exact e
      · cases e
    subst h0
    have hc0 : cap = 0 := by
      rcases h2 with ⟨_, e⟩ | ⟨b, off, e, _⟩
      · exact e rfl
      · cases e
    subst hc0
    refine ⟨v, w, ?_, by rw [List.append_nil]; exact h, World.grownBy.refl w _, .inl rfl⟩
    exact run_append_owned_none (P := Try.prog) (w := w) base t ty e i0 4 hT.u hi0 v l.length (flat l) h
  | some ad =>
    obtain ⟨u, w', hr, hown, hgr, _, hob⟩ := run_append_own_at (P := Try.prog) (w := w) base t ty e i0 (.agg #[.string ⟨#[]⟩, .int .i64 0, .int .i64 0, .int .i64 0]) 4 40 hT.u hi0 hz0 hz2 hz3 rfl (by decide) v l.length (flat l) h ad m.length cap (flat m) (flat_len m) (ItemsAt.cells hm0) (flat_one m) (by unfold maxLen; omega) (by omega) hb
    refine ⟨u, w', hr, ?_, hgr, hob⟩
    unfold Row4
    rw [List.length_append, flat_app]
    exact hown
theorem wpList_row4 {t : TypeId} (hT : Ty4 t e) {ops : Array Oper} {rest : List Oper} {o : Oper} {a : Act} {Qx : Exit → Act → World → Prop} (hgd : o.guard = none) (s y : Operand)
    (ho : o.op = .call { callee := .builtin .append, args := #[s, y], argTypes := #[t, t] }) (hs : a.eval s = v) (hx : a.eval y = v')
    (h : Row4 e base l v w) (hm : ItemsAt m v' w) (hn : l.length + m.length ≤ 100000) (hb : base ≤ w.heap.size)
    (hK : ∀ u w', Row4 e base (l ++ m) u w' → w.grownBy w' v.ownBlock → (u.ownBlock = v.ownBlock ∨ u.ownBlock = some w.heap.size) → wpList Try.prog ops Qx rest (a.put o.dst u) w') : wpList Try.prog ops Qx (o :: rest) a w := by
  obtain ⟨u, w', hr, hp, hg, hob⟩ := row4_append (ty := o.type) hT h hm hn hb
  exact Lib.wpList_append_run w hgd s y _ _ ho v _ hs hx u w' hr (hK u w' hp hg hob)
theorem oper_row4 {t : TypeId} (hT : Ty4 t e) {o : Oper} {a : Act} {K : Act → World → Prop} {Qx : Exit → Act → World → Prop} (s y : Operand)
    (ho : o.op = .call { callee := .builtin .append, args := #[s, y], argTypes := #[t, t] }) (hs : a.eval s = v) (hx : a.eval y = v')
    (h : Row4 e base l v w) (hm : ItemsAt m v' w) (hn : l.length + m.length ≤ 100000) (hb : base ≤ w.heap.size)
    (hK : ∀ u w', Row4 e base (l ++ m) u w' → w.grownBy w' v.ownBlock → (u.ownBlock = v.ownBlock ∨ u.ownBlock = some w.heap.size) → K (a.put o.dst u) w') : Oper.wp Try.prog o a w K Qx := by
  obtain ⟨u, w', hr, hp, hg, hob⟩ := row4_append (ty := o.type) hT h hm hn hb
  unfold Oper.wp execOp
  simp only [ho, resolve, invoke, builtin, Sem.run_bind, Sem.run_pure, Result.andThen_ok, List.map_toArray, List.map_cons, List.map_nil, hs, hx, hr]
  exact hK u w' hp hg hob
/-- One item, newly laid. -/
theorem one4_at (w : World) (x : It) (T : TypeId) {k : Nat} (hk : k = w.heap.size) : ItemsAt [x] (.slice (some ⟨k, 0, none⟩) 1 1) (w.alloc (.cells #[.string (S x.k), .int .i64 x.s, .int .i64 x.e, .int .i64 x.id] T)) := by
  subst hk
  refine ⟨_, 1, rfl, by simp, by omega, .inr ⟨w.heap.size, 0, rfl, by simp, fun j hj => ?_⟩⟩
  have : j < 4 := by simpa using hj
  match j, this with
  | 0, _ => go_keep; rfl
  | 1, _ => go_keep; rfl
  | 2, _ => go_keep; rfl
  | 3, _ => go_keep; rfl
end
/-- An item's cells lie in block k. -/
structure Bx (x : It) (k : Nat) (w : World) : Prop where
  c0 : w.cell? ⟨k, 0, none⟩ = some (.string (S x.k))
  c1 : w.cell? ⟨k, 1, none⟩ = some (.int .i64 x.s)
  c2 : w.cell? ⟨k, 2, none⟩ = some (.int .i64 x.e)
  c3 : w.cell? ⟨k, 3, none⟩ = some (.int .i64 x.id)
  lt : k < w.heap.size
theorem Bx.kept {x : It} {k : Nat} {w w' : World} (h : Bx x k w) (hs : w.heap.size ≤ w'.heap.size) (e : w'.heap[k]? = w.heap[k]?) : Bx x k w' :=
  ⟨by rw [World.cell?_of_block (a := ⟨k, 0, none⟩) e]; exact h.c0, by rw [World.cell?_of_block (a := ⟨k, 1, none⟩) e]; exact h.c1, by rw [World.cell?_of_block (a := ⟨k, 2, none⟩) e]; exact h.c2, by rw [World.cell?_of_block (a := ⟨k, 3, none⟩) e]; exact h.c3, Nat.lt_of_lt_of_le h.lt hs⟩
theorem Bx.later {x : It} {k n : Nat} {w w' : World} (h : Bx x k w) (hb : Below n w w') (hk : k < n) : Bx x k w' := h.kept hb.size (hb.block k hk)
theorem Bx.new (w : World) (x : It) (T : TypeId) : Bx x w.heap.size (w.alloc (.cells #[.string (S x.k), .int .i64 x.s, .int .i64 x.e, .int .i64 x.id] T)) := ⟨by go_keep, by go_keep, by go_keep, by go_keep, by simp⟩
end Idx
end Go.Proofs.Ytapdhelioecneaa
