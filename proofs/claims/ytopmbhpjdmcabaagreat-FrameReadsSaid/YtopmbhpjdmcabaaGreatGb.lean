/- Changes and transactions in memory: slices of api.Changes and api.Txns as lists. No condition. -/
import Derived.Test.YtopmbhpjdmcabaaGreatGa
import Derived.Test.YtopmbhpjdmcabaaGreatMa
import Derived.Test.YtopmbhpjdmcabaaGreatMb
namespace Go.Proofs.YtopmbhpjdmcabaaGreat
open Go.RowKit
namespace Frm
open Cod Sch
/-- A change, and where its row and its columns lie. -/
structure M where
  c : Ch
  ro : Option Addr
  rc : Nat
  qo : Option Addr
  qc : Nat
/-- What hangs on a change's cells. -/
structure M.In (x : M) (w : World) : Prop where
  r : RowC x.c.row (.slice x.ro x.c.row.length x.rc) w
  q : ColsAt x.c.df.cols (.slice x.qo x.c.df.cols.length x.qc) w
theorem M.In.later {x : M} {w w' : World} (h : x.In w) (hb : Below w.heap.size w w') : x.In w' := ⟨h.r.later hb, h.q.later hb⟩
def M.cells (x : M) : List Value := [.int .i64 x.c.op, .string (S x.c.tb), .slice x.ro x.c.row.length x.rc, .int .i64 x.c.a, .int .i64 x.c.z, .string (S x.c.df.nm), .slice x.qo x.c.df.cols.length x.qc, .int .i64 x.c.df.keys]
def M.agg (x : M) : Value := .agg #[.int .i64 x.c.op, .string (S x.c.tb), .slice x.ro x.c.row.length x.rc, .int .i64 x.c.a, .int .i64 x.c.z, .string (S x.c.df.nm), .slice x.qo x.c.df.cols.length x.qc, .int .i64 x.c.df.keys]
def mflat (l : List M) : List Value := l.flatMap M.cells
theorem mflat_len (l : List M) : (mflat l).length = l.length * 8 := by
  induction l with
  | nil => rfl
  | cons v l ih => simp only [mflat, List.flatMap_cons, List.length_append] at ih ⊢; rw [ih]; simp [M.cells]; omega
theorem mflat_snoc (l : List M) (v : M) : mflat (l ++ [v]) = mflat l ++ v.cells := by simp [mflat]
theorem mflat_at (vs : List M) : ∀ (j : Nat) (h : j < vs.length) (f : Nat), f < 8 → (mflat vs)[j * 8 + f]? = (vs[j]).cells[f]? := by
  induction vs with
  | nil => intro j h; cases h
  | cons v vs ih =>
    intro j h f hf
    have e : mflat (v :: vs) = v.cells ++ mflat vs := rfl
    have el : v.cells.length = 8 := rfl
    cases j with
    | zero => rw [e, List.getElem?_append_left (by rw [el]; omega)]; simp
    | succ j =>
      rw [e, List.getElem?_append_right (by rw [el]; omega), el, show (j + 1) * 8 + f - 8 = j * 8 + f by omega]
      exact ih j (by simpa using h) f hf
/-- The slice sl holds these. -/
def MsAt (l : List M) (sl : Value) (w : World) : Prop := (∃ ao cap, sl = .slice ao l.length cap ∧ l.length ≤ cap ∧ cap ≤ 9223372036854775807 ∧ (l ≠ [] → ∃ b off, ao = some ⟨b, off, none⟩ ∧ b < w.heap.size ∧ ∀ j, j < l.length * 8 → w.cell? ⟨b, off + j, none⟩ = (mflat l)[j]?)) ∧ ∀ x ∈ l, x.In w
theorem MsAt.later {l : List M} {sl : Value} {w w' : World} (h : MsAt l sl w) (hb : Below w.heap.size w w') : MsAt l sl w' := by
  obtain ⟨⟨ao, cap, h1, hc, hm, h2⟩, hi⟩ := h
  refine ⟨⟨ao, cap, h1, hc, hm, fun hne => ?_⟩, fun x hx => (hi x hx).later hb⟩
  obtain ⟨b, off, h3, h4, h5⟩ := h2 hne
  exact ⟨b, off, h3, Nat.lt_of_lt_of_le h4 hb.size, fun j hj => by rw [hb.cell (p := ⟨b, off + j, none⟩) h4]; exact h5 j hj⟩
theorem MsAt.at {l : List M} {sl : Value} {w : World} (h : MsAt l sl w) (i : Nat) (hi : i < l.length) : ∃ b off cap, sl = .slice (some ⟨b, off, none⟩) l.length cap ∧ b < w.heap.size ∧
    w.cell? ⟨b, off + i * 8, none⟩ = some (.int .i64 l[i].c.op) ∧
    w.cell? ⟨b, off + i * 8 + 1, none⟩ = some (.string (S l[i].c.tb)) ∧
    w.cell? ⟨b, off + i * 8 + 2, none⟩ = some (.slice l[i].ro l[i].c.row.length l[i].rc) ∧
    w.cell? ⟨b, off + i * 8 + 3, none⟩ = some (.int .i64 l[i].c.a) ∧
    w.cell? ⟨b, off + i * 8 + 4, none⟩ = some (.int .i64 l[i].c.z) ∧
    w.cell? ⟨b, off + i * 8 + 5, none⟩ = some (.string (S l[i].c.df.nm)) ∧
    w.cell? ⟨b, off + i * 8 + 6, none⟩ = some (.slice l[i].qo l[i].c.df.cols.length l[i].qc) ∧
    w.cell? ⟨b, off + i * 8 + 7, none⟩ = some (.int .i64 l[i].c.df.keys) := by
  obtain ⟨⟨ao, cap, h1, _, _, h2⟩, _⟩ := h
  obtain ⟨b, off, rfl, h4, h5⟩ := h2 (fun e => by rw [e] at hi; cases hi)
  refine ⟨b, off, cap, h1, h4, ?_, ?_, ?_, ?_, ?_, ?_, ?_, ?_⟩
  · have := h5 (i * 8 + 0) (by omega); rw [mflat_at l i hi 0 (by omega)] at this; exact this
  · have := h5 (i * 8 + 1) (by omega); rw [mflat_at l i hi 1 (by omega)] at this; exact this
  · have := h5 (i * 8 + 2) (by omega); rw [mflat_at l i hi 2 (by omega)] at this; exact this
  · have := h5 (i * 8 + 3) (by omega); rw [mflat_at l i hi 3 (by omega)] at this; exact this
  · have := h5 (i * 8 + 4) (by omega); rw [mflat_at l i hi 4 (by omega)] at this; exact this
  · have := h5 (i * 8 + 5) (by omega); rw [mflat_at l i hi 5 (by omega)] at this; exact this
  · have := h5 (i * 8 + 6) (by omega); rw [mflat_at l i hi 6 (by omega)] at this; exact this
  · have := h5 (i * 8 + 7) (by omega); rw [mflat_at l i hi 7 (by omega)] at this; exact this
theorem MsAt.in {l : List M} {sl : Value} {w : World} (h : MsAt l sl w) (i : Nat) (hi : i < l.length) : (l[i]).In w := h.2 _ (List.getElem_mem hi)
theorem MsAt.form {l : List M} {sl : Value} {w : World} (h : MsAt l sl w) : ∃ ao cap, sl = .slice ao l.length cap ∧ l.length ≤ cap ∧ cap ≤ 9223372036854775807 := by
  obtain ⟨⟨ao, cap, h1, hc, hm, _⟩, _⟩ := h
  exact ⟨ao, cap, h1, hc, hm⟩
theorem MsAt.nil (w : World) : MsAt [] (.slice none 0 0) w := ⟨⟨none, 0, rfl, Nat.le_refl _, by omega, fun h => absurd rfl h⟩, fun _ h => by cases h⟩
theorem MsAt.of_owns {base : Nat} {l : List M} {sl : Value} {w : World} (h : w.ownsRow base 32 8 sl l.length (mflat l)) (hi : ∀ x ∈ l, x.In w) : MsAt l sl w := by
  refine ⟨?_, hi⟩
  obtain ⟨g, cap, rfl, hc, hm⟩ | ⟨hv, h0⟩ : (∃ g cap, sl = .slice (some ⟨g, 0, none⟩) l.length cap ∧ l.length ≤ cap ∧ cap ≤ 9223372036854775807) ∨ (sl = .slice none 0 0 ∧ l.length = 0) := by
    rcases h.2 with h2 | ⟨g, cap, cur, hv, _, _, hc, hm, _⟩
    · exact .inr h2
    · exact .inl ⟨g, cap, hv, hc, by unfold maxLen at hm; omega⟩
  · refine ⟨_, cap, rfl, hc, hm, fun _ => ⟨g, 0, rfl, (h.lt g rfl).2, fun j hj => ?_⟩⟩
    rw [Nat.zero_add]
    exact h.cellAt j hj
  · have hcs := List.eq_nil_of_length_eq_zero h0
    subst hcs
    exact ⟨none, 0, hv, Nat.le_refl _, by omega, fun h => absurd rfl h⟩
/-- A transaction, and where its changes lie. -/
structure X where
  seq : Int
  tm : Int
  l : List M
  co : Option Addr
  cc : Nat
def X.tx (x : X) : Tx := ⟨x.seq, x.tm, x.l.map M.c⟩
def X.In (x : X) (w : World) : Prop := MsAt x.l (.slice x.co x.l.length x.cc) w
theorem X.In.later {x : X} {w w' : World} (h : x.In w) (hb : Below w.heap.size w w') : x.In w' := MsAt.later h hb
def X.cells (x : X) : List Value := [.int .i64 x.seq, .int .i64 x.tm, .slice x.co x.l.length x.cc]
def X.agg (x : X) : Value := .agg #[.int .i64 x.seq, .int .i64 x.tm, .slice x.co x.l.length x.cc]
def xflat (l : List X) : List Value := l.flatMap X.cells
theorem xflat_len (l : List X) : (xflat l).length = l.length * 3 := by
  induction l with
  | nil => rfl
  | cons v l ih => simp only [xflat, List.flatMap_cons, List.length_append] at ih ⊢; rw [ih]; simp [X.cells]; omega
theorem xflat_snoc (l : List X) (v : X) : xflat (l ++ [v]) = xflat l ++ v.cells := by simp [xflat]
theorem xflat_at (vs : List X) : ∀ (j : Nat) (h : j < vs.length) (f : Nat), f < 3 → (xflat vs)[j * 3 + f]? = (vs[j]).cells[f]? := by
  induction vs with
  | nil => intro j h; cases h
  | cons v vs ih =>
    intro j h f hf
    have e : xflat (v :: vs) = v.cells ++ xflat vs := rfl
    have el : v.cells.length = 3 := rfl
    cases j with
    | zero => rw [e, List.getElem?_append_left (by rw [el]; omega)]; simp
    | succ j =>
      rw [e, List.getElem?_append_right (by rw [el]; omega), el, show (j + 1) * 3 + f - 3 = j * 3 + f by omega]
      exact ih j (by simpa using h) f hf
/-- The slice sl holds these. -/
def XsAt (l : List X) (sl : Value) (w : World) : Prop := (∃ ao cap, sl = .slice ao l.length cap ∧ l.length ≤ cap ∧ cap ≤ 9223372036854775807 ∧ (l ≠ [] → ∃ b off, ao = some ⟨b, off, none⟩ ∧ b < w.heap.size ∧ ∀ j, j < l.length * 3 → w.cell? ⟨b, off + j, none⟩ = (xflat l)[j]?)) ∧ ∀ x ∈ l, x.In w
theorem XsAt.later {l : List X} {sl : Value} {w w' : World} (h : XsAt l sl w) (hb : Below w.heap.size w w') : XsAt l sl w' := by
  obtain ⟨⟨ao, cap, h1, hc, hm, h2⟩, hi⟩ := h
  refine ⟨⟨ao, cap, h1, hc, hm, fun hne => ?_⟩, fun x hx => (hi x hx).later hb⟩
  obtain ⟨b, off, h3, h4, h5⟩ := h2 hne
  exact ⟨b, off, h3, Nat.lt_of_lt_of_le h4 hb.size, fun j hj => by rw [hb.cell (p := ⟨b, off + j, none⟩) h4]; exact h5 j hj⟩
theorem XsAt.at {l : List X} {sl : Value} {w : World} (h : XsAt l sl w) (i : Nat) (hi : i < l.length) : ∃ b off cap, sl = .slice (some ⟨b, off, none⟩) l.length cap ∧ b < w.heap.size ∧
    w.cell? ⟨b, off + i * 3, none⟩ = some (.int .i64 l[i].seq) ∧
    w.cell? ⟨b, off + i * 3 + 1, none⟩ = some (.int .i64 l[i].tm) ∧
    w.cell? ⟨b, off + i * 3 + 2, none⟩ = some (.slice l[i].co l[i].l.length l[i].cc) := by
  obtain ⟨⟨ao, cap, h1, _, _, h2⟩, _⟩ := h
  obtain ⟨b, off, rfl, h4, h5⟩ := h2 (fun e => by rw [e] at hi; cases hi)
  refine ⟨b, off, cap, h1, h4, ?_, ?_, ?_⟩
  · have := h5 (i * 3 + 0) (by omega); rw [xflat_at l i hi 0 (by omega)] at this; exact this
  · have := h5 (i * 3 + 1) (by omega); rw [xflat_at l i hi 1 (by omega)] at this; exact this
  · have := h5 (i * 3 + 2) (by omega); rw [xflat_at l i hi 2 (by omega)] at this; exact this
theorem XsAt.in {l : List X} {sl : Value} {w : World} (h : XsAt l sl w) (i : Nat) (hi : i < l.length) : (l[i]).In w := h.2 _ (List.getElem_mem hi)
theorem XsAt.form {l : List X} {sl : Value} {w : World} (h : XsAt l sl w) : ∃ ao cap, sl = .slice ao l.length cap ∧ l.length ≤ cap ∧ cap ≤ 9223372036854775807 := by
  obtain ⟨⟨ao, cap, h1, hc, hm, _⟩, _⟩ := h
  exact ⟨ao, cap, h1, hc, hm⟩
theorem XsAt.nil (w : World) : XsAt [] (.slice none 0 0) w := ⟨⟨none, 0, rfl, Nat.le_refl _, by omega, fun h => absurd rfl h⟩, fun _ h => by cases h⟩
theorem XsAt.of_owns {base : Nat} {l : List X} {sl : Value} {w : World} (h : w.ownsRow base 24 3 sl l.length (xflat l)) (hi : ∀ x ∈ l, x.In w) : XsAt l sl w := by
  refine ⟨?_, hi⟩
  obtain ⟨g, cap, rfl, hc, hm⟩ | ⟨hv, h0⟩ : (∃ g cap, sl = .slice (some ⟨g, 0, none⟩) l.length cap ∧ l.length ≤ cap ∧ cap ≤ 9223372036854775807) ∨ (sl = .slice none 0 0 ∧ l.length = 0) := by
    rcases h.2 with h2 | ⟨g, cap, cur, hv, _, _, hc, hm, _⟩
    · exact .inr h2
    · exact .inl ⟨g, cap, hv, hc, by unfold maxLen at hm; omega⟩
  · refine ⟨_, cap, rfl, hc, hm, fun _ => ⟨g, 0, rfl, (h.lt g rfl).2, fun j hj => ?_⟩⟩
    rw [Nat.zero_add]
    exact h.cellAt j hj
  · have hcs := List.eq_nil_of_length_eq_zero h0
    subst hcs
    exact ⟨none, 0, hv, Nat.le_refl _, by omega, fun h => absurd rfl h⟩
end Frm
end Go.Proofs.YtopmbhpjdmcabaaGreat
