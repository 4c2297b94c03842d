/- Pieces, and calls Put and Drop, as arguments: opened to what they hold. No condition. -/
import Derived.Test.YtoacombaddknfaaOc
namespace Go.Proofs.Ytoacombaddknfaa
open Go.RowKit Go.ChangeShapes Go.WideShapes Go.ChangeAt Go.Joins Go.Deep
namespace Prd
open Spn (Sp)
open Cod (V RowAt)
section
variable {H : Type} {enc : TypeId × Value → H} {W : World} {base : Nat} {sp : Nat → Bool} {held : Bool}
theorem plain_addr {a : Addr} {v : Value} (h : W.cell? a = some v) : ∃ b o, a = ⟨b, o, none⟩ ∧ b < W.heap.size := by
  have hlt : a.block < W.heap.size := World.block_lt_of_cell? W _ h
  obtain ⟨b, off, spot⟩ := a
  have hs : spot = none := by
    unfold World.cell? at h
    simp only at h
    split at h
    · split at h
      · cases h
      · rename_i hns
        cases spot with
        | none => rfl
        | some q => simp at hns
    · cases h
  subst hs
  exact ⟨b, off, rfl, hlt⟩
set_option maxRecDepth 100000 in
/-- A slice of values that lies in a cell. -/
theorem open_cell {fuel : Nat} {v : Value} {x : DataW H × List MemPlace} (hf : DataW.trod enc Try.prog W base sp held fuel 25 [v] = some x) (hz : Cod.Sz 25 x.1) :
    ∃ (vs : List V) (ro : Option Addr) (rc : Nat), v = .slice ro vs.length rc ∧ RowAt vs (.slice ro vs.length rc) W ∧ (∀ x ∈ vs, x.inn) ∧ vs.length ≤ 9223372036854775807 := by
  rcases open_slice Try.underlying25 hf with ⟨hcs, _⟩ | ⟨a', len, cap, m, n, D, Pl, hcs, hb, hl, hm, hmm, hxx, hi⟩
  · simp only [List.cons.injEq, and_true] at hcs
    exact ⟨[], none, 0, hcs, ⟨none, 0, rfl, fun hne => absurd rfl hne⟩, by simp, by simp⟩
  · simp only [List.cons.injEq, and_true] at hcs
    subst hcs
    have hz0 := Cod.sz_slice Try.underlying25 (by rw [hxx] at hz; exact hz)
    have hle : len ≤ m := by rw [hmm]; split <;> omega
    rw [Cod.cV] at hi
    have key : ∀ k, k ≤ len → ∃ vs : List V, vs.length = k ∧ (∀ x ∈ vs, x.inn) ∧ ∀ j, j < k * 4 → W.cell? (a'.add j) = (Cod.flat vs)[j]? := by
      intro k
      induction k with
      | zero => intro _; exact ⟨[], rfl, by simp, fun j hj => by omega⟩
      | succ k ih =>
        intro hk
        obtain ⟨vs, h1, h2, h3⟩ := ih (by omega)
        obtain ⟨cs', hc, ht⟩ := hi k (by omega)
        obtain ⟨_, _, hat⟩ := World.cells?_some hc
        obtain ⟨x, hx, hin⟩ := Cod.open_one ht (hz0.2 k (D k) (by rw [List.getElem?_map, List.getElem?_range (by omega)]; rfl))
        refine ⟨vs ++ [x], by simp [h1], ?_, fun j hj => ?_⟩
        · intro y hy
          rcases List.mem_append.1 hy with hy | hy
          · exact h2 y hy
          · simp only [List.mem_singleton] at hy; rw [hy]; exact hin
        · rw [Cod.flat_snoc]
          have hfl : (Cod.flat vs).length = k * 4 := by rw [Cod.flat_len, h1]
          rcases Nat.lt_or_ge j (k * 4) with hj2 | hj2
          · rw [List.getElem?_append_left (by omega)]; exact h3 j hj2
          · rw [List.getElem?_append_right (by omega), hfl, ← hx, ← hat (j - k * 4) (by omega)]
            congr 1
            rw [Go.Deep.add_add]
            congr 1; omega
    obtain ⟨vs, h1, h2, h3⟩ := key len (Nat.le_refl _)
    subst h1
    refine ⟨vs, some a', cap, rfl, ⟨some a', cap, rfl, fun hne => ?_⟩, h2, by unfold maxLen at hm; omega⟩
    obtain ⟨x, xs, rfl⟩ := List.exists_cons_of_ne_nil hne
    have h0 := h3 0 (by simp)
    have e0 : a'.add 0 = a' := rfl
    have hf0 : (Cod.flat (x :: xs))[0]? = some (.int .i64 x.k) := rfl
    rw [e0, hf0] at h0
    obtain ⟨b, off, rfl, hlt⟩ := plain_addr h0
    refine ⟨b, off, rfl, hlt, fun j hj => ?_⟩
    have := h3 j hj
    have e : (⟨b, off, none⟩ : Addr).add j = ⟨b, off + j, none⟩ := by unfold Addr.add; split <;> simp_all
    rw [e] at this; exact this
/-- The bounds of a piece that came in. -/
structure Pm.inn (x : Pm) : Prop where
  r : ∀ v ∈ x.r, v.inn
  n : x.r.length ≤ 9223372036854775807
set_option maxRecDepth 100000 in
theorem open_piece {fuel : Nat} {cs : List Value} {x : DataW H × List MemPlace} (h : DataW.trod enc Try.prog W base sp held fuel 56 cs = some x) (hz : Cod.Sz 56 x.1) : ∃ p : Pm, cs = p.cells ∧ RowAt p.r p.sl W ∧ p.inn := by
  obtain ⟨xs, n, _, hx, hlen, hxl, hf⟩ := DataW.trod_struct Try.underlying56 h
  rw [cP3] at hlen
  rw [hx] at hz
  match cs, hlen with
  | [c0, c1, c2], _ =>
    match xs, hxl with
    | [y0, y1], _ =>
      have a0 : DataW.trod enc Try.prog W base sp held n 24 (([c0, c1, c2].drop 0).take (Try.prog.cellsOf 24)) = some y0 := hf 0 _ rfl
      have a1 : DataW.trod enc Try.prog W base sp held n 25 (([c0, c1, c2].drop 2).take (Try.prog.cellsOf 25)) = some y1 := hf 1 _ rfl
      rw [cS3] at a0
      rw [cR3] at a1
      have g0 : DataW.trod enc Try.prog W base sp held n 24 [c0, c1] = some y0 := a0
      have g1 : DataW.trod enc Try.prog W base sp held n 25 [c2] = some y1 := a1
      obtain ⟨s, hs⟩ := open_two g0
      obtain ⟨vs, ro, rc, hv, hr, hin, hn⟩ := open_cell g1 (Cod.sz_field (j := 1) Try.underlying56 hz rfl rfl)
      simp only [List.cons.injEq, and_true] at hs
      obtain ⟨rfl, rfl⟩ := hs
      subst hv
      exact ⟨⟨s, vs, ro, rc⟩, rfl, hr, hin, hn⟩
/-- A call: is it Drop; its period and its row. -/
structure Opv where
  d : Bool
  x : Pm
def Opv.cells (o : Opv) : List Value := [.bool o.d, .int .i64 o.x.s.1, .int .i64 o.x.s.2, .slice o.x.ro o.x.r.length o.x.rc]
set_option maxRecDepth 100000 in
theorem open_op1 {fuel : Nat} {cs : List Value} {x : DataW H × List MemPlace} (h : DataW.trod enc Try.prog W base sp held fuel 27 cs = some x) (hz : Cod.Sz 27 x.1) : ∃ p : Opv, cs = p.cells ∧ RowAt p.x.r p.x.sl W ∧ p.x.inn := by
  obtain ⟨xs, n, _, hx, hlen, hxl, hf⟩ := DataW.trod_struct Try.underlying27 h
  rw [cO3] at hlen
  rw [hx] at hz
  match cs, hlen with
  | [c0, c1, c2, c3], _ =>
    match xs, hxl with
    | [y0, y1, y2], _ =>
      have a0 : DataW.trod enc Try.prog W base sp held n 4 (([c0, c1, c2, c3].drop 0).take (Try.prog.cellsOf 4)) = some y0 := hf 0 _ rfl
      have a1 : DataW.trod enc Try.prog W base sp held n 24 (([c0, c1, c2, c3].drop 1).take (Try.prog.cellsOf 24)) = some y1 := hf 1 _ rfl
      have a2 : DataW.trod enc Try.prog W base sp held n 25 (([c0, c1, c2, c3].drop 3).take (Try.prog.cellsOf 25)) = some y2 := hf 2 _ rfl
      rw [cB3] at a0
      rw [cS3] at a1
      rw [cR3] at a2
      have g0 : DataW.trod enc Try.prog W base sp held n 4 [c0] = some y0 := a0
      have g1 : DataW.trod enc Try.prog W base sp held n 24 [c1, c2] = some y1 := a1
      have g2 : DataW.trod enc Try.prog W base sp held n 25 [c3] = some y2 := a2
      obtain ⟨b, hb, _⟩ := DataW.trod_bool Try.underlying4 g0
      obtain ⟨s, hs⟩ := open_two g1
      obtain ⟨vs, ro, rc, hv, hr, hin, hn⟩ := open_cell g2 (Cod.sz_field (j := 2) Try.underlying27 hz rfl rfl)
      simp only [List.cons.injEq, and_true] at hs hb
      obtain ⟨rfl, rfl⟩ := hs
      subst hv hb
      exact ⟨⟨b, ⟨s, vs, ro, rc⟩⟩, rfl, hr, hin, hn⟩
set_option maxRecDepth 100000 in
theorem open_op {v : Value} {d : DataW H} {p : List MemPlace} {r : Reach} {b0 : Nat} (hok : Value.okWide Try.prog W r b0 27 v) (h : DataW.Trod enc Try.prog W base sp held 27 v d p) (hz : Cod.Sz 27 d) :
    ∃ o : Opv, v = .agg #[.bool o.d, .int .i64 o.x.s.1, .int .i64 o.x.s.2, .slice o.x.ro o.x.r.length o.x.rc] ∧ RowAt o.x.r o.x.sl W ∧ o.x.inn := by
  obtain ⟨cs, rfl, hsz⟩ := okWide_struct Try.underlying27 hok
  obtain ⟨fuel, hf⟩ := h
  obtain ⟨o, ho, h1, h2⟩ := open_op1 hf hz
  refine ⟨o, ?_, h1, h2⟩
  have ho2 : cs.toList = o.cells := ho
  congr 1
  exact Array.toList_inj.1 ho2
set_option maxRecDepth 100000 in
theorem open_pieces {v : Value} {d : DataW H} {p : List MemPlace} {r : Reach} {b0 : Nat} (hok : Value.okWide Try.prog W r b0 22 v) (h : DataW.Trod enc Try.prog W base sp held 22 v d p) (hz : Cod.Sz 22 d) :
    ∃ l : List Pm, PcsAt l v W ∧ Rows3 l W ∧ ∀ x ∈ l, x.inn := by
  obtain ⟨a, len, cap, rfl⟩ := okWide_slice Try.underlying22 hok
  obtain ⟨fuel, hf⟩ := h
  rcases open_slice Try.underlying22 hf with ⟨hcs, _⟩ | ⟨a', len', cap', m, n, D, Pl, hcs, hb, hl, hm, hmm, hxx, hi⟩
  · have hcs' : [Value.slice a len cap] = [.slice none 0 0] := hcs
    simp only [List.cons.injEq, Value.slice.injEq, and_true] at hcs'
    obtain ⟨rfl, rfl, rfl⟩ := hcs'
    exact ⟨[], ⟨none, 0, rfl, Nat.le_refl _, by omega, .inl ⟨rfl, fun _ => rfl⟩⟩, Rows3.nil _, by simp⟩
  · have hcs' : [Value.slice a len cap] = [.slice (some a') len' cap'] := hcs
    simp only [List.cons.injEq, Value.slice.injEq, and_true] at hcs'
    obtain ⟨rfl, rfl, rfl⟩ := hcs'
    have hz0 := Cod.sz_slice Try.underlying22 (by rw [show d = _ from congrArg Prod.fst hxx] at hz; exact hz)
    have hle : len ≤ m := by rw [hmm]; split <;> omega
    rw [cP3] at hi
    have key : ∀ k, k ≤ len → ∃ vs : List Pm, vs.length = k ∧ Rows3 vs W ∧ (∀ x ∈ vs, x.inn) ∧ ∀ j, j < k * 3 → W.cell? (a'.add j) = (flat3 vs)[j]? := by
      intro k
      induction k with
      | zero => intro _; exact ⟨[], rfl, Rows3.nil _, by simp, fun j hj => by omega⟩
      | succ k ih =>
        intro hk
        obtain ⟨vs, h1, h2, h4, h3⟩ := ih (by omega)
        obtain ⟨cs', hc, ht⟩ := hi k (by omega)
        obtain ⟨_, _, hat⟩ := World.cells?_some hc
        obtain ⟨x, hx, hr, hin⟩ := open_piece ht (hz0.2 k (D k) (by rw [List.getElem?_map, List.getElem?_range (by omega)]; rfl))
        refine ⟨vs ++ [x], by simp [h1], h2.snoc hr, fun y hy => ?_, fun j hj => ?_⟩
        · rcases List.mem_append.1 hy with hy | hy
          · exact h4 y hy
          · rw [List.mem_singleton.1 hy]; exact hin
        · rw [flat3_app]
          have hfl : (flat3 vs).length = k * 3 := by rw [flat3_len, h1]
          rcases Nat.lt_or_ge j (k * 3) with hj2 | hj2
          · rw [List.getElem?_append_left (by omega)]; exact h3 j hj2
          · have e1 : flat3 [x] = x.cells := by simp [flat3]
            rw [List.getElem?_append_right (by omega), hfl, e1, ← hx, ← hat (j - k * 3) (by omega)]
            congr 1
            rw [Go.Deep.add_add]
            congr 1; omega
    obtain ⟨vs, h1, h2, h4, h3⟩ := key len (Nat.le_refl _)
    refine ⟨vs, ⟨some a', cap, by rw [h1], by rw [h1]; exact hl, by unfold maxLen at hm; omega, ?_⟩, h2, h4⟩
    cases vs with
    | nil => exact .inl ⟨rfl, fun e => by cases e⟩
    | cons x xs =>
      refine .inr ?_
      have h0 := h3 0 (by rw [← h1]; simp)
      have e0 : a'.add 0 = a' := rfl
      have hf0 : (flat3 (x :: xs))[0]? = some (.int .i64 x.s.1) := rfl
      rw [e0, hf0] at h0
      obtain ⟨b, off, rfl, hlt⟩ := plain_addr h0
      refine ⟨b, off, rfl, hlt, fun j hj => ?_⟩
      have := h3 j (by rw [← h1]; exact hj)
      have e : (⟨b, off, none⟩ : Addr).add j = ⟨b, off + j, none⟩ := by unfold Addr.add; split <;> simp_all
      rw [e] at this; exact this
/-! ### A row of calls -/
def oflat (l : List Opv) : List Value := l.flatMap Opv.cells
theorem oflat_len (l : List Opv) : (oflat l).length = l.length * 4 := by
  induction l with
  | nil => rfl
  | cons v l ih => simp only [oflat, List.flatMap_cons, List.length_append] at ih ⊢; rw [ih]; simp [Opv.cells]; omega
theorem oflat_snoc (l : List Opv) (v : Opv) : oflat (l ++ [v]) = oflat l ++ v.cells := by simp [oflat]
theorem oflat_at (vs : List Opv) : ∀ (j : Nat) (h : j < vs.length) (f : Nat), f < 4 → (oflat vs)[j * 4 + f]? = (vs[j]).cells[f]? := by
  induction vs with
  | nil => intro j h; cases h
  | cons v vs ih =>
    intro j h f hf
    have e : oflat (v :: vs) = v.cells ++ oflat vs := rfl
    have el : v.cells.length = 4 := rfl
    cases j with
    | zero => rw [e, List.getElem?_append_left (by rw [el]; omega)]; simp
    | succ j =>
      rw [e, List.getElem?_append_right (by rw [el]; omega), el, show (j + 1) * 4 + f - 4 = j * 4 + f by omega]
      exact ih j (by simpa using h) f hf
def OpsAt (l : List Opv) (sl : Value) (w : World) : Prop := ∃ ao cap, sl = .slice ao l.length cap ∧ l.length ≤ cap ∧ cap ≤ 9223372036854775807 ∧ (l ≠ [] → ∃ b off, ao = some ⟨b, off, none⟩ ∧ b < w.heap.size ∧ ∀ j, j < l.length * 4 → w.cell? ⟨b, off + j, none⟩ = (oflat l)[j]?)
def OpRows (l : List Opv) (w : World) : Prop := ∀ o, o ∈ l → RowAt o.x.r o.x.sl w
theorem OpsAt.later {l : List Opv} {sl : Value} {w w' : World} {n : Nat} (h : OpsAt l sl w) (hb : Below n w w') (hn : w.heap.size ≤ n) : OpsAt l sl w' := by
  obtain ⟨ao, cap, h1, hc, hm, h2⟩ := h
  refine ⟨ao, cap, h1, hc, hm, fun hne => ?_⟩
  obtain ⟨b, off, h3, h4, h5⟩ := h2 hne
  exact ⟨b, off, h3, Nat.lt_of_lt_of_le h4 hb.size, fun j hj => by rw [hb.cell (p := ⟨b, off + j, none⟩) (Nat.lt_of_lt_of_le h4 hn)]; exact h5 j hj⟩
theorem OpRows.later {l : List Opv} {w w' : World} (h : OpRows l w) (hb : Below w.heap.size w w') : OpRows l w' := fun o ho => (h o ho).later hb
theorem OpsAt.form {l : List Opv} {sl : Value} {w : World} (h : OpsAt l sl w) : ∃ ao cap, sl = .slice ao l.length cap ∧ l.length ≤ cap ∧ cap ≤ 9223372036854775807 := by
  obtain ⟨ao, cap, h1, hc, hm, _⟩ := h
  exact ⟨ao, cap, h1, hc, hm⟩
theorem OpsAt.at {l : List Opv} {sl : Value} {w : World} (h : OpsAt l sl w) (i : Nat) (hi : i < l.length) : ∃ b off cap, sl = .slice (some ⟨b, off, none⟩) l.length cap ∧ b < w.heap.size ∧
    w.cell? ⟨b, off + i * 4, none⟩ = some (.bool (l[i]).d) ∧ w.cell? ⟨b, off + i * 4 + 1, none⟩ = some (.int .i64 (l[i]).x.s.1) ∧ w.cell? ⟨b, off + i * 4 + 2, none⟩ = some (.int .i64 (l[i]).x.s.2) ∧ w.cell? ⟨b, off + i * 4 + 3, none⟩ = some (.slice (l[i]).x.ro (l[i]).x.r.length (l[i]).x.rc) := by
  obtain ⟨ao, cap, h1, _, _, h2⟩ := h
  obtain ⟨b, off, rfl, h4, h5⟩ := h2 (fun e => by rw [e] at hi; cases hi)
  refine ⟨b, off, cap, h1, h4, ?_, ?_, ?_, ?_⟩
  · have := h5 (i * 4 + 0) (by omega); rw [oflat_at l i hi 0 (by omega)] at this; exact this
  · have := h5 (i * 4 + 1) (by omega); rw [oflat_at l i hi 1 (by omega)] at this; exact this
  · have := h5 (i * 4 + 2) (by omega); rw [oflat_at l i hi 2 (by omega)] at this; exact this
  · have := h5 (i * 4 + 3) (by omega); rw [oflat_at l i hi 3 (by omega)] at this; exact this
set_option maxRecDepth 100000 in
theorem open_ops {v : Value} {d : DataW H} {p : List MemPlace} {r : Reach} {b0 : Nat} (hok : Value.okWide Try.prog W r b0 50 v) (h : DataW.Trod enc Try.prog W base sp held 50 v d p) (hz : Cod.Sz 50 d) :
    ∃ l : List Opv, OpsAt l v W ∧ OpRows l W ∧ ∀ o ∈ l, o.x.inn := by
  obtain ⟨a, len, cap, rfl⟩ := okWide_slice Try.underlying50 hok
  obtain ⟨fuel, hf⟩ := h
  rcases open_slice Try.underlying50 hf with ⟨hcs, _⟩ | ⟨a', len', cap', m, n, D, Pl, hcs, hb, hl, hm, hmm, hxx, hi⟩
  · have hcs' : [Value.slice a len cap] = [.slice none 0 0] := hcs
    simp only [List.cons.injEq, Value.slice.injEq, and_true] at hcs'
    obtain ⟨rfl, rfl, rfl⟩ := hcs'
    exact ⟨[], ⟨none, 0, rfl, Nat.le_refl _, by omega, fun hne => absurd rfl hne⟩, (fun o ho => by cases ho), by simp⟩
  · have hcs' : [Value.slice a len cap] = [.slice (some a') len' cap'] := hcs
    simp only [List.cons.injEq, Value.slice.injEq, and_true] at hcs'
    obtain ⟨rfl, rfl, rfl⟩ := hcs'
    have hz0 := Cod.sz_slice Try.underlying50 (by rw [show d = _ from congrArg Prod.fst hxx] at hz; exact hz)
    have hle : len ≤ m := by rw [hmm]; split <;> omega
    rw [cO3] at hi
    have key : ∀ k, k ≤ len → ∃ vs : List Opv, vs.length = k ∧ OpRows vs W ∧ (∀ o ∈ vs, o.x.inn) ∧ ∀ j, j < k * 4 → W.cell? (a'.add j) = (oflat vs)[j]? := by
      intro k
      induction k with
      | zero => intro _; exact ⟨[], rfl, fun o ho => (by cases ho), by simp, fun j hj => by omega⟩
      | succ k ih =>
        intro hk
        obtain ⟨vs, h1, h2, h4, h3⟩ := ih (by omega)
        obtain ⟨cs', hc, ht⟩ := hi k (by omega)
        obtain ⟨_, _, hat⟩ := World.cells?_some hc
        obtain ⟨x, hx, hr, hin⟩ := open_op1 ht (hz0.2 k (D k) (by rw [List.getElem?_map, List.getElem?_range (by omega)]; rfl))
        refine ⟨vs ++ [x], by simp [h1], fun y hy => ?_, fun y hy => ?_, fun j hj => ?_⟩
        · rcases List.mem_append.1 hy with hy | hy
          · exact h2 y hy
          · rw [List.mem_singleton.1 hy]; exact hr
        · rcases List.mem_append.1 hy with hy | hy
          · exact h4 y hy
          · rw [List.mem_singleton.1 hy]; exact hin
        · rw [oflat_snoc]
          have hfl : (oflat vs).length = k * 4 := by rw [oflat_len, h1]
          rcases Nat.lt_or_ge j (k * 4) with hj2 | hj2
          · rw [List.getElem?_append_left (by omega)]; exact h3 j hj2
          · rw [List.getElem?_append_right (by omega), hfl, ← hx, ← hat (j - k * 4) (by omega)]
            congr 1
            rw [Go.Deep.add_add]
            congr 1; omega
    obtain ⟨vs, h1, h2, h4, h3⟩ := key len (Nat.le_refl _)
    refine ⟨vs, ⟨some a', cap, by rw [h1], by rw [h1]; exact hl, by unfold maxLen at hm; omega, fun hne => ?_⟩, h2, h4⟩
    obtain ⟨x, xs, rfl⟩ := List.exists_cons_of_ne_nil hne
    have h0 := h3 0 (by rw [← h1]; simp)
    have e0 : a'.add 0 = a' := rfl
    have hf0 : (oflat (x :: xs))[0]? = some (.bool x.d) := rfl
    rw [e0, hf0] at h0
    obtain ⟨b, off, rfl, hlt⟩ := plain_addr h0
    refine ⟨b, off, rfl, hlt, fun j hj => ?_⟩
    have := h3 j (by rw [← h1]; exact hj)
    have e : (⟨b, off, none⟩ : Addr).add j = ⟨b, off + j, none⟩ := by unfold Addr.add; split <;> simp_all
    rw [e] at this; exact this
end
end Prd
end Go.Proofs.Ytoacombaddknfaa
