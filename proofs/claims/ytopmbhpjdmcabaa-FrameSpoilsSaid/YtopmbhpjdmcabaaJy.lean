/- Schemas and rows as arguments: opened to what they hold. No condition. -/
import Derived.Test.YtopmbhpjdmcabaaFra
import Derived.Test.YtopmbhpjdmcabaaJp
import Derived.Test.YtopmbhpjdmcabaaJc
import Derived.Deep.Slices
import Derived.Carry
namespace Go.Proofs.Ytopmbhpjdmcabaa
open Go.ChangeShapes Go.WideShapes Go.ChangeAt Go.RowKit Go.Deep
namespace Sch
open Cod
section
variable {H : Type} {enc : TypeId × Value → H} {W : World} {base : Nat} {sp : Nat → Bool} {held : Bool}
theorem cV : Try.prog.cellsOf 33 = 4 := by kernel_rfl
theorem cI : Try.prog.cellsOf 3 = 1 := by kernel_rfl
theorem cU : Try.prog.cellsOf 31 = 1 := by kernel_rfl
theorem cS : Try.prog.cellsOf 9 = 1 := by kernel_rfl
/-- The bounds of a value that came in. -/
structure Vin (v : V) : Prop where
  k0 : -9223372036854775808 ≤ v.k
  k1 : v.k ≤ 9223372036854775807
  n0 : -9223372036854775808 ≤ v.n
  n1 : v.n ≤ 9223372036854775807
  b : v.b < 18446744073709551616
set_option maxRecDepth 100000 in
theorem open_one {fuel : Nat} {cs : List Value} {x : DataW H × List MemPlace} (h : DataW.trod enc Try.prog W base sp held fuel 33 cs = some x) : ∃ v : V, cs = v.cells ∧ Vin v := by
  obtain ⟨xs, n, _, _, hlen, hxl, hf⟩ := DataW.trod_struct Try.underlying33 h
  rw [cV] at hlen
  match cs, hlen with
  | [c0, c1, c2, c3], _ =>
    match xs, hxl with
    | [y0, y1, y2, y3], _ =>
      have a0 : DataW.trod enc Try.prog W base sp held n 3 (([c0, c1, c2, c3].drop 0).take (Try.prog.cellsOf 3)) = some y0 := hf 0 _ rfl
      have a1 : DataW.trod enc Try.prog W base sp held n 3 (([c0, c1, c2, c3].drop 1).take (Try.prog.cellsOf 3)) = some y1 := hf 1 _ rfl
      have a2 : DataW.trod enc Try.prog W base sp held n 31 (([c0, c1, c2, c3].drop 2).take (Try.prog.cellsOf 31)) = some y2 := hf 2 _ rfl
      have a3 : DataW.trod enc Try.prog W base sp held n 9 (([c0, c1, c2, c3].drop 3).take (Try.prog.cellsOf 9)) = some y3 := hf 3 _ rfl
      rw [cI] at a0 a1
      rw [cU] at a2
      rw [cS] at a3
      have g0 : DataW.trod enc Try.prog W base sp held n 3 [c0] = some y0 := a0
      have g1 : DataW.trod enc Try.prog W base sp held n 3 [c1] = some y1 := a1
      have g2 : DataW.trod enc Try.prog W base sp held n 31 [c2] = some y2 := a2
      have g3 : DataW.trod enc Try.prog W base sp held n 9 [c3] = some y3 := a3
      obtain ⟨k, e0, _, w0⟩ := DataW.trod_int Try.underlying3 g0
      obtain ⟨m, e1, _, w1⟩ := DataW.trod_int Try.underlying3 g1
      obtain ⟨b, e2, _, w2⟩ := DataW.trod_int Try.underlying31 g2
      obtain ⟨s, e3, _, w3⟩ := DataW.trod_string Try.underlying9 g3
      simp only [List.cons.injEq, and_true] at e0 e1 e2 e3
      subst e0 e1 e2 e3
      have bk := bounds_i64 w0
      have bm := bounds_i64 w1
      have bb := bounds_u64 w2
      obtain ⟨b', rfl⟩ := Int.eq_ofNat_of_zero_le bb.1
      refine ⟨⟨k, m, b', s.data.toList⟩, ?_, ⟨bk.1, bk.2, bm.1, bm.2, by show b' < _; omega⟩⟩
      unfold V.cells
      simp only [S_of]
set_option maxRecDepth 100000 in
theorem open_row {v : Value} {d : DataW H} {p : List MemPlace} {r : Reach} {b0 : Nat} (hok : Value.okWide Try.prog W r b0 25 v) (h : DataW.Trod enc Try.prog W base sp held 25 v d p) :
    ∃ vs : List V, RowC vs v W ∧ (∀ x ∈ vs, Vin x) ∧ vs.length ≤ 9223372036854775807 := by
  obtain ⟨a, len, cap, rfl⟩ := okWide_slice Try.underlying25 hok
  obtain ⟨fuel, hf⟩ := h
  rcases open_slice Try.underlying25 hf with ⟨hcs, _⟩ | ⟨a', len', cap', m, n, D, Pl, hcs, hb, hl, hm, hmm, _, hi⟩
  · have hcs' : [Value.slice a len cap] = [.slice none 0 0] := hcs
    simp only [List.cons.injEq, Value.slice.injEq, and_true] at hcs'
    obtain ⟨rfl, rfl, rfl⟩ := hcs'
    exact ⟨[], RowC.nil _, by simp, by simp⟩
  · have hcs' : [Value.slice a len cap] = [.slice (some a') len' cap'] := hcs
    simp only [List.cons.injEq, Value.slice.injEq, and_true] at hcs'
    obtain ⟨rfl, rfl, rfl⟩ := hcs'
    have hle : len ≤ m := by rw [hmm]; split <;> omega
    rw [cV] at hi
    have key : ∀ k, k ≤ len → ∃ vs : List V, vs.length = k ∧ (∀ x ∈ vs, Vin x) ∧ ∀ j, j < k * 4 → W.cell? (a'.add j) = (flat vs)[j]? := by
      intro k
      induction k with
      | zero => intro _; exact ⟨[], rfl, by simp, fun j hj => by omega⟩
      | succ k ih =>
        intro hk
        obtain ⟨vs, h1, h2, h3⟩ := ih (by omega)
        obtain ⟨cs', hc, ht⟩ := hi k (by omega)
        obtain ⟨_, _, hat⟩ := World.cells?_some hc
        obtain ⟨x, hx, hin⟩ := open_one ht
        refine ⟨vs ++ [x], by simp [h1], ?_, fun j hj => ?_⟩
        · intro y hy
          rcases List.mem_append.1 hy with hy | hy
          · exact h2 y hy
          · simp only [List.mem_singleton] at hy; rw [hy]; exact hin
        · rw [flat_snoc]
          have hfl : (flat vs).length = k * 4 := by rw [flat_len, h1]
          rcases Nat.lt_or_ge j (k * 4) with hj2 | hj2
          · rw [List.getElem?_append_left (by omega)]; exact h3 j hj2
          · rw [List.getElem?_append_right (by omega), hfl, ← hx, ← hat (j - k * 4) (by omega)]
            congr 1
            rw [Go.Deep.add_add]
            congr 1; omega
    obtain ⟨vs, h1, h2, h3⟩ := key len (Nat.le_refl _)
    refine ⟨vs, ⟨⟨some a', cap, by rw [h1], fun hne => ?_⟩, some a', cap, by rw [h1], by rw [h1]; exact hl, by unfold maxLen at hm; omega, fun e => by cases e⟩, h2, by rw [h1]; unfold maxLen at hm; omega⟩
    have hpos : 0 < vs.length := List.length_pos_iff.2 hne
    obtain ⟨x, xs, rfl⟩ := List.exists_cons_of_ne_nil hne
    have h0 := h3 0 (by rw [← h1]; omega)
    have e0 : a'.add 0 = a' := rfl
    have hf0 : (flat (x :: xs))[0]? = some (.int .i64 x.k) := rfl
    rw [e0, hf0] at h0
    obtain ⟨b, off, spot⟩ := a'
    have hlt : b < W.heap.size := World.block_lt_of_cell? W _ h0
    have hs : spot = none := by
      unfold World.cell? at h0
      simp only at h0
      split at h0
      · split at h0
        · cases h0
        · rename_i hns; cases spot with
          | none => rfl
          | some q => simp at hns
      · cases h0
    subst hs
    refine ⟨b, off, rfl, hlt, fun j hj => ?_⟩
    have := h3 j (by rw [← h1]; exact hj)
    have e : (⟨b, off, none⟩ : Addr).add j = ⟨b, off + j, none⟩ := by unfold Addr.add; split <;> simp_all
    rw [e] at this; exact this
theorem cC : Try.prog.cellsOf 58 = 3 := by kernel_rfl
theorem cB : Try.prog.cellsOf 4 = 1 := by kernel_rfl
structure C.inn (c : C) : Prop where
  k0 : -9223372036854775808 ≤ c.k
  k1 : c.k ≤ 9223372036854775807
set_option maxRecDepth 100000 in
theorem open_col {fuel : Nat} {cs : List Value} {x : DataW H × List MemPlace} (h : DataW.trod enc Try.prog W base sp held fuel 58 cs = some x) : ∃ v : C, cs = v.cells ∧ v.inn := by
  obtain ⟨xs, n, _, _, hlen, hxl, hf⟩ := DataW.trod_struct Try.underlying58 h
  rw [cC] at hlen
  match cs, hlen with
  | [c0, c1, c2], _ =>
    match xs, hxl with
    | [y0, y1, y2], _ =>
      have a0 : DataW.trod enc Try.prog W base sp held n 9 (([c0, c1, c2].drop 0).take (Try.prog.cellsOf 9)) = some y0 := hf 0 _ rfl
      have a1 : DataW.trod enc Try.prog W base sp held n 3 (([c0, c1, c2].drop 1).take (Try.prog.cellsOf 3)) = some y1 := hf 1 _ rfl
      have a2 : DataW.trod enc Try.prog W base sp held n 4 (([c0, c1, c2].drop 2).take (Try.prog.cellsOf 4)) = some y2 := hf 2 _ rfl
      rw [cS] at a0
      rw [cI] at a1
      rw [cB] at a2
      have g0 : DataW.trod enc Try.prog W base sp held n 9 [c0] = some y0 := a0
      have g1 : DataW.trod enc Try.prog W base sp held n 3 [c1] = some y1 := a1
      have g2 : DataW.trod enc Try.prog W base sp held n 4 [c2] = some y2 := a2
      obtain ⟨s, e0, _, w0⟩ := DataW.trod_string Try.underlying9 g0
      obtain ⟨k, e1, _, w1⟩ := DataW.trod_int Try.underlying3 g1
      obtain ⟨b, e2, _⟩ := DataW.trod_bool Try.underlying4 g2
      simp only [List.cons.injEq, and_true] at e0 e1 e2
      subst e0 e1 e2
      have bk := bounds_i64 w1
      refine ⟨⟨s.data.toList, k, b⟩, ?_, ⟨bk.1, bk.2⟩⟩
      unfold C.cells
      simp only [S_of]
set_option maxRecDepth 100000 in
theorem open_cols {fuel : Nat} {v : Value} {x : DataW H × List MemPlace} (hf : DataW.trod enc Try.prog W base sp held fuel 22 [v] = some x) :
    ∃ vs : List C, ColsAt vs v W ∧ (∀ x ∈ vs, x.inn) ∧ vs.length ≤ 9223372036854775807 := by
  rcases open_slice Try.underlying22 hf with ⟨hcs, _⟩ | ⟨a', len, cap, m, n, D, Pl, hcs, hb, hl, hm, hmm, _, hi⟩
  · simp only [List.cons.injEq, and_true] at hcs
    subst hcs
    exact ⟨[], ColsAt.nil _, by simp, by simp⟩
  · simp only [List.cons.injEq, and_true] at hcs
    subst hcs
    have hle : len ≤ m := by rw [hmm]; split <;> omega
    rw [cC] at hi
    have key : ∀ k, k ≤ len → ∃ vs : List C, vs.length = k ∧ (∀ x ∈ vs, x.inn) ∧ ∀ j, j < k * 3 → W.cell? (a'.add j) = (cflat vs)[j]? := by
      intro k
      induction k with
      | zero => intro _; exact ⟨[], rfl, by simp, fun j hj => by omega⟩
      | succ k ih =>
        intro hk
        obtain ⟨vs, h1, h2, h3⟩ := ih (by omega)
        obtain ⟨cs', hc, ht⟩ := hi k (by omega)
        obtain ⟨_, _, hat⟩ := World.cells?_some hc
        obtain ⟨x, hx, hin⟩ := open_col ht
        refine ⟨vs ++ [x], by simp [h1], ?_, fun j hj => ?_⟩
        · intro y hy
          rcases List.mem_append.1 hy with hy | hy
          · exact h2 y hy
          · simp only [List.mem_singleton] at hy; rw [hy]; exact hin
        · rw [cflat_snoc]
          have hfl : (cflat vs).length = k * 3 := by rw [cflat_len, h1]
          rcases Nat.lt_or_ge j (k * 3) with hj2 | hj2
          · rw [List.getElem?_append_left (by omega)]; exact h3 j hj2
          · rw [List.getElem?_append_right (by omega), hfl, ← hx, ← hat (j - k * 3) (by omega)]
            congr 1
            rw [Go.Deep.add_add]
            congr 1; omega
    obtain ⟨vs, h1, h2, h3⟩ := key len (Nat.le_refl _)
    refine ⟨vs, ⟨some a', cap, by rw [h1], by rw [h1]; exact hl, by unfold maxLen at hm; omega, fun hne => ?_⟩, h2, by rw [h1]; unfold maxLen at hm; omega⟩
    have hpos : 0 < vs.length := List.length_pos_iff.2 hne
    obtain ⟨x, xs, rfl⟩ := List.exists_cons_of_ne_nil hne
    have h0 := h3 0 (by rw [← h1]; omega)
    have e0 : a'.add 0 = a' := rfl
    have hf0 : (cflat (x :: xs))[0]? = some (.string (S x.nm)) := rfl
    rw [e0, hf0] at h0
    obtain ⟨b, off, spot⟩ := a'
    have hlt : b < W.heap.size := World.block_lt_of_cell? W _ h0
    have hs : spot = none := by
      unfold World.cell? at h0
      simp only at h0
      split at h0
      · split at h0
        · cases h0
        · rename_i hns; cases spot with
          | none => rfl
          | some q => simp at hns
      · cases h0
    subst hs
    refine ⟨b, off, rfl, hlt, fun j hj => ?_⟩
    have := h3 j (by rw [← h1]; exact hj)
    have e : (⟨b, off, none⟩ : Addr).add j = ⟨b, off + j, none⟩ := by unfold Addr.add; split <;> simp_all
    rw [e] at this; exact this
structure T.inn (s : T) : Prop where
  k0 : -9223372036854775808 ≤ s.keys
  k1 : s.keys ≤ 9223372036854775807
  n : s.cols.length ≤ 9223372036854775807
  cs : ∀ c ∈ s.cols, c.inn
set_option maxRecDepth 100000 in
theorem open_three {fuel : Nat} {v0 v1 v2 : Value} {y0 y1 y2 : DataW H × List MemPlace} (g0 : DataW.trod enc Try.prog W base sp held fuel 9 [v0] = some y0) (g1 : DataW.trod enc Try.prog W base sp held fuel 22 [v1] = some y1) (g2 : DataW.trod enc Try.prog W base sp held fuel 3 [v2] = some y2) :
    ∃ s : T, v0 = .string (S s.nm) ∧ v2 = .int .i64 s.keys ∧ ColsAt s.cols v1 W ∧ s.inn := by
  obtain ⟨st, e0, _, w0⟩ := DataW.trod_string Try.underlying9 g0
  obtain ⟨k, e2, _, w2⟩ := DataW.trod_int Try.underlying3 g2
  obtain ⟨cs, hc, hin, hl⟩ := open_cols g1
  simp only [List.cons.injEq, and_true] at e0 e2
  have bk := bounds_i64 w2
  exact ⟨⟨st.data.toList, cs, k⟩, by rw [e0, S_of], e2, hc, ⟨bk.1, bk.2, hl, hin⟩⟩
set_option maxRecDepth 100000 in
theorem open_schema {v : Value} {d : DataW H} {p : List MemPlace} {r : Reach} {b0 : Nat} (hok : Value.okWide Try.prog W r b0 24 v) (h : DataW.Trod enc Try.prog W base sp held 24 v d p) :
    ∃ (s : T) (sl : Value), v = .agg #[.string (S s.nm), sl, .int .i64 s.keys] ∧ ColsAt s.cols sl W ∧ s.inn := by
  obtain ⟨v0, v1, v2, y0, y1, y2, n, rfl, _, _, g0, g1, g2⟩ := Go.Joins.open_agg3 Try.underlying24 (by kernel_rfl) (by kernel_rfl) hok h
  obtain ⟨s, rfl, rfl, hc, hin⟩ := open_three g0 g1 g2
  exact ⟨s, v1, rfl, hc, hin⟩
end
end Sch
end Go.Proofs.Ytopmbhpjdmcabaa
