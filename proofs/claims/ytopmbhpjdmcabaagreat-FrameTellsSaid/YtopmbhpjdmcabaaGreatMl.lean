/- Schemas and rows as arguments: opened to what they hold. No condition. -/
/- Changes and transactions as arguments: opened to what they hold, within the sizes that an argument has. No condition. -/
import Derived.Test.YtopmbhpjdmcabaaGreatFra
import Derived.Test.YtopmbhpjdmcabaaGreatMb
import Derived.Test.YtopmbhpjdmcabaaGreatMa
import Derived.Deep.Slices
import Derived.Carry
import Derived.Test.YtopmbhpjdmcabaaGreatGb
import Derived.SizedLaws
namespace Go.Proofs.YtopmbhpjdmcabaaGreat
open Go.ChangeShapes Go.WideShapes Go.ChangeAt Go.RowKit Go.Deep
namespace Sch
open Cod
section
variable {H : Type} {enc : TypeId × Value → H} {W : World} {base : Nat} {sp : Nat → Bool} {held : Bool}
theorem cV : Tryz.prog.cellsOf 52 = 4 := by kernel_rfl
theorem cI : Tryz.prog.cellsOf 3 = 1 := by kernel_rfl
theorem cU : Tryz.prog.cellsOf 50 = 1 := by kernel_rfl
theorem cS : Tryz.prog.cellsOf 9 = 1 := by kernel_rfl
/-- The bounds of a value that came in. -/
structure Vin (v : V) : Prop where
  k0 : -9223372036854775808 ≤ v.k
  k1 : v.k ≤ 9223372036854775807
  n0 : -9223372036854775808 ≤ v.n
  n1 : v.n ≤ 9223372036854775807
  b : v.b < 18446744073709551616
set_option maxRecDepth 100000 in
theorem open_one {fuel : Nat} {cs : List Value} {x : DataW H × List MemPlace} (h : DataW.trod enc Tryz.prog W base sp held fuel 52 cs = some x) : ∃ v : V, cs = v.cells ∧ Vin v := by
  obtain ⟨xs, n, _, _, hlen, hxl, hf⟩ := DataW.trod_struct Tryz.underlying52 h
  rw [cV] at hlen
  match cs, hlen with
  | [c0, c1, c2, c3], _ =>
    match xs, hxl with
    | [y0, y1, y2, y3], _ =>
      have a0 : DataW.trod enc Tryz.prog W base sp held n 3 (([c0, c1, c2, c3].drop 0).take (Tryz.prog.cellsOf 3)) = some y0 := hf 0 _ rfl
      have a1 : DataW.trod enc Tryz.prog W base sp held n 3 (([c0, c1, c2, c3].drop 1).take (Tryz.prog.cellsOf 3)) = some y1 := hf 1 _ rfl
      have a2 : DataW.trod enc Tryz.prog W base sp held n 50 (([c0, c1, c2, c3].drop 2).take (Tryz.prog.cellsOf 50)) = some y2 := hf 2 _ rfl
      have a3 : DataW.trod enc Tryz.prog W base sp held n 9 (([c0, c1, c2, c3].drop 3).take (Tryz.prog.cellsOf 9)) = some y3 := hf 3 _ rfl
      rw [cI] at a0 a1
      rw [cU] at a2
      rw [cS] at a3
      have g0 : DataW.trod enc Tryz.prog W base sp held n 3 [c0] = some y0 := a0
      have g1 : DataW.trod enc Tryz.prog W base sp held n 3 [c1] = some y1 := a1
      have g2 : DataW.trod enc Tryz.prog W base sp held n 50 [c2] = some y2 := a2
      have g3 : DataW.trod enc Tryz.prog W base sp held n 9 [c3] = some y3 := a3
      obtain ⟨k, e0, _, w0⟩ := DataW.trod_int Tryz.underlying3 g0
      obtain ⟨m, e1, _, w1⟩ := DataW.trod_int Tryz.underlying3 g1
      obtain ⟨b, e2, _, w2⟩ := DataW.trod_int Tryz.underlying50 g2
      obtain ⟨s, e3, _, w3⟩ := DataW.trod_string Tryz.underlying9 g3
      simp only [List.cons.injEq, and_true] at e0 e1 e2 e3
      subst e0 e1 e2 e3
      have bk := bounds_i64 w0
      have bm := bounds_i64 w1
      have bb := bounds_u64 w2
      obtain ⟨b', rfl⟩ := Int.eq_ofNat_of_zero_le bb.1
      refine ⟨⟨k, m, b', s.data.toList⟩, ?_, ⟨bk.1, bk.2, bm.1, bm.2, by show b' < _; omega⟩⟩
      unfold V.cells
      simp only [S_of]
set_option maxRecDepth 100000 in
theorem open_row {v : Value} {d : DataW H} {p : List MemPlace} {r : Reach} {b0 : Nat} (hok : Value.okWide Tryz.prog W r b0 25 v) (h : DataW.Trod enc Tryz.prog W base sp held 25 v d p) :
    ∃ vs : List V, RowC vs v W ∧ (∀ x ∈ vs, Vin x) ∧ vs.length ≤ 9223372036854775807 := by
  obtain ⟨a, len, cap, rfl⟩ := okWide_slice Tryz.underlying25 hok
  obtain ⟨fuel, hf⟩ := h
  rcases open_slice Tryz.underlying25 hf with ⟨hcs, _⟩ | ⟨a', len', cap', m, n, D, Pl, hcs, hb, hl, hm, hmm, _, hi⟩
  · have hcs' : [Value.slice a len cap] = [.slice none 0 0] := hcs
    simp only [List.cons.injEq, Value.slice.injEq, and_true] at hcs'
    obtain ⟨rfl, rfl, rfl⟩ := hcs'
    exact ⟨[], RowC.nil _, by simp, by simp⟩
  · have hcs' : [Value.slice a len cap] = [.slice (some a') len' cap'] := hcs
    simp only [List.cons.injEq, Value.slice.injEq, and_true] at hcs'
    obtain ⟨rfl, rfl, rfl⟩ := hcs'
    have hle : len ≤ m := by rw [hmm]; split <;> omega
    rw [cV] at hi
    have key : ∀ k, k ≤ len → ∃ vs : List V, vs.length = k ∧ (∀ x ∈ vs, Vin x) ∧ ∀ j, j < k * 4 → W.cell? (a'.add j) = (flat vs)[j]? := by
      intro k
      induction k with
      | zero => intro _; exact ⟨[], rfl, by simp, fun j hj => by omega⟩
      | succ k ih =>
        intro hk
        obtain ⟨vs, h1, h2, h3⟩ := ih (by omega)
        obtain ⟨cs', hc, ht⟩ := hi k (by omega)
        obtain ⟨_, _, hat⟩ := World.cells?_some hc
        obtain ⟨x, hx, hin⟩ := open_one ht
        refine ⟨vs ++ [x], by simp [h1], ?_, fun j hj => ?_⟩
        · intro y hy
          rcases List.mem_append.1 hy with hy | hy
          · exact h2 y hy
          · simp only [List.mem_singleton] at hy; rw [hy]; exact hin
        · rw [flat_snoc]
          have hfl : (flat vs).length = k * 4 := by rw [flat_len, h1]
          rcases Nat.lt_or_ge j (k * 4) with hj2 | hj2
          · rw [List.getElem?_append_left (by omega)]; exact h3 j hj2
          · rw [List.getElem?_append_right (by omega), hfl, ← hx, ← hat (j - k * 4) (by omega)]
            congr 1
            rw [Go.Deep.add_add]
            congr 1; omega
    obtain ⟨vs, h1, h2, h3⟩ := key len (Nat.le_refl _)
    refine ⟨vs, ⟨⟨some a', cap, by rw [h1], fun hne => ?_⟩, some a', cap, by rw [h1], by rw [h1]; exact hl, by unfold maxLen at hm; omega, fun e => by cases e⟩, h2, by rw [h1]; unfold maxLen at hm; omega⟩
    have hpos : 0 < vs.length := List.length_pos_iff.2 hne
    obtain ⟨x, xs, rfl⟩ := List.exists_cons_of_ne_nil hne
    have h0 := h3 0 (by rw [← h1]; omega)
    have e0 : a'.add 0 = a' := rfl
    have hf0 : (flat (x :: xs))[0]? = some (.int .i64 x.k) := rfl
    rw [e0, hf0] at h0
    obtain ⟨b, off, spot⟩ := a'
    have hlt : b < W.heap.size := World.block_lt_of_cell? W _ h0
    have hs : spot = none := by
      unfold World.cell? at h0
      simp only at h0
      split at h0
      · split at h0
        · cases h0
        · rename_i hns; cases spot with
          | none => rfl
          | some q => simp at hns
      · cases h0
    subst hs
    refine ⟨b, off, rfl, hlt, fun j hj => ?_⟩
    have := h3 j (by rw [← h1]; exact hj)
    have e : (⟨b, off, none⟩ : Addr).add j = ⟨b, off + j, none⟩ := by unfold Addr.add; split <;> simp_all
    rw [e] at this; exact this
theorem cC : Tryz.prog.cellsOf 81 = 3 := by kernel_rfl
theorem cB : Tryz.prog.cellsOf 4 = 1 := by kernel_rfl
structure C.inn (c : C) : Prop where
  k0 : -9223372036854775808 ≤ c.k
  k1 : c.k ≤ 9223372036854775807
set_option maxRecDepth 100000 in
theorem open_col {fuel : Nat} {cs : List Value} {x : DataW H × List MemPlace} (h : DataW.trod enc Tryz.prog W base sp held fuel 81 cs = some x) : ∃ v : C, cs = v.cells ∧ v.inn := by
  obtain ⟨xs, n, _, _, hlen, hxl, hf⟩ := DataW.trod_struct Tryz.underlying81 h
  rw [cC] at hlen
  match cs, hlen with
  | [c0, c1, c2], _ =>
    match xs, hxl with
    | [y0, y1, y2], _ =>
      have a0 : DataW.trod enc Tryz.prog W base sp held n 9 (([c0, c1, c2].drop 0).take (Tryz.prog.cellsOf 9)) = some y0 := hf 0 _ rfl
      have a1 : DataW.trod enc Tryz.prog W base sp held n 3 (([c0, c1, c2].drop 1).take (Tryz.prog.cellsOf 3)) = some y1 := hf 1 _ rfl
      have a2 : DataW.trod enc Tryz.prog W base sp held n 4 (([c0, c1, c2].drop 2).take (Tryz.prog.cellsOf 4)) = some y2 := hf 2 _ rfl
      rw [cS] at a0
      rw [cI] at a1
      rw [cB] at a2
      have g0 : DataW.trod enc Tryz.prog W base sp held n 9 [c0] = some y0 := a0
      have g1 : DataW.trod enc Tryz.prog W base sp held n 3 [c1] = some y1 := a1
      have g2 : DataW.trod enc Tryz.prog W base sp held n 4 [c2] = some y2 := a2
      obtain ⟨s, e0, _, w0⟩ := DataW.trod_string Tryz.underlying9 g0
      obtain ⟨k, e1, _, w1⟩ := DataW.trod_int Tryz.underlying3 g1
      obtain ⟨b, e2, _⟩ := DataW.trod_bool Tryz.underlying4 g2
      simp only [List.cons.injEq, and_true] at e0 e1 e2
      subst e0 e1 e2
      have bk := bounds_i64 w1
      refine ⟨⟨s.data.toList, k, b⟩, ?_, ⟨bk.1, bk.2⟩⟩
      unfold C.cells
      simp only [S_of]
set_option maxRecDepth 100000 in
theorem open_cols {fuel : Nat} {v : Value} {x : DataW H × List MemPlace} (hf : DataW.trod enc Tryz.prog W base sp held fuel 28 [v] = some x) :
    ∃ vs : List C, ColsAt vs v W ∧ (∀ x ∈ vs, x.inn) ∧ vs.length ≤ 9223372036854775807 := by
  rcases open_slice Tryz.underlying28 hf with ⟨hcs, _⟩ | ⟨a', len, cap, m, n, D, Pl, hcs, hb, hl, hm, hmm, _, hi⟩
  · simp only [List.cons.injEq, and_true] at hcs
    subst hcs
    exact ⟨[], ColsAt.nil _, by simp, by simp⟩
  · simp only [List.cons.injEq, and_true] at hcs
    subst hcs
    have hle : len ≤ m := by rw [hmm]; split <;> omega
    rw [cC] at hi
    have key : ∀ k, k ≤ len → ∃ vs : List C, vs.length = k ∧ (∀ x ∈ vs, x.inn) ∧ ∀ j, j < k * 3 → W.cell? (a'.add j) = (cflat vs)[j]? := by
      intro k
      induction k with
      | zero => intro _; exact ⟨[], rfl, by simp, fun j hj => by omega⟩
      | succ k ih =>
        intro hk
        obtain ⟨vs, h1, h2, h3⟩ := ih (by omega)
        obtain ⟨cs', hc, ht⟩ := hi k (by omega)
        obtain ⟨_, _, hat⟩ := World.cells?_some hc
        obtain ⟨x, hx, hin⟩ := open_col ht
        refine ⟨vs ++ [x], by simp [h1], ?_, fun j hj => ?_⟩
        · intro y hy
          rcases List.mem_append.1 hy with hy | hy
          · exact h2 y hy
          · simp only [List.mem_singleton] at hy; rw [hy]; exact hin
        · rw [cflat_snoc]
          have hfl : (cflat vs).length = k * 3 := by rw [cflat_len, h1]
          rcases Nat.lt_or_ge j (k * 3) with hj2 | hj2
          · rw [List.getElem?_append_left (by omega)]; exact h3 j hj2
          · rw [List.getElem?_append_right (by omega), hfl, ← hx, ← hat (j - k * 3) (by omega)]
            congr 1
            rw [Go.Deep.add_add]
            congr 1; omega
    obtain ⟨vs, h1, h2, h3⟩ := key len (Nat.le_refl _)
    refine ⟨vs, ⟨some a', cap, by rw [h1], by rw [h1]; exact hl, by unfold maxLen at hm; omega, fun hne => ?_⟩, h2, by rw [h1]; unfold maxLen at hm; omega⟩
    have hpos : 0 < vs.length := List.length_pos_iff.2 hne
    obtain ⟨x, xs, rfl⟩ := List.exists_cons_of_ne_nil hne
    have h0 := h3 0 (by rw [← h1]; omega)
    have e0 : a'.add 0 = a' := rfl
    have hf0 : (cflat (x :: xs))[0]? = some (.string (S x.nm)) := rfl
    rw [e0, hf0] at h0
    obtain ⟨b, off, spot⟩ := a'
    have hlt : b < W.heap.size := World.block_lt_of_cell? W _ h0
    have hs : spot = none := by
      unfold World.cell? at h0
      simp only at h0
      split at h0
      · split at h0
        · cases h0
        · rename_i hns; cases spot with
          | none => rfl
          | some q => simp at hns
      · cases h0
    subst hs
    refine ⟨b, off, rfl, hlt, fun j hj => ?_⟩
    have := h3 j (by rw [← h1]; exact hj)
    have e : (⟨b, off, none⟩ : Addr).add j = ⟨b, off + j, none⟩ := by unfold Addr.add; split <;> simp_all
    rw [e] at this; exact this
structure T.inn (s : T) : Prop where
  k0 : -9223372036854775808 ≤ s.keys
  k1 : s.keys ≤ 9223372036854775807
  n : s.cols.length ≤ 9223372036854775807
  cs : ∀ c ∈ s.cols, c.inn
set_option maxRecDepth 100000 in
theorem open_three {fuel : Nat} {v0 v1 v2 : Value} {y0 y1 y2 : DataW H × List MemPlace} (g0 : DataW.trod enc Tryz.prog W base sp held fuel 9 [v0] = some y0) (g1 : DataW.trod enc Tryz.prog W base sp held fuel 28 [v1] = some y1) (g2 : DataW.trod enc Tryz.prog W base sp held fuel 3 [v2] = some y2) :
    ∃ s : T, v0 = .string (S s.nm) ∧ v2 = .int .i64 s.keys ∧ ColsAt s.cols v1 W ∧ s.inn := by
  obtain ⟨st, e0, _, w0⟩ := DataW.trod_string Tryz.underlying9 g0
  obtain ⟨k, e2, _, w2⟩ := DataW.trod_int Tryz.underlying3 g2
  obtain ⟨cs, hc, hin, hl⟩ := open_cols g1
  simp only [List.cons.injEq, and_true] at e0 e2
  have bk := bounds_i64 w2
  exact ⟨⟨st.data.toList, cs, k⟩, by rw [e0, S_of], e2, hc, ⟨bk.1, bk.2, hl, hin⟩⟩
set_option maxRecDepth 100000 in
theorem open_schema {v : Value} {d : DataW H} {p : List MemPlace} {r : Reach} {b0 : Nat} (hok : Value.okWide Tryz.prog W r b0 30 v) (h : DataW.Trod enc Tryz.prog W base sp held 30 v d p) :
    ∃ (s : T) (sl : Value), v = .agg #[.string (S s.nm), sl, .int .i64 s.keys] ∧ ColsAt s.cols sl W ∧ s.inn := by
  obtain ⟨v0, v1, v2, y0, y1, y2, n, rfl, _, _, g0, g1, g2⟩ := Go.Joins.open_agg3 Tryz.underlying30 (by kernel_rfl) (by kernel_rfl) hok h
  obtain ⟨s, rfl, rfl, hc, hin⟩ := open_three g0 g1 g2
  exact ⟨s, v1, rfl, hc, hin⟩
end
end Sch
end Go.Proofs.YtopmbhpjdmcabaaGreat
namespace Go.Proofs.YtopmbhpjdmcabaaGreat
open Go.ChangeShapes Go.WideShapes Go.ChangeAt Go.RowKit Go.Deep
namespace Frm
open Cod Sch
section
variable {H : Type} {enc : TypeId × Value → H} {W : World} {base : Nat} {sp : Nat → Bool} {held : Bool}
theorem cM : Tryz.prog.cellsOf 32 = 8 := by kernel_rfl
theorem cX : Tryz.prog.cellsOf 24 = 3 := by kernel_rfl
theorem cSpan : Tryz.prog.cellsOf 27 = 2 := by kernel_rfl
theorem cT : Tryz.prog.cellsOf 30 = 3 := by kernel_rfl
theorem cL : Tryz.prog.cellsOf 28 = 1 := by kernel_rfl
theorem cR : Tryz.prog.cellsOf 25 = 1 := by kernel_rfl
theorem cQ : Tryz.prog.cellsOf 22 = 1 := by kernel_rfl
/-- All that hangs on it is within the sizes. -/
def Sz (t : TypeId) (d : DataW H) : Prop := ∀ n ∈ d.weights Tryz.prog t, n ≤ reachBytes
theorem sz_field {t u : TypeId} {fs : Array Field} {parts : List (DataW H)} {d : DataW H} {j : Nat} (hu : Tryz.prog.underlying t = some (.struct fs)) (hz : Sz t (.agg parts)) (hf : (fs.toList.map (·.type))[j]? = some u) (hd : parts[j]? = some d) : Sz u d := fun n hn =>
  hz n (by unfold DataW.weights; rw [hu]; exact DataW.weights_mem_each hf hd n hn)
theorem mem_all {e : TypeId} : ∀ {l : List (DataW H)} {i : Nat} {d : DataW H}, l[i]? = some d → ∀ n ∈ d.weights Tryz.prog e, n ∈ DataW.weightsAll Tryz.prog e l
  | [], i, d, h => by simp at h
  | a :: l, 0, d, h => by
    intro n hn
    simp only [List.getElem?_cons_zero, Option.some.injEq] at h
    subst h
    unfold DataW.weightsAll
    exact List.mem_append_left _ hn
  | a :: l, i + 1, d, h => by
    intro n hn
    unfold DataW.weightsAll
    exact List.mem_append_right _ (mem_all (by simpa using h) n hn)
theorem sz_slice {t e : TypeId} {elems spare : List (DataW H)} (hu : Tryz.prog.underlying t = some (.slice e)) (hz : Sz t (.slice elems spare)) : (elems.length + spare.length) * Tryz.prog.bytesOf e ≤ reachBytes ∧ ∀ (i : Nat) (d : DataW H), elems[i]? = some d → Sz e d := by
  refine ⟨hz _ (by unfold DataW.weights; rw [hu]; exact List.mem_cons_self ..), fun i d hd n hn => hz n ?_⟩
  unfold DataW.weights
  rw [hu]
  exact List.mem_cons_of_mem _ (List.mem_append_left _ (mem_all hd n hn))
theorem sz_string {t : TypeId} {b : List UInt8} (hz : Sz (H := H) t (.lit (.string b))) : b.length ≤ 140737488351232 := by
  have := hz b.length (by unfold DataW.weights; exact List.mem_singleton_self _)
  unfold reachBytes at this
  omega
structure InnV (v : V) : Prop where
  i : Vin v
  s : v.s.length ≤ 140737488351232
structure InnC (c : C) : Prop where
  i : c.inn
  nm : c.nm.length ≤ 140737488351232
def InV (_ : V) (_ : World) : Prop := True
def InC (_ : C) (_ : World) : Prop := True
structure InnT (t : T) : Prop where
  k0 : -9223372036854775808 ≤ t.keys
  k1 : t.keys ≤ 9223372036854775807
  nm : t.nm.length ≤ 140737488351232
  n : t.cols.length ≤ 140737488351232
  cs : ∀ c ∈ t.cols, InnC c
structure InnM (x : M) : Prop where
  o0 : -9223372036854775808 ≤ x.c.op
  o1 : x.c.op ≤ 9223372036854775807
  a0 : -9223372036854775808 ≤ x.c.a
  a1 : x.c.a ≤ 9223372036854775807
  z0 : -9223372036854775808 ≤ x.c.z
  z1 : x.c.z ≤ 9223372036854775807
  tb : x.c.tb.length ≤ 140737488351232
  row : ∀ v ∈ x.c.row, InnV v
  rn : x.c.row.length ≤ 140737488351232
  df : InnT x.c.df
abbrev InM (x : M) (w : World) : Prop := x.In w
structure InnX (x : X) : Prop where
  s0 : -9223372036854775808 ≤ x.seq
  s1 : x.seq ≤ 9223372036854775807
  t0 : -9223372036854775808 ≤ x.tm
  t1 : x.tm ≤ 9223372036854775807
  n : x.l.length ≤ 140737488351232
  l : ∀ c ∈ x.l, InnM c
abbrev InX (x : X) (w : World) : Prop := x.In w
theorem leaf_int {fuel : Nat} {v : Value} {y : DataW H × List MemPlace} (g : DataW.trod enc Tryz.prog W base sp held fuel 3 [v] = some y) : ∃ k : Int, v = .int .i64 k ∧ -9223372036854775808 ≤ k ∧ k ≤ 9223372036854775807 := by
  obtain ⟨k, e0, _, w0⟩ := DataW.trod_int Tryz.underlying3 g
  simp only [List.cons.injEq, and_true] at e0
  have bk := bounds_i64 w0
  exact ⟨k, e0, bk.1, bk.2⟩
theorem leaf_str {fuel : Nat} {v : Value} {y : DataW H × List MemPlace} (g : DataW.trod enc Tryz.prog W base sp held fuel 9 [v] = some y) (z : Sz 9 y.1) : ∃ l : List UInt8, v = .string (S l) ∧ l.length ≤ 140737488351232 := by
  obtain ⟨s, e0, hx, _⟩ := DataW.trod_string Tryz.underlying9 g
  simp only [List.cons.injEq, and_true] at e0
  rw [hx] at z
  exact ⟨s.data.toList, by rw [e0, S_of], sz_string z⟩
set_option maxRecDepth 100000 in
theorem open_v {fuel : Nat} {cs : List Value} {x : DataW H × List MemPlace} (h : DataW.trod enc Tryz.prog W base sp held fuel 52 cs = some x) (hz : Sz 52 x.1) : ∃ v : V, cs = v.cells ∧ InV v W ∧ InnV v := by
  obtain ⟨xs, n, _, hx, hlen, hxl, hf⟩ := DataW.trod_struct Tryz.underlying52 h
  rw [cV] at hlen
  rw [hx] at hz
  match cs, hlen with
  | [c0, c1, c2, c3], _ =>
    match xs, hxl with
    | [y0, y1, y2, y3], _ =>
      have a0 : DataW.trod enc Tryz.prog W base sp held n 3 (([c0, c1, c2, c3].drop 0).take (Tryz.prog.cellsOf 3)) = some y0 := hf 0 _ rfl
      rw [cI] at a0
      have g0 : DataW.trod enc Tryz.prog W base sp held n 3 [c0] = some y0 := a0
      have z0 : Sz 3 y0.1 := sz_field (j := 0) Tryz.underlying52 hz rfl rfl
      have a1 : DataW.trod enc Tryz.prog W base sp held n 3 (([c0, c1, c2, c3].drop 1).take (Tryz.prog.cellsOf 3)) = some y1 := hf 1 _ rfl
      rw [cI] at a1
      have g1 : DataW.trod enc Tryz.prog W base sp held n 3 [c1] = some y1 := a1
      have z1 : Sz 3 y1.1 := sz_field (j := 1) Tryz.underlying52 hz rfl rfl
      have a2 : DataW.trod enc Tryz.prog W base sp held n 50 (([c0, c1, c2, c3].drop 2).take (Tryz.prog.cellsOf 50)) = some y2 := hf 2 _ rfl
      rw [cU] at a2
      have g2 : DataW.trod enc Tryz.prog W base sp held n 50 [c2] = some y2 := a2
      have z2 : Sz 50 y2.1 := sz_field (j := 2) Tryz.underlying52 hz rfl rfl
      have a3 : DataW.trod enc Tryz.prog W base sp held n 9 (([c0, c1, c2, c3].drop 3).take (Tryz.prog.cellsOf 9)) = some y3 := hf 3 _ rfl
      rw [cS] at a3
      have g3 : DataW.trod enc Tryz.prog W base sp held n 9 [c3] = some y3 := a3
      have z3 : Sz 9 y3.1 := sz_field (j := 3) Tryz.underlying52 hz rfl rfl
      obtain ⟨v, hv, hi⟩ := open_one h
      obtain ⟨l, e3, hl⟩ := leaf_str g3 z3
      refine ⟨v, hv, trivial, hi, ?_⟩
      unfold V.cells at hv
      simp only [List.cons.injEq, and_true] at hv
      obtain ⟨_, _, _, h3⟩ := hv
      rw [e3] at h3
      simp only [Value.string.injEq] at h3
      have := congrArg (fun b : ByteArray => b.data.toList) h3
      simp only at this
      rw [← this]; exact hl
set_option maxRecDepth 100000 in
theorem open_vs {fuel : Nat} {v : Value} {x : DataW H × List MemPlace} (hf : DataW.trod enc Tryz.prog W base sp held fuel 25 [v] = some x) (hz : Sz 25 x.1) :
    ∃ vs : List V, RowC vs v W ∧ (∀ x ∈ vs, InnV x) ∧ vs.length ≤ 140737488351232 := by
  rcases open_slice Tryz.underlying25 hf with ⟨hcs, _⟩ | ⟨a', len, cap, m, n, D, Pl, hcs, hb, hl, hm, hmm, hxx, hi⟩
  · simp only [List.cons.injEq, and_true] at hcs
    subst hcs
    exact ⟨[], RowC.nil _, by simp, by simp⟩
  · simp only [List.cons.injEq, and_true] at hcs
    subst hcs
    have hz0 := sz_slice Tryz.underlying25 (by rw [hxx] at hz; exact hz)
    have hby : Tryz.prog.bytesOf 52 = 40 := by kernel_rfl
    have hlz : len ≤ 140737488351232 := by
      have h := hz0.1
      rw [hby, List.length_map, List.length_range] at h
      unfold reachBytes at h
      omega
    have hle : len ≤ m := by rw [hmm]; split <;> omega
    rw [cV] at hi
    have key : ∀ k, k ≤ len → ∃ vs : List V, vs.length = k ∧ (∀ x ∈ vs, InnV x ∧ InV x W) ∧ ∀ j, j < k * 4 → W.cell? (a'.add j) = (flat vs)[j]? := by
      intro k
      induction k with
      | zero => intro _; exact ⟨[], rfl, by simp, fun j hj => by omega⟩
      | succ k ih =>
        intro hk
        obtain ⟨vs, h1, h2, h3⟩ := ih (by omega)
        obtain ⟨cs', hc, ht⟩ := hi k (by omega)
        obtain ⟨_, _, hat⟩ := World.cells?_some hc
        obtain ⟨x, hx, hin2, hin1⟩ := open_v ht (hz0.2 k (D k) (by rw [List.getElem?_map, List.getElem?_range (by omega)]; rfl))
        refine ⟨vs ++ [x], by simp [h1], ?_, fun j hj => ?_⟩
        · intro y hy
          rcases List.mem_append.1 hy with hy | hy
          · exact h2 y hy
          · simp only [List.mem_singleton] at hy; rw [hy]; exact ⟨hin1, hin2⟩
        · rw [flat_snoc]
          have hfl : (flat vs).length = k * 4 := by rw [flat_len, h1]
          rcases Nat.lt_or_ge j (k * 4) with hj2 | hj2
          · rw [List.getElem?_append_left (by omega)]; exact h3 j hj2
          · rw [List.getElem?_append_right (by omega), hfl, ← hx, ← hat (j - k * 4) (by omega)]
            congr 1
            rw [Go.Deep.add_add]
            congr 1; omega
    obtain ⟨vs, h1, h2, h3⟩ := key len (Nat.le_refl _)
    refine ⟨vs, ⟨⟨some a', cap, by rw [h1], fun hne => ?_⟩, some a', cap, by rw [h1], by rw [h1]; exact hl, by unfold maxLen at hm; omega, fun e => by cases e⟩, fun x hx => (h2 x hx).1, by rw [h1]; exact hlz⟩
    have hpos : 0 < vs.length := List.length_pos_iff.2 hne
    obtain ⟨x, xs, rfl⟩ := List.exists_cons_of_ne_nil hne
    have h0 := h3 0 (by rw [← h1]; omega)
    have e0 : a'.add 0 = a' := rfl
    have hf0 : (flat (x :: xs))[0]? = some (.int .i64 x.k) := rfl
    rw [e0, hf0] at h0
    obtain ⟨b, off, spot⟩ := a'
    have hlt : b < W.heap.size := World.block_lt_of_cell? W _ h0
    have hs : spot = none := by
      unfold World.cell? at h0
      simp only at h0
      split at h0
      · split at h0
        · cases h0
        · rename_i hns; cases spot with
          | none => rfl
          | some q => simp at hns
      · cases h0
    subst hs
    refine ⟨b, off, rfl, hlt, fun j hj => ?_⟩
    have := h3 j (by rw [← h1]; exact hj)
    have e : (⟨b, off, none⟩ : Addr).add j = ⟨b, off + j, none⟩ := by unfold Addr.add; split <;> simp_all
    rw [e] at this; exact this
set_option maxRecDepth 100000 in
theorem open_c {fuel : Nat} {cs : List Value} {x : DataW H × List MemPlace} (h : DataW.trod enc Tryz.prog W base sp held fuel 81 cs = some x) (hz : Sz 81 x.1) : ∃ v : C, cs = v.cells ∧ InC v W ∧ InnC v := by
  obtain ⟨xs, n, _, hx, hlen, hxl, hf⟩ := DataW.trod_struct Tryz.underlying81 h
  rw [cC] at hlen
  rw [hx] at hz
  match cs, hlen with
  | [c0, c1, c2], _ =>
    match xs, hxl with
    | [y0, y1, y2], _ =>
      have a0 : DataW.trod enc Tryz.prog W base sp held n 9 (([c0, c1, c2].drop 0).take (Tryz.prog.cellsOf 9)) = some y0 := hf 0 _ rfl
      rw [cS] at a0
      have g0 : DataW.trod enc Tryz.prog W base sp held n 9 [c0] = some y0 := a0
      have z0 : Sz 9 y0.1 := sz_field (j := 0) Tryz.underlying81 hz rfl rfl
      have a1 : DataW.trod enc Tryz.prog W base sp held n 3 (([c0, c1, c2].drop 1).take (Tryz.prog.cellsOf 3)) = some y1 := hf 1 _ rfl
      rw [cI] at a1
      have g1 : DataW.trod enc Tryz.prog W base sp held n 3 [c1] = some y1 := a1
      have z1 : Sz 3 y1.1 := sz_field (j := 1) Tryz.underlying81 hz rfl rfl
      have a2 : DataW.trod enc Tryz.prog W base sp held n 4 (([c0, c1, c2].drop 2).take (Tryz.prog.cellsOf 4)) = some y2 := hf 2 _ rfl
      rw [cB] at a2
      have g2 : DataW.trod enc Tryz.prog W base sp held n 4 [c2] = some y2 := a2
      have z2 : Sz 4 y2.1 := sz_field (j := 2) Tryz.underlying81 hz rfl rfl
      obtain ⟨v, hv, hi⟩ := open_col h
      obtain ⟨l, e0, hl⟩ := leaf_str g0 z0
      refine ⟨v, hv, trivial, hi, ?_⟩
      unfold C.cells at hv
      simp only [List.cons.injEq, and_true] at hv
      have h3 := hv.1
      rw [e0] at h3
      simp only [Value.string.injEq] at h3
      have := congrArg (fun b : ByteArray => b.data.toList) h3
      simp only at this
      rw [← this]; exact hl
set_option maxRecDepth 100000 in
theorem open_cs {fuel : Nat} {v : Value} {x : DataW H × List MemPlace} (hf : DataW.trod enc Tryz.prog W base sp held fuel 28 [v] = some x) (hz : Sz 28 x.1) :
    ∃ vs : List C, ColsAt vs v W ∧ (∀ x ∈ vs, InnC x) ∧ vs.length ≤ 140737488351232 := by
  rcases open_slice Tryz.underlying28 hf with ⟨hcs, _⟩ | ⟨a', len, cap, m, n, D, Pl, hcs, hb, hl, hm, hmm, hxx, hi⟩
  · simp only [List.cons.injEq, and_true] at hcs
    subst hcs
    exact ⟨[], ColsAt.nil _, by simp, by simp⟩
  · simp only [List.cons.injEq, and_true] at hcs
    subst hcs
    have hz0 := sz_slice Tryz.underlying28 (by rw [hxx] at hz; exact hz)
    have hby : Tryz.prog.bytesOf 81 = 32 := by kernel_rfl
    have hlz : len ≤ 140737488351232 := by
      have h := hz0.1
      rw [hby, List.length_map, List.length_range] at h
      unfold reachBytes at h
      omega
    have hle : len ≤ m := by rw [hmm]; split <;> omega
    rw [cC] at hi
    have key : ∀ k, k ≤ len → ∃ vs : List C, vs.length = k ∧ (∀ x ∈ vs, InnC x ∧ InC x W) ∧ ∀ j, j < k * 3 → W.cell? (a'.add j) = (cflat vs)[j]? := by
      intro k
      induction k with
      | zero => intro _; exact ⟨[], rfl, by simp, fun j hj => by omega⟩
      | succ k ih =>
        intro hk
        obtain ⟨vs, h1, h2, h3⟩ := ih (by omega)
        obtain ⟨cs', hc, ht⟩ := hi k (by omega)
        obtain ⟨_, _, hat⟩ := World.cells?_some hc
        obtain ⟨x, hx, hin2, hin1⟩ := open_c ht (hz0.2 k (D k) (by rw [List.getElem?_map, List.getElem?_range (by omega)]; rfl))
        refine ⟨vs ++ [x], by simp [h1], ?_, fun j hj => ?_⟩
        · intro y hy
          rcases List.mem_append.1 hy with hy | hy
          · exact h2 y hy
          · simp only [List.mem_singleton] at hy; rw [hy]; exact ⟨hin1, hin2⟩
        · rw [cflat_snoc]
          have hfl : (cflat vs).length = k * 3 := by rw [cflat_len, h1]
          rcases Nat.lt_or_ge j (k * 3) with hj2 | hj2
          · rw [List.getElem?_append_left (by omega)]; exact h3 j hj2
          · rw [List.getElem?_append_right (by omega), hfl, ← hx, ← hat (j - k * 3) (by omega)]
            congr 1
            rw [Go.Deep.add_add]
            congr 1; omega
    obtain ⟨vs, h1, h2, h3⟩ := key len (Nat.le_refl _)
    refine ⟨vs, ⟨some a', cap, by rw [h1], by rw [h1]; exact hl, by unfold maxLen at hm; omega, fun hne => ?_⟩, fun x hx => (h2 x hx).1, by rw [h1]; exact hlz⟩
    have hpos : 0 < vs.length := List.length_pos_iff.2 hne
    obtain ⟨x, xs, rfl⟩ := List.exists_cons_of_ne_nil hne
    have h0 := h3 0 (by rw [← h1]; omega)
    have e0 : a'.add 0 = a' := rfl
    have hf0 : (cflat (x :: xs))[0]? = some (.string (S x.nm)) := rfl
    rw [e0, hf0] at h0
    obtain ⟨b, off, spot⟩ := a'
    have hlt : b < W.heap.size := World.block_lt_of_cell? W _ h0
    have hs : spot = none := by
      unfold World.cell? at h0
      simp only at h0
      split at h0
      · split at h0
        · cases h0
        · rename_i hns; cases spot with
          | none => rfl
          | some q => simp at hns
      · cases h0
    subst hs
    refine ⟨b, off, rfl, hlt, fun j hj => ?_⟩
    have := h3 j (by rw [← h1]; exact hj)
    have e : (⟨b, off, none⟩ : Addr).add j = ⟨b, off + j, none⟩ := by unfold Addr.add; split <;> simp_all
    rw [e] at this; exact this
set_option maxRecDepth 100000 in
theorem open_span {fuel : Nat} {v0 v1 : Value} {x : DataW H × List MemPlace} (h : DataW.trod enc Tryz.prog W base sp held fuel 27 [v0, v1] = some x) : ∃ a z : Int, v0 = .int .i64 a ∧ v1 = .int .i64 z ∧ (-9223372036854775808 ≤ a ∧ a ≤ 9223372036854775807) ∧ -9223372036854775808 ≤ z ∧ z ≤ 9223372036854775807 := by
  obtain ⟨xs, n, _, _, hlen, hxl, hf⟩ := DataW.trod_struct Tryz.underlying27 h
  match xs, hxl with
  | [y0, y1], _ =>
    have a0 : DataW.trod enc Tryz.prog W base sp held n 3 (([v0, v1].drop 0).take (Tryz.prog.cellsOf 3)) = some y0 := hf 0 _ rfl
    have a1 : DataW.trod enc Tryz.prog W base sp held n 3 (([v0, v1].drop 1).take (Tryz.prog.cellsOf 3)) = some y1 := hf 1 _ rfl
    rw [cI] at a0 a1
    have g0 : DataW.trod enc Tryz.prog W base sp held n 3 [v0] = some y0 := a0
    have g1 : DataW.trod enc Tryz.prog W base sp held n 3 [v1] = some y1 := a1
    obtain ⟨k, e0, b0⟩ := leaf_int g0
    obtain ⟨m, e1, b1⟩ := leaf_int g1
    exact ⟨k, m, e0, e1, b0, b1⟩
set_option maxRecDepth 100000 in
theorem open_s {fuel : Nat} {v0 v1 v2 : Value} {x : DataW H × List MemPlace} (h : DataW.trod enc Tryz.prog W base sp held fuel 30 [v0, v1, v2] = some x) (hz : Sz 30 x.1) : ∃ s : T, v0 = .string (S s.nm) ∧ v2 = .int .i64 s.keys ∧ ColsAt s.cols v1 W ∧ InnT s := by
  obtain ⟨xs, n, _, hx, hlen, hxl, hf⟩ := DataW.trod_struct Tryz.underlying30 h
  rw [hx] at hz
  match xs, hxl with
  | [y0, y1, y2], _ =>
    have a0 : DataW.trod enc Tryz.prog W base sp held n 9 (([v0, v1, v2].drop 0).take (Tryz.prog.cellsOf 9)) = some y0 := hf 0 _ rfl
    have a1 : DataW.trod enc Tryz.prog W base sp held n 28 (([v0, v1, v2].drop 1).take (Tryz.prog.cellsOf 28)) = some y1 := hf 1 _ rfl
    have a2 : DataW.trod enc Tryz.prog W base sp held n 3 (([v0, v1, v2].drop 2).take (Tryz.prog.cellsOf 3)) = some y2 := hf 2 _ rfl
    rw [cS] at a0
    rw [cL] at a1
    rw [cI] at a2
    have g0 : DataW.trod enc Tryz.prog W base sp held n 9 [v0] = some y0 := a0
    have g1 : DataW.trod enc Tryz.prog W base sp held n 28 [v1] = some y1 := a1
    have g2 : DataW.trod enc Tryz.prog W base sp held n 3 [v2] = some y2 := a2
    have z0 : Sz 9 y0.1 := sz_field (j := 0) Tryz.underlying30 hz rfl rfl
    have z1 : Sz 28 y1.1 := sz_field (j := 1) Tryz.underlying30 hz rfl rfl
    obtain ⟨nm, e0, hn⟩ := leaf_str g0 z0
    obtain ⟨cs, hc, hi, hl⟩ := open_cs g1 z1
    obtain ⟨k, e2, b0, b1⟩ := leaf_int g2
    exact ⟨⟨nm, cs, k⟩, e0, e2, hc, ⟨b0, b1, hn, hl, hi⟩⟩
set_option maxRecDepth 100000 in
theorem open_m {fuel : Nat} {cs : List Value} {x : DataW H × List MemPlace} (h : DataW.trod enc Tryz.prog W base sp held fuel 32 cs = some x) (hz : Sz 32 x.1) : ∃ v : M, cs = v.cells ∧ InM v W ∧ InnM v := by
  obtain ⟨xs, n, _, hx, hlen, hxl, hf⟩ := DataW.trod_struct Tryz.underlying32 h
  rw [cM] at hlen
  rw [hx] at hz
  match cs, hlen with
  | [c0, c1, c2, c3, c4, c5, c6, c7], _ =>
    match xs, hxl with
    | [y0, y1, y2, y3, y4], _ =>
      have a0 : DataW.trod enc Tryz.prog W base sp held n 3 (([c0, c1, c2, c3, c4, c5, c6, c7].drop 0).take (Tryz.prog.cellsOf 3)) = some y0 := hf 0 _ rfl
      rw [cI] at a0
      have g0 : DataW.trod enc Tryz.prog W base sp held n 3 [c0] = some y0 := a0
      have z0 : Sz 3 y0.1 := sz_field (j := 0) Tryz.underlying32 hz rfl rfl
      have a1 : DataW.trod enc Tryz.prog W base sp held n 9 (([c0, c1, c2, c3, c4, c5, c6, c7].drop 1).take (Tryz.prog.cellsOf 9)) = some y1 := hf 1 _ rfl
      rw [cS] at a1
      have g1 : DataW.trod enc Tryz.prog W base sp held n 9 [c1] = some y1 := a1
      have z1 : Sz 9 y1.1 := sz_field (j := 1) Tryz.underlying32 hz rfl rfl
      have a2 : DataW.trod enc Tryz.prog W base sp held n 25 (([c0, c1, c2, c3, c4, c5, c6, c7].drop 2).take (Tryz.prog.cellsOf 25)) = some y2 := hf 2 _ rfl
      rw [cR] at a2
      have g2 : DataW.trod enc Tryz.prog W base sp held n 25 [c2] = some y2 := a2
      have z2 : Sz 25 y2.1 := sz_field (j := 2) Tryz.underlying32 hz rfl rfl
      have a3 : DataW.trod enc Tryz.prog W base sp held n 27 (([c0, c1, c2, c3, c4, c5, c6, c7].drop 3).take (Tryz.prog.cellsOf 27)) = some y3 := hf 3 _ rfl
      rw [cSpan] at a3
      have g3 : DataW.trod enc Tryz.prog W base sp held n 27 [c3, c4] = some y3 := a3
      have z3 : Sz 27 y3.1 := sz_field (j := 3) Tryz.underlying32 hz rfl rfl
      have a4 : DataW.trod enc Tryz.prog W base sp held n 30 (([c0, c1, c2, c3, c4, c5, c6, c7].drop 5).take (Tryz.prog.cellsOf 30)) = some y4 := hf 4 _ rfl
      rw [cT] at a4
      have g4 : DataW.trod enc Tryz.prog W base sp held n 30 [c5, c6, c7] = some y4 := a4
      have z4 : Sz 30 y4.1 := sz_field (j := 4) Tryz.underlying32 hz rfl rfl
      obtain ⟨op, rfl, bo⟩ := leaf_int g0
      obtain ⟨tb, rfl, ht⟩ := leaf_str g1 z1
      obtain ⟨r, hr, hri, hrn⟩ := open_vs g2 z2
      obtain ⟨a, z, rfl, rfl, ba, bz⟩ := open_span g3
      obtain ⟨t, rfl, rfl, hc, hti⟩ := open_s g4 z4
      obtain ⟨ro, rc, hrl, _, _⟩ := hr.2
      obtain ⟨qo, qc, hql, _, _⟩ := hc.form
      subst hrl hql
      exact ⟨⟨⟨op, tb, r, a, z, t⟩, ro, rc, qo, qc⟩, rfl, ⟨hr, hc⟩, ⟨bo.1, bo.2, ba.1, ba.2, bz.1, bz.2, ht, hri, hrn, hti⟩⟩
set_option maxRecDepth 100000 in
theorem open_ms {fuel : Nat} {v : Value} {x : DataW H × List MemPlace} (hf : DataW.trod enc Tryz.prog W base sp held fuel 22 [v] = some x) (hz : Sz 22 x.1) :
    ∃ vs : List M, MsAt vs v W ∧ (∀ x ∈ vs, InnM x) ∧ vs.length ≤ 140737488351232 := by
  rcases open_slice Tryz.underlying22 hf with ⟨hcs, _⟩ | ⟨a', len, cap, m, n, D, Pl, hcs, hb, hl, hm, hmm, hxx, hi⟩
  · simp only [List.cons.injEq, and_true] at hcs
    subst hcs
    exact ⟨[], MsAt.nil _, by simp, by simp⟩
  · simp only [List.cons.injEq, and_true] at hcs
    subst hcs
    have hz0 := sz_slice Tryz.underlying22 (by rw [hxx] at hz; exact hz)
    have hby : Tryz.prog.bytesOf 32 = 112 := by kernel_rfl
    have hlz : len ≤ 140737488351232 := by
      have h := hz0.1
      rw [hby, List.length_map, List.length_range] at h
      unfold reachBytes at h
      omega
    have hle : len ≤ m := by rw [hmm]; split <;> omega
    rw [cM] at hi
    have key : ∀ k, k ≤ len → ∃ vs : List M, vs.length = k ∧ (∀ x ∈ vs, InnM x ∧ InM x W) ∧ ∀ j, j < k * 8 → W.cell? (a'.add j) = (mflat vs)[j]? := by
      intro k
      induction k with
      | zero => intro _; exact ⟨[], rfl, by simp, fun j hj => by omega⟩
      | succ k ih =>
        intro hk
        obtain ⟨vs, h1, h2, h3⟩ := ih (by omega)
        obtain ⟨cs', hc, ht⟩ := hi k (by omega)
        obtain ⟨_, _, hat⟩ := World.cells?_some hc
        obtain ⟨x, hx, hin2, hin1⟩ := open_m ht (hz0.2 k (D k) (by rw [List.getElem?_map, List.getElem?_range (by omega)]; rfl))
        refine ⟨vs ++ [x], by simp [h1], ?_, fun j hj => ?_⟩
        · intro y hy
          rcases List.mem_append.1 hy with hy | hy
          · exact h2 y hy
          · simp only [List.mem_singleton] at hy; rw [hy]; exact ⟨hin1, hin2⟩
        · rw [mflat_snoc]
          have hfl : (mflat vs).length = k * 8 := by rw [mflat_len, h1]
          rcases Nat.lt_or_ge j (k * 8) with hj2 | hj2
          · rw [List.getElem?_append_left (by omega)]; exact h3 j hj2
          · rw [List.getElem?_append_right (by omega), hfl, ← hx, ← hat (j - k * 8) (by omega)]
            congr 1
            rw [Go.Deep.add_add]
            congr 1; omega
    obtain ⟨vs, h1, h2, h3⟩ := key len (Nat.le_refl _)
    refine ⟨vs, ⟨⟨some a', cap, by rw [h1], by rw [h1]; exact hl, by unfold maxLen at hm; omega, fun hne => ?_⟩, fun x hx => (h2 x hx).2⟩, fun x hx => (h2 x hx).1, by rw [h1]; exact hlz⟩
    have hpos : 0 < vs.length := List.length_pos_iff.2 hne
    obtain ⟨x, xs, rfl⟩ := List.exists_cons_of_ne_nil hne
    have h0 := h3 0 (by rw [← h1]; omega)
    have e0 : a'.add 0 = a' := rfl
    have hf0 : (mflat (x :: xs))[0]? = some (.int .i64 x.c.op) := rfl
    rw [e0, hf0] at h0
    obtain ⟨b, off, spot⟩ := a'
    have hlt : b < W.heap.size := World.block_lt_of_cell? W _ h0
    have hs : spot = none := by
      unfold World.cell? at h0
      simp only at h0
      split at h0
      · split at h0
        · cases h0
        · rename_i hns; cases spot with
          | none => rfl
          | some q => simp at hns
      · cases h0
    subst hs
    refine ⟨b, off, rfl, hlt, fun j hj => ?_⟩
    have := h3 j (by rw [← h1]; exact hj)
    have e : (⟨b, off, none⟩ : Addr).add j = ⟨b, off + j, none⟩ := by unfold Addr.add; split <;> simp_all
    rw [e] at this; exact this
set_option maxRecDepth 100000 in
theorem open_x {fuel : Nat} {cs : List Value} {x : DataW H × List MemPlace} (h : DataW.trod enc Tryz.prog W base sp held fuel 24 cs = some x) (hz : Sz 24 x.1) : ∃ v : X, cs = v.cells ∧ InX v W ∧ InnX v := by
  obtain ⟨xs, n, _, hx, hlen, hxl, hf⟩ := DataW.trod_struct Tryz.underlying24 h
  rw [cX] at hlen
  rw [hx] at hz
  match cs, hlen with
  | [c0, c1, c2], _ =>
    match xs, hxl with
    | [y0, y1, y2], _ =>
      have a0 : DataW.trod enc Tryz.prog W base sp held n 3 (([c0, c1, c2].drop 0).take (Tryz.prog.cellsOf 3)) = some y0 := hf 0 _ rfl
      rw [cI] at a0
      have g0 : DataW.trod enc Tryz.prog W base sp held n 3 [c0] = some y0 := a0
      have z0 : Sz 3 y0.1 := sz_field (j := 0) Tryz.underlying24 hz rfl rfl
      have a1 : DataW.trod enc Tryz.prog W base sp held n 3 (([c0, c1, c2].drop 1).take (Tryz.prog.cellsOf 3)) = some y1 := hf 1 _ rfl
      rw [cI] at a1
      have g1 : DataW.trod enc Tryz.prog W base sp held n 3 [c1] = some y1 := a1
      have z1 : Sz 3 y1.1 := sz_field (j := 1) Tryz.underlying24 hz rfl rfl
      have a2 : DataW.trod enc Tryz.prog W base sp held n 22 (([c0, c1, c2].drop 2).take (Tryz.prog.cellsOf 22)) = some y2 := hf 2 _ rfl
      rw [cQ] at a2
      have g2 : DataW.trod enc Tryz.prog W base sp held n 22 [c2] = some y2 := a2
      have z2 : Sz 22 y2.1 := sz_field (j := 2) Tryz.underlying24 hz rfl rfl
      obtain ⟨sq, rfl, b0⟩ := leaf_int g0
      obtain ⟨tm, rfl, b1⟩ := leaf_int g1
      obtain ⟨l, hl, hli, hln⟩ := open_ms g2 z2
      obtain ⟨co, cc, hcl, _, _⟩ := hl.form
      subst hcl
      exact ⟨⟨sq, tm, l, co, cc⟩, rfl, hl, ⟨b0.1, b0.2, b1.1, b1.2, hln, hli⟩⟩
set_option maxRecDepth 100000 in
set_option maxRecDepth 100000 in
theorem open_txn {v : Value} {d : DataW H} {p : List MemPlace} {r : Reach} {b0 : Nat} (hok : Value.okWide Tryz.prog W r b0 24 v) (h : DataW.Trod enc Tryz.prog W base sp held 24 v d p) (hz : Sz 24 d) :
    ∃ x : X, v = x.agg ∧ x.In W ∧ InnX x := by
  obtain ⟨v0, v1, v2, y0, y1, y2, n, rfl, hd, _, g0, g1, g2⟩ := Go.Joins.open_agg3 Tryz.underlying24 (by kernel_rfl) (by kernel_rfl) hok h
  rw [hd] at hz
  have z2 : Sz 22 y2.1 := sz_field (j := 2) Tryz.underlying24 hz rfl rfl
  obtain ⟨sq, rfl, b0⟩ := leaf_int g0
  obtain ⟨tm, rfl, b1⟩ := leaf_int g1
  obtain ⟨l, hl, hli, hln⟩ := open_ms g2 z2
  obtain ⟨co, cc, hcl, _, _⟩ := hl.form
  subst hcl
  exact ⟨⟨sq, tm, l, co, cc⟩, rfl, hl, ⟨b0.1, b0.2, b1.1, b1.2, hln, hli⟩⟩
end
end Frm
end Go.Proofs.YtopmbhpjdmcabaaGreat
