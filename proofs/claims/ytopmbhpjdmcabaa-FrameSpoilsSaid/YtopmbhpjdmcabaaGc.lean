/- Changes and transactions as arguments: opened to what they hold, within the sizes that an argument has. No condition. -/
import Derived.Test.YtopmbhpjdmcabaaGb
import Derived.Test.YtopmbhpjdmcabaaJy
import Derived.SizedLaws
namespace Go.Proofs.Ytopmbhpjdmcabaa
open Go.ChangeShapes Go.WideShapes Go.ChangeAt Go.RowKit Go.Deep
namespace Frm
open Cod Sch
section
variable {H : Type} {enc : TypeId × Value → H} {W : World} {base : Nat} {sp : Nat → Bool} {held : Bool}
theorem cM : Try.prog.cellsOf 74 = 8 := by kernel_rfl
theorem cX : Try.prog.cellsOf 38 = 3 := by kernel_rfl
theorem cSpan : Try.prog.cellsOf 72 = 2 := by kernel_rfl
theorem cT : Try.prog.cellsOf 24 = 3 := by kernel_rfl
theorem cL : Try.prog.cellsOf 22 = 1 := by kernel_rfl
theorem cR : Try.prog.cellsOf 25 = 1 := by kernel_rfl
theorem cQ : Try.prog.cellsOf 36 = 1 := by kernel_rfl
/-- All that hangs on it is within the sizes. -/
def Sz (t : TypeId) (d : DataW H) : Prop := ∀ n ∈ d.weights Try.prog t, n ≤ reachBytes
theorem sz_field {t u : TypeId} {fs : Array Field} {parts : List (DataW H)} {d : DataW H} {j : Nat} (hu : Try.prog.underlying t = some (.struct fs)) (hz : Sz t (.agg parts)) (hf : (fs.toList.map (·.type))[j]? = some u) (hd : parts[j]? = some d) : Sz u d := fun n hn =>
  hz n (by unfold DataW.weights; rw [hu]; exact DataW.weights_mem_each hf hd n hn)
theorem mem_all {e : TypeId} : ∀ {l : List (DataW H)} {i : Nat} {d : DataW H}, l[i]? = some d → ∀ n ∈ d.weights Try.prog e, n ∈ DataW.weightsAll Try.prog e l
  | [], i, d, h => by simp at h
  | a :: l, 0, d, h => by
    intro n hn
    simp only [List.getElem?_cons_zero, Option.some.injEq] at h
    subst h
    unfold DataW.weightsAll
    exact List.mem_append_left _ hn
  | a :: l, i + 1, d, h => by
    intro n hn
    unfold DataW.weightsAll
    exact List.mem_append_right _ (mem_all (by simpa using h) n hn)
theorem sz_slice {t e : TypeId} {elems spare : List (DataW H)} (hu : Try.prog.underlying t = some (.slice e)) (hz : Sz t (.slice elems spare)) : (elems.length + spare.length) * Try.prog.bytesOf e ≤ reachBytes ∧ ∀ (i : Nat) (d : DataW H), elems[i]? = some d → Sz e d := by
  refine ⟨hz _ (by unfold DataW.weights; rw [hu]; exact List.mem_cons_self ..), fun i d hd n hn => hz n ?_⟩
  unfold DataW.weights
  rw [hu]
  exact List.mem_cons_of_mem _ (List.mem_append_left _ (mem_all hd n hn))
theorem sz_string {t : TypeId} {b : List UInt8} (hz : Sz (H := H) t (.lit (.string b))) : b.length ≤ 140737488351232 := by
  have := hz b.length (by unfold DataW.weights; exact List.mem_singleton_self _)
  unfold reachBytes at this
  omega
structure InnV (v : V) : Prop where
  i : Vin v
  s : v.s.length ≤ 140737488351232
structure InnC (c : C) : Prop where
  i : c.inn
  nm : c.nm.length ≤ 140737488351232
def InV (_ : V) (_ : World) : Prop := True
def InC (_ : C) (_ : World) : Prop := True
structure InnT (t : T) : Prop where
  k0 : -9223372036854775808 ≤ t.keys
  k1 : t.keys ≤ 9223372036854775807
  nm : t.nm.length ≤ 140737488351232
  n : t.cols.length ≤ 140737488351232
  cs : ∀ c ∈ t.cols, InnC c
structure InnM (x : M) : Prop where
  o0 : -9223372036854775808 ≤ x.c.op
  o1 : x.c.op ≤ 9223372036854775807
  a0 : -9223372036854775808 ≤ x.c.a
  a1 : x.c.a ≤ 9223372036854775807
  z0 : -9223372036854775808 ≤ x.c.z
  z1 : x.c.z ≤ 9223372036854775807
  tb : x.c.tb.length ≤ 140737488351232
  row : ∀ v ∈ x.c.row, InnV v
  rn : x.c.row.length ≤ 140737488351232
  df : InnT x.c.df
abbrev InM (x : M) (w : World) : Prop := x.In w
structure InnX (x : X) : Prop where
  s0 : -9223372036854775808 ≤ x.seq
  s1 : x.seq ≤ 9223372036854775807
  t0 : -9223372036854775808 ≤ x.tm
  t1 : x.tm ≤ 9223372036854775807
  n : x.l.length ≤ 140737488351232
  l : ∀ c ∈ x.l, InnM c
abbrev InX (x : X) (w : World) : Prop := x.In w
theorem leaf_int {fuel : Nat} {v : Value} {y : DataW H × List MemPlace} (g : DataW.trod enc Try.prog W base sp held fuel 3 [v] = some y) : ∃ k : Int, v = .int .i64 k ∧ -9223372036854775808 ≤ k ∧ k ≤ 9223372036854775807 := by
  obtain ⟨k, e0, _, w0⟩ := DataW.trod_int Try.underlying3 g
  simp only [List.cons.injEq, and_true] at e0
  have bk := bounds_i64 w0
  exact ⟨k, e0, bk.1, bk.2⟩
theorem leaf_str {fuel : Nat} {v : Value} {y : DataW H × List MemPlace} (g : DataW.trod enc Try.prog W base sp held fuel 9 [v] = some y) (z : Sz 9 y.1) : ∃ l : List UInt8, v = .string (S l) ∧ l.length ≤ 140737488351232 := by
  obtain ⟨s, e0, hx, _⟩ := DataW.trod_string Try.underlying9 g
  simp only [List.cons.injEq, and_true] at e0
  rw [hx] at z
  exact ⟨s.data.toList, by rw [e0, S_of], sz_string z⟩
set_option maxRecDepth 100000 in
theorem open_v {fuel : Nat} {cs : List Value} {x : DataW H × List MemPlace} (h : DataW.trod enc Try.prog W base sp held fuel 33 cs = some x) (hz : Sz 33 x.1) : ∃ v : V, cs = v.cells ∧ InV v W ∧ InnV v := by
  obtain ⟨xs, n, _, hx, hlen, hxl, hf⟩ := DataW.trod_struct Try.underlying33 h
  rw [cV] at hlen
  rw [hx] at hz
  match cs, hlen with
  | [c0, c1, c2, c3], _ =>
    match xs, hxl with
    | [y0, y1, y2, y3], _ =>
      have a0 : DataW.trod enc Try.prog W base sp held n 3 (([c0, c1, c2, c3].drop 0).take (Try.prog.cellsOf 3)) = some y0 := hf 0 _ rfl
      rw [cI] at a0
      have g0 : DataW.trod enc Try.prog W base sp held n 3 [c0] = some y0 := a0
      have z0 : Sz 3 y0.1 := sz_field (j := 0) Try.underlying33 hz rfl rfl
      have a1 : DataW.trod enc Try.prog W base sp held n 3 (([c0, c1, c2, c3].drop 1).take (Try.prog.cellsOf 3)) = some y1 := hf 1 _ rfl
      rw [cI] at a1
      have g1 : DataW.trod enc Try.prog W base sp held n 3 [c1] = some y1 := a1
      have z1 : Sz 3 y1.1 := sz_field (j := 1) Try.underlying33 hz rfl rfl
      have a2 : DataW.trod enc Try.prog W base sp held n 31 (([c0, c1, c2, c3].drop 2).take (Try.prog.cellsOf 31)) = some y2 := hf 2 _ rfl
      rw [cU] at a2
      have g2 : DataW.trod enc Try.prog W base sp held n 31 [c2] = some y2 := a2
      have z2 : Sz 31 y2.1 := sz_field (j := 2) Try.underlying33 hz rfl rfl
      have a3 : DataW.trod enc Try.prog W base sp held n 9 (([c0, c1, c2, c3].drop 3).take (Try.prog.cellsOf 9)) = some y3 := hf 3 _ rfl
      rw [cS] at a3
      have g3 : DataW.trod enc Try.prog W base sp held n 9 [c3] = some y3 := a3
      have z3 : Sz 9 y3.1 := sz_field (j := 3) Try.underlying33 hz rfl rfl
      obtain ⟨v, hv, hi⟩ := open_one h
      obtain ⟨l, e3, hl⟩ := leaf_str g3 z3
      refine ⟨v, hv, trivial, hi, ?_⟩
      unfold V.cells at hv
      simp only [List.cons.injEq, and_true] at hv
      obtain ⟨_, _, _, h3⟩ := hv
      rw [e3] at h3
      simp only [Value.string.injEq] at h3
      have := congrArg (fun b : ByteArray => b.data.toList) h3
      simp only at this
      rw [← this]; exact hl
set_option maxRecDepth 100000 in
theorem open_vs {fuel : Nat} {v : Value} {x : DataW H × List MemPlace} (hf : DataW.trod enc Try.prog W base sp held fuel 25 [v] = some x) (hz : Sz 25 x.1) :
    ∃ vs : List V, RowC vs v W ∧ (∀ x ∈ vs, InnV x) ∧ vs.length ≤ 140737488351232 := by
  rcases open_slice Try.underlying25 hf with ⟨hcs, _⟩ | ⟨a', len, cap, m, n, D, Pl, hcs, hb, hl, hm, hmm, hxx, hi⟩
  · simp only [List.cons.injEq, and_true] at hcs
    subst hcs
    exact ⟨[], RowC.nil _, by simp, by simp⟩
  · simp only [List.cons.injEq, and_true] at hcs
    subst hcs
    have hz0 := sz_slice Try.underlying25 (by rw [hxx] at hz; exact hz)
    have hby : Try.prog.bytesOf 33 = 40 := by kernel_rfl
    have hlz : len ≤ 140737488351232 := by
      have h := hz0.1
      rw [hby, List.length_map, List.length_range] at h
      unfold reachBytes at h
      omega
    have hle : len ≤ m := by rw [hmm]; split <;> omega
    rw [cV] at hi
    have key : ∀ k, k ≤ len → ∃ vs : List V, vs.length = k ∧ (∀ x ∈ vs, InnV x ∧ InV x W) ∧ ∀ j, j < k * 4 → W.cell? (a'.add j) = (flat vs)[j]? := by
      intro k
      induction k with
      | zero => intro _; exact ⟨[], rfl, by simp, fun j hj => by omega⟩
      | succ k ih =>
        intro hk
        obtain ⟨vs, h1, h2, h3⟩ := ih (by omega)
        obtain ⟨cs', hc, ht⟩ := hi k (by omega)
        obtain ⟨_, _, hat⟩ := World.cells?_some hc
        obtain ⟨x, hx, hin2, hin1⟩ := open_v ht (hz0.2 k (D k) (by rw [List.getElem?_map, List.getElem?_range (by omega)]; rfl))
        refine ⟨vs ++ [x], by simp [h1], ?_, fun j hj => ?_⟩
        · intro y hy
          rcases List.mem_append.1 hy with hy | hy
          · exact h2 y hy
          · simp only [List.mem_singleton] at hy; rw [hy]; exact ⟨hin1, hin2⟩
        · rw [flat_snoc]
          have hfl : (flat vs).length = k * 4 := by rw [flat_len, h1]
          rcases Nat.lt_or_ge j (k * 4) with hj2 | hj2
          · rw [List.getElem?_append_left (by omega)]; exact h3 j hj2
          · rw [List.getElem?_append_right (by omega), hfl, ← hx, ← hat (j - k * 4) (by omega)]
            congr 1
            rw [Go.Deep.add_add]
            congr 1; omega
    obtain ⟨vs, h1, h2, h3⟩ := key len (Nat.le_refl _)
    refine ⟨vs, ⟨⟨some a', cap, by rw [h1], fun hne => ?_⟩, some a', cap, by rw [h1], by rw [h1]; exact hl, by unfold maxLen at hm; omega, fun e => by cases e⟩, fun x hx => (h2 x hx).1, by rw [h1]; exact hlz⟩
    have hpos : 0 < vs.length := List.length_pos_iff.2 hne
    obtain ⟨x, xs, rfl⟩ := List.exists_cons_of_ne_nil hne
    have h0 := h3 0 (by rw [← h1]; omega)
    have e0 : a'.add 0 = a' := rfl
    have hf0 : (flat (x :: xs))[0]? = some (.int .i64 x.k) := rfl
    rw [e0, hf0] at h0
    obtain ⟨b, off, spot⟩ := a'
    have hlt : b < W.heap.size := World.block_lt_of_cell? W _ h0
    have hs : spot = none := by
      unfold World.cell? at h0
      simp only at h0
      split at h0
      · split at h0
        · cases h0
        · rename_i hns; cases spot with
          | none => rfl
          | some q => simp at hns
      · cases h0
    subst hs
    refine ⟨b, off, rfl, hlt, fun j hj => ?_⟩
    have := h3 j (by rw [← h1]; exact hj)
    have e : (⟨b, off, none⟩ : Addr).add j = ⟨b, off + j, none⟩ := by unfold Addr.add; split <;> simp_all
    rw [e] at this; exact this
set_option maxRecDepth 100000 in
theorem open_c {fuel : Nat} {cs : List Value} {x : DataW H × List MemPlace} (h : DataW.trod enc Try.prog W base sp held fuel 58 cs = some x) (hz : Sz 58 x.1) : ∃ v : C, cs = v.cells ∧ InC v W ∧ InnC v := by
  obtain ⟨xs, n, _, hx, hlen, hxl, hf⟩ := DataW.trod_struct Try.underlying58 h
  rw [cC] at hlen
  rw [hx] at hz
  match cs, hlen with
  | [c0, c1, c2], _ =>
    match xs, hxl with
    | [y0, y1, y2], _ =>
      have a0 : DataW.trod enc Try.prog W base sp held n 9 (([c0, c1, c2].drop 0).take (Try.prog.cellsOf 9)) = some y0 := hf 0 _ rfl
      rw [cS] at a0
      have g0 : DataW.trod enc Try.prog W base sp held n 9 [c0] = some y0 := a0
      have z0 : Sz 9 y0.1 := sz_field (j := 0) Try.underlying58 hz rfl rfl
      have a1 : DataW.trod enc Try.prog W base sp held n 3 (([c0, c1, c2].drop 1).take (Try.prog.cellsOf 3)) = some y1 := hf 1 _ rfl
      rw [cI] at a1
      have g1 : DataW.trod enc Try.prog W base sp held n 3 [c1] = some y1 := a1
      have z1 : Sz 3 y1.1 := sz_field (j := 1) Try.underlying58 hz rfl rfl
      have a2 : DataW.trod enc Try.prog W base sp held n 4 (([c0, c1, c2].drop 2).take (Try.prog.cellsOf 4)) = some y2 := hf 2 _ rfl
      rw [cB] at a2
      have g2 : DataW.trod enc Try.prog W base sp held n 4 [c2] = some y2 := a2
      have z2 : Sz 4 y2.1 := sz_field (j := 2) Try.underlying58 hz rfl rfl
      obtain ⟨v, hv, hi⟩ := open_col h
      obtain ⟨l, e0, hl⟩ := leaf_str g0 z0
      refine ⟨v, hv, trivial, hi, ?_⟩
      unfold C.cells at hv
      simp only [List.cons.injEq, and_true] at hv
      have h3 := hv.1
      rw [e0] at h3
      simp only [Value.string.injEq] at h3
      have := congrArg (fun b : ByteArray => b.data.toList) h3
      simp only at this
      rw [← this]; exact hl
set_option maxRecDepth 100000 in
theorem open_cs {fuel : Nat} {v : Value} {x : DataW H × List MemPlace} (hf : DataW.trod enc Try.prog W base sp held fuel 22 [v] = some x) (hz : Sz 22 x.1) :
    ∃ vs : List C, ColsAt vs v W ∧ (∀ x ∈ vs, InnC x) ∧ vs.length ≤ 140737488351232 := by
  rcases open_slice Try.underlying22 hf with ⟨hcs, _⟩ | ⟨a', len, cap, m, n, D, Pl, hcs, hb, hl, hm, hmm, hxx, hi⟩
  · simp only [List.cons.injEq, and_true] at hcs
    subst hcs
    exact ⟨[], ColsAt.nil _, by simp, by simp⟩
  · simp only [List.cons.injEq, and_true] at hcs
    subst hcs
    have hz0 := sz_slice Try.underlying22 (by rw [hxx] at hz; exact hz)
    have hby : Try.prog.bytesOf 58 = 32 := by kernel_rfl
    have hlz : len ≤ 140737488351232 := by
      have h := hz0.1
      rw [hby, List.length_map, List.length_range] at h
      unfold reachBytes at h
      omega
    have hle : len ≤ m := by rw [hmm]; split <;> omega
    rw [cC] at hi
    have key : ∀ k, k ≤ len → ∃ vs : List C, vs.length = k ∧ (∀ x ∈ vs, InnC x ∧ InC x W) ∧ ∀ j, j < k * 3 → W.cell? (a'.add j) = (cflat vs)[j]? := by
      intro k
      induction k with
      | zero => intro _; exact ⟨[], rfl, by simp, fun j hj => by omega⟩
      | succ k ih =>
        intro hk
        obtain ⟨vs, h1, h2, h3⟩ := ih (by omega)
        obtain ⟨cs', hc, ht⟩ := hi k (by omega)
        obtain ⟨_, _, hat⟩ := World.cells?_some hc
        obtain ⟨x, hx, hin2, hin1⟩ := open_c ht (hz0.2 k (D k) (by rw [List.getElem?_map, List.getElem?_range (by omega)]; rfl))
        refine ⟨vs ++ [x], by simp [h1], ?_, fun j hj => ?_⟩
        · intro y hy
          rcases List.mem_append.1 hy with hy | hy
          · exact h2 y hy
          · simp only [List.mem_singleton] at hy; rw [hy]; exact ⟨hin1, hin2⟩
        · rw [cflat_snoc]
          have hfl : (cflat vs).length = k * 3 := by rw [cflat_len, h1]
          rcases Nat.lt_or_ge j (k * 3) with hj2 | hj2
          · rw [List.getElem?_append_left (by omega)]; exact h3 j hj2
          · rw [List.getElem?_append_right (by omega), hfl, ← hx, ← hat (j - k * 3) (by omega)]
            congr 1
            rw [Go.Deep.add_add]
            congr 1; omega
    obtain ⟨vs, h1, h2, h3⟩ := key len (Nat.le_refl _)
    refine ⟨vs, ⟨some a', cap, by rw [h1], by rw [h1]; exact hl, by unfold maxLen at hm; omega, fun hne => ?_⟩, fun x hx => (h2 x hx).1, by rw [h1]; exact hlz⟩
    have hpos : 0 < vs.length := List.length_pos_iff.2 hne
    obtain ⟨x, xs, rfl⟩ := List.exists_cons_of_ne_nil hne
    have h0 := h3 0 (by rw [← h1]; omega)
    have e0 : a'.add 0 = a' := rfl
    have hf0 : (cflat (x :: xs))[0]? = some (.string (S x.nm)) := rfl
    rw [e0, hf0] at h0
    obtain ⟨b, off, spot⟩ := a'
    have hlt : b < W.heap.size := World.block_lt_of_cell? W _ h0
    have hs : spot = none := by
      unfold World.cell? at h0
      simp only at h0
      split at h0
      · split at h0
        · cases h0
        · rename_i hns; cases spot with
          | none => rfl
          | some q => simp at hns
      · cases h0
    subst hs
    refine ⟨b, off, rfl, hlt, fun j hj => ?_⟩
    have := h3 j (by rw [← h1]; exact hj)
    have e : (⟨b, off, none⟩ : Addr).add j = ⟨b, off + j, none⟩ := by unfold Addr.add; split <;> simp_all
    rw [e] at this; exact this
set_option maxRecDepth 100000 in
theorem open_span {fuel : Nat} {v0 v1 : Value} {x : DataW H × List MemPlace} (h : DataW.trod enc Try.prog W base sp held fuel 72 [v0, v1] = some x) : ∃ a z : Int, v0 = .int .i64 a ∧ v1 = .int .i64 z ∧ (-9223372036854775808 ≤ a ∧ a ≤ 9223372036854775807) ∧ -9223372036854775808 ≤ z ∧ z ≤ 9223372036854775807 := by
  obtain ⟨xs, n, _, _, hlen, hxl, hf⟩ := DataW.trod_struct Try.underlying72 h
  match xs, hxl with
  | [y0, y1], _ =>
    have a0 : DataW.trod enc Try.prog W base sp held n 3 (([v0, v1].drop 0).take (Try.prog.cellsOf 3)) = some y0 := hf 0 _ rfl
    have a1 : DataW.trod enc Try.prog W base sp held n 3 (([v0, v1].drop 1).take (Try.prog.cellsOf 3)) = some y1 := hf 1 _ rfl
    rw [cI] at a0 a1
    have g0 : DataW.trod enc Try.prog W base sp held n 3 [v0] = some y0 := a0
    have g1 : DataW.trod enc Try.prog W base sp held n 3 [v1] = some y1 := a1
    obtain ⟨k, e0, b0⟩ := leaf_int g0
    obtain ⟨m, e1, b1⟩ := leaf_int g1
    exact ⟨k, m, e0, e1, b0, b1⟩
set_option maxRecDepth 100000 in
theorem open_s {fuel : Nat} {v0 v1 v2 : Value} {x : DataW H × List MemPlace} (h : DataW.trod enc Try.prog W base sp held fuel 24 [v0, v1, v2] = some x) (hz : Sz 24 x.1) : ∃ s : T, v0 = .string (S s.nm) ∧ v2 = .int .i64 s.keys ∧ ColsAt s.cols v1 W ∧ InnT s := by
  obtain ⟨xs, n, _, hx, hlen, hxl, hf⟩ := DataW.trod_struct Try.underlying24 h
  rw [hx] at hz
  match xs, hxl with
  | [y0, y1, y2], _ =>
    have a0 : DataW.trod enc Try.prog W base sp held n 9 (([v0, v1, v2].drop 0).take (Try.prog.cellsOf 9)) = some y0 := hf 0 _ rfl
    have a1 : DataW.trod enc Try.prog W base sp held n 22 (([v0, v1, v2].drop 1).take (Try.prog.cellsOf 22)) = some y1 := hf 1 _ rfl
    have a2 : DataW.trod enc Try.prog W base sp held n 3 (([v0, v1, v2].drop 2).take (Try.prog.cellsOf 3)) = some y2 := hf 2 _ rfl
    rw [cS] at a0
    rw [cL] at a1
    rw [cI] at a2
    have g0 : DataW.trod enc Try.prog W base sp held n 9 [v0] = some y0 := a0
    have g1 : DataW.trod enc Try.prog W base sp held n 22 [v1] = some y1 := a1
    have g2 : DataW.trod enc Try.prog W base sp held n 3 [v2] = some y2 := a2
    have z0 : Sz 9 y0.1 := sz_field (j := 0) Try.underlying24 hz rfl rfl
    have z1 : Sz 22 y1.1 := sz_field (j := 1) Try.underlying24 hz rfl rfl
    obtain ⟨nm, e0, hn⟩ := leaf_str g0 z0
    obtain ⟨cs, hc, hi, hl⟩ := open_cs g1 z1
    obtain ⟨k, e2, b0, b1⟩ := leaf_int g2
    exact ⟨⟨nm, cs, k⟩, e0, e2, hc, ⟨b0, b1, hn, hl, hi⟩⟩
set_option maxRecDepth 100000 in
theorem open_m {fuel : Nat} {cs : List Value} {x : DataW H × List MemPlace} (h : DataW.trod enc Try.prog W base sp held fuel 74 cs = some x) (hz : Sz 74 x.1) : ∃ v : M, cs = v.cells ∧ InM v W ∧ InnM v := by
  obtain ⟨xs, n, _, hx, hlen, hxl, hf⟩ := DataW.trod_struct Try.underlying74 h
  rw [cM] at hlen
  rw [hx] at hz
  match cs, hlen with
  | [c0, c1, c2, c3, c4, c5, c6, c7], _ =>
    match xs, hxl with
    | [y0, y1, y2, y3, y4], _ =>
      have a0 : DataW.trod enc Try.prog W base sp held n 3 (([c0, c1, c2, c3, c4, c5, c6, c7].drop 0).take (Try.prog.cellsOf 3)) = some y0 := hf 0 _ rfl
      rw [cI] at a0
      have g0 : DataW.trod enc Try.prog W base sp held n 3 [c0] = some y0 := a0
      have z0 : Sz 3 y0.1 := sz_field (j := 0) Try.underlying74 hz rfl rfl
      have a1 : DataW.trod enc Try.prog W base sp held n 9 (([c0, c1, c2, c3, c4, c5, c6, c7].drop 1).take (Try.prog.cellsOf 9)) = some y1 := hf 1 _ rfl
      rw [cS] at a1
      have g1 : DataW.trod enc Try.prog W base sp held n 9 [c1] = some y1 := a1
      have z1 : Sz 9 y1.1 := sz_field (j := 1) Try.underlying74 hz rfl rfl
      have a2 : DataW.trod enc Try.prog W base sp held n 25 (([c0, c1, c2, c3, c4, c5, c6, c7].drop 2).take (Try.prog.cellsOf 25)) = some y2 := hf 2 _ rfl
      rw [cR] at a2
      have g2 : DataW.trod enc Try.prog W base sp held n 25 [c2] = some y2 := a2
      have z2 : Sz 25 y2.1 := sz_field (j := 2) Try.underlying74 hz rfl rfl
      have a3 : DataW.trod enc Try.prog W base sp held n 72 (([c0, c1, c2, c3, c4, c5, c6, c7].drop 3).take (Try.prog.cellsOf 72)) = some y3 := hf 3 _ rfl
      rw [cSpan] at a3
      have g3 : DataW.trod enc Try.prog W base sp held n 72 [c3, c4] = some y3 := a3
      have z3 : Sz 72 y3.1 := sz_field (j := 3) Try.underlying74 hz rfl rfl
      have a4 : DataW.trod enc Try.prog W base sp held n 24 (([c0, c1, c2, c3, c4, c5, c6, c7].drop 5).take (Try.prog.cellsOf 24)) = some y4 := hf 4 _ rfl
      rw [cT] at a4
      have g4 : DataW.trod enc Try.prog W base sp held n 24 [c5, c6, c7] = some y4 := a4
      have z4 : Sz 24 y4.1 := sz_field (j := 4) Try.underlying74 hz rfl rfl
      obtain ⟨op, rfl, bo⟩ := leaf_int g0
      obtain ⟨tb, rfl, ht⟩ := leaf_str g1 z1
      obtain ⟨r, hr, hri, hrn⟩ := open_vs g2 z2
      obtain ⟨a, z, rfl, rfl, ba, bz⟩ := open_span g3
      obtain ⟨t, rfl, rfl, hc, hti⟩ := open_s g4 z4
      obtain ⟨ro, rc, hrl, _, _⟩ := hr.2
      obtain ⟨qo, qc, hql, _, _⟩ := hc.form
      subst hrl hql
      exact ⟨⟨⟨op, tb, r, a, z, t⟩, ro, rc, qo, qc⟩, rfl, ⟨hr, hc⟩, ⟨bo.1, bo.2, ba.1, ba.2, bz.1, bz.2, ht, hri, hrn, hti⟩⟩
set_option maxRecDepth 100000 in
theorem open_ms {fuel : Nat} {v : Value} {x : DataW H × List MemPlace} (hf : DataW.trod enc Try.prog W base sp held fuel 36 [v] = some x) (hz : Sz 36 x.1) :
    ∃ vs : List M, MsAt vs v W ∧ (∀ x ∈ vs, InnM x) ∧ vs.length ≤ 140737488351232 := by
  rcases open_slice Try.underlying36 hf with ⟨hcs, _⟩ | ⟨a', len, cap, m, n, D, Pl, hcs, hb, hl, hm, hmm, hxx, hi⟩
  · simp only [List.cons.injEq, and_true] at hcs
    subst hcs
    exact ⟨[], MsAt.nil _, by simp, by simp⟩
  · simp only [List.cons.injEq, and_true] at hcs
    subst hcs
    have hz0 := sz_slice Try.underlying36 (by rw [hxx] at hz; exact hz)
    have hby : Try.prog.bytesOf 74 = 112 := by kernel_rfl
    have hlz : len ≤ 140737488351232 := by
      have h := hz0.1
      rw [hby, List.length_map, List.length_range] at h
      unfold reachBytes at h
      omega
    have hle : len ≤ m := by rw [hmm]; split <;> omega
    rw [cM] at hi
    have key : ∀ k, k ≤ len → ∃ vs : List M, vs.length = k ∧ (∀ x ∈ vs, InnM x ∧ InM x W) ∧ ∀ j, j < k * 8 → W.cell? (a'.add j) = (mflat vs)[j]? := by
      intro k
      induction k with
      | zero => intro _; exact ⟨[], rfl, by simp, fun j hj => by omega⟩
      | succ k ih =>
        intro hk
        obtain ⟨vs, h1, h2, h3⟩ := ih (by omega)
        obtain ⟨cs', hc, ht⟩ := hi k (by omega)
        obtain ⟨_, _, hat⟩ := World.cells?_some hc
        obtain ⟨x, hx, hin2, hin1⟩ := open_m ht (hz0.2 k (D k) (by rw [List.getElem?_map, List.getElem?_range (by omega)]; rfl))
        refine ⟨vs ++ [x], by simp [h1], ?_, fun j hj => ?_⟩
        · intro y hy
          rcases List.mem_append.1 hy with hy | hy
          · exact h2 y hy
          · simp only [List.mem_singleton] at hy; rw [hy]; exact ⟨hin1, hin2⟩
        · rw [mflat_snoc]
          have hfl : (mflat vs).length = k * 8 := by rw [mflat_len, h1]
          rcases Nat.lt_or_ge j (k * 8) with hj2 | hj2
          · rw [List.getElem?_append_left (by omega)]; exact h3 j hj2
          · rw [List.getElem?_append_right (by omega), hfl, ← hx, ← hat (j - k * 8) (by omega)]
            congr 1
            rw [Go.Deep.add_add]
            congr 1; omega
    obtain ⟨vs, h1, h2, h3⟩ := key len (Nat.le_refl _)
    refine ⟨vs, ⟨⟨some a', cap, by rw [h1], by rw [h1]; exact hl, by unfold maxLen at hm; omega, fun hne => ?_⟩, fun x hx => (h2 x hx).2⟩, fun x hx => (h2 x hx).1, by rw [h1]; exact hlz⟩
    have hpos : 0 < vs.length := List.length_pos_iff.2 hne
    obtain ⟨x, xs, rfl⟩ := List.exists_cons_of_ne_nil hne
    have h0 := h3 0 (by rw [← h1]; omega)
    have e0 : a'.add 0 = a' := rfl
    have hf0 : (mflat (x :: xs))[0]? = some (.int .i64 x.c.op) := rfl
    rw [e0, hf0] at h0
    obtain ⟨b, off, spot⟩ := a'
    have hlt : b < W.heap.size := World.block_lt_of_cell? W _ h0
    have hs : spot = none := by
      unfold World.cell? at h0
      simp only at h0
      split at h0
      · split at h0
        · cases h0
        · rename_i hns; cases spot with
          | none => rfl
          | some q => simp at hns
      · cases h0
    subst hs
    refine ⟨b, off, rfl, hlt, fun j hj => ?_⟩
    have := h3 j (by rw [← h1]; exact hj)
    have e : (⟨b, off, none⟩ : Addr).add j = ⟨b, off + j, none⟩ := by unfold Addr.add; split <;> simp_all
    rw [e] at this; exact this
set_option maxRecDepth 100000 in
theorem open_x {fuel : Nat} {cs : List Value} {x : DataW H × List MemPlace} (h : DataW.trod enc Try.prog W base sp held fuel 38 cs = some x) (hz : Sz 38 x.1) : ∃ v : X, cs = v.cells ∧ InX v W ∧ InnX v := by
  obtain ⟨xs, n, _, hx, hlen, hxl, hf⟩ := DataW.trod_struct Try.underlying38 h
  rw [cX] at hlen
  rw [hx] at hz
  match cs, hlen with
  | [c0, c1, c2], _ =>
    match xs, hxl with
    | [y0, y1, y2], _ =>
      have a0 : DataW.trod enc Try.prog W base sp held n 3 (([c0, c1, c2].drop 0).take (Try.prog.cellsOf 3)) = some y0 := hf 0 _ rfl
      rw [cI] at a0
      have g0 : DataW.trod enc Try.prog W base sp held n 3 [c0] = some y0 := a0
      have z0 : Sz 3 y0.1 := sz_field (j := 0) Try.underlying38 hz rfl rfl
      have a1 : DataW.trod enc Try.prog W base sp held n 3 (([c0, c1, c2].drop 1).take (Try.prog.cellsOf 3)) = some y1 := hf 1 _ rfl
      rw [cI] at a1
      have g1 : DataW.trod enc Try.prog W base sp held n 3 [c1] = some y1 := a1
      have z1 : Sz 3 y1.1 := sz_field (j := 1) Try.underlying38 hz rfl rfl
      have a2 : DataW.trod enc Try.prog W base sp held n 36 (([c0, c1, c2].drop 2).take (Try.prog.cellsOf 36)) = some y2 := hf 2 _ rfl
      rw [cQ] at a2
      have g2 : DataW.trod enc Try.prog W base sp held n 36 [c2] = some y2 := a2
      have z2 : Sz 36 y2.1 := sz_field (j := 2) Try.underlying38 hz rfl rfl
      obtain ⟨sq, rfl, b0⟩ := leaf_int g0
      obtain ⟨tm, rfl, b1⟩ := leaf_int g1
      obtain ⟨l, hl, hli, hln⟩ := open_ms g2 z2
      obtain ⟨co, cc, hcl, _, _⟩ := hl.form
      subst hcl
      exact ⟨⟨sq, tm, l, co, cc⟩, rfl, hl, ⟨b0.1, b0.2, b1.1, b1.2, hln, hli⟩⟩
set_option maxRecDepth 100000 in
theorem open_xs {fuel : Nat} {v : Value} {x : DataW H × List MemPlace} (hf : DataW.trod enc Try.prog W base sp held fuel 50 [v] = some x) (hz : Sz 50 x.1) :
    ∃ vs : List X, XsAt vs v W ∧ (∀ x ∈ vs, InnX x) ∧ vs.length ≤ 140737488351232 := by
  rcases open_slice Try.underlying50 hf with ⟨hcs, _⟩ | ⟨a', len, cap, m, n, D, Pl, hcs, hb, hl, hm, hmm, hxx, hi⟩
  · simp only [List.cons.injEq, and_true] at hcs
    subst hcs
    exact ⟨[], XsAt.nil _, by simp, by simp⟩
  · simp only [List.cons.injEq, and_true] at hcs
    subst hcs
    have hz0 := sz_slice Try.underlying50 (by rw [hxx] at hz; exact hz)
    have hby : Try.prog.bytesOf 38 = 40 := by kernel_rfl
    have hlz : len ≤ 140737488351232 := by
      have h := hz0.1
      rw [hby, List.length_map, List.length_range] at h
      unfold reachBytes at h
      omega
    have hle : len ≤ m := by rw [hmm]; split <;> omega
    rw [cX] at hi
    have key : ∀ k, k ≤ len → ∃ vs : List X, vs.length = k ∧ (∀ x ∈ vs, InnX x ∧ InX x W) ∧ ∀ j, j < k * 3 → W.cell? (a'.add j) = (xflat vs)[j]? := by
      intro k
      induction k with
      | zero => intro _; exact ⟨[], rfl, by simp, fun j hj => by omega⟩
      | succ k ih =>
        intro hk
        obtain ⟨vs, h1, h2, h3⟩ := ih (by omega)
        obtain ⟨cs', hc, ht⟩ := hi k (by omega)
        obtain ⟨_, _, hat⟩ := World.cells?_some hc
        obtain ⟨x, hx, hin2, hin1⟩ := open_x ht (hz0.2 k (D k) (by rw [List.getElem?_map, List.getElem?_range (by omega)]; rfl))
        refine ⟨vs ++ [x], by simp [h1], ?_, fun j hj => ?_⟩
        · intro y hy
          rcases List.mem_append.1 hy with hy | hy
          · exact h2 y hy
          · simp only [List.mem_singleton] at hy; rw [hy]; exact ⟨hin1, hin2⟩
        · rw [xflat_snoc]
          have hfl : (xflat vs).length = k * 3 := by rw [xflat_len, h1]
          rcases Nat.lt_or_ge j (k * 3) with hj2 | hj2
          · rw [List.getElem?_append_left (by omega)]; exact h3 j hj2
          · rw [List.getElem?_append_right (by omega), hfl, ← hx, ← hat (j - k * 3) (by omega)]
            congr 1
            rw [Go.Deep.add_add]
            congr 1; omega
    obtain ⟨vs, h1, h2, h3⟩ := key len (Nat.le_refl _)
    refine ⟨vs, ⟨⟨some a', cap, by rw [h1], by rw [h1]; exact hl, by unfold maxLen at hm; omega, fun hne => ?_⟩, fun x hx => (h2 x hx).2⟩, fun x hx => (h2 x hx).1, by rw [h1]; exact hlz⟩
    have hpos : 0 < vs.length := List.length_pos_iff.2 hne
    obtain ⟨x, xs, rfl⟩ := List.exists_cons_of_ne_nil hne
    have h0 := h3 0 (by rw [← h1]; omega)
    have e0 : a'.add 0 = a' := rfl
    have hf0 : (xflat (x :: xs))[0]? = some (.int .i64 x.seq) := rfl
    rw [e0, hf0] at h0
    obtain ⟨b, off, spot⟩ := a'
    have hlt : b < W.heap.size := World.block_lt_of_cell? W _ h0
    have hs : spot = none := by
      unfold World.cell? at h0
      simp only at h0
      split at h0
      · split at h0
        · cases h0
        · rename_i hns; cases spot with
          | none => rfl
          | some q => simp at hns
      · cases h0
    subst hs
    refine ⟨b, off, rfl, hlt, fun j hj => ?_⟩
    have := h3 j (by rw [← h1]; exact hj)
    have e : (⟨b, off, none⟩ : Addr).add j = ⟨b, off + j, none⟩ := by unfold Addr.add; split <;> simp_all
    rw [e] at this; exact this
set_option maxRecDepth 100000 in
set_option maxRecDepth 100000 in
theorem open_txn {v : Value} {d : DataW H} {p : List MemPlace} {r : Reach} {b0 : Nat} (hok : Value.okWide Try.prog W r b0 38 v) (h : DataW.Trod enc Try.prog W base sp held 38 v d p) (hz : Sz 38 d) :
    ∃ x : X, v = x.agg ∧ x.In W ∧ InnX x := by
  obtain ⟨v0, v1, v2, y0, y1, y2, n, rfl, hd, _, g0, g1, g2⟩ := Go.Joins.open_agg3 Try.underlying38 (by kernel_rfl) (by kernel_rfl) hok h
  rw [hd] at hz
  have z2 : Sz 36 y2.1 := sz_field (j := 2) Try.underlying38 hz rfl rfl
  obtain ⟨sq, rfl, b0⟩ := leaf_int g0
  obtain ⟨tm, rfl, b1⟩ := leaf_int g1
  obtain ⟨l, hl, hli, hln⟩ := open_ms g2 z2
  obtain ⟨co, cc, hcl, _, _⟩ := hl.form
  subst hcl
  exact ⟨⟨sq, tm, l, co, cc⟩, rfl, hl, ⟨b0.1, b0.2, b1.1, b1.2, hln, hli⟩⟩
set_option maxRecDepth 100000 in
theorem open_txns {v : Value} {d : DataW H} {p : List MemPlace} {r : Reach} {b0 : Nat} (hok : Value.okWide Try.prog W r b0 50 v) (h : DataW.Trod enc Try.prog W base sp held 50 v d p) (hz : Sz 50 d) : ∃ l : List X, XsAt l v W ∧ (∀ x ∈ l, InnX x) ∧ l.length ≤ 140737488351232 := by
  obtain ⟨a, len, cap, rfl⟩ := okWide_slice Try.underlying50 hok
  obtain ⟨fuel, hf⟩ := h
  have hf2 : DataW.trod enc Try.prog W base sp held fuel 50 [.slice a len cap] = some (d, p) := hf
  exact open_xs hf2 hz
end
end Frm
end Go.Proofs.Ytopmbhpjdmcabaa
