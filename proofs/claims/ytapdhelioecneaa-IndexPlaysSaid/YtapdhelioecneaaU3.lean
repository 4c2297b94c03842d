/- Items, and calls, as arguments: opened to what they hold, within the sizes that an argument has. No condition. -/
import Derived.Test.YtapdhelioecneaaU2
namespace Go.Proofs.Ytapdhelioecneaa
open Go.ChangeShapes Go.WideShapes Go.ChangeAt Go.RowKit Go.Joins Go.Deep
namespace Idx
section
variable {H : Type} {enc : TypeId × Value → H} {W : World} {base : Nat} {sp : Nat → Bool} {held : Bool}
theorem cI : Try.prog.cellsOf 3 = 1 := by kernel_rfl
theorem cS : Try.prog.cellsOf 9 = 1 := by kernel_rfl
theorem cX : Try.prog.cellsOf 31 = 4 := by kernel_rfl
theorem cO : Try.prog.cellsOf 33 = 8 := by kernel_rfl
/-- All that hangs on it is within the sizes. -/
def Sz (t : TypeId) (d : DataW H) : Prop := ∀ n ∈ d.weights Try.prog t, n ≤ reachBytes
theorem sz_field {t u : TypeId} {fs : Array Field} {parts : List (DataW H)} {d : DataW H} {j : Nat} (hu : Try.prog.underlying t = some (.struct fs)) (hz : Sz t (.agg parts)) (hf : (fs.toList.map (·.type))[j]? = some u) (hd : parts[j]? = some d) : Sz u d := fun n hn =>
  hz n (by unfold DataW.weights; rw [hu]; exact DataW.weights_mem_each hf hd n hn)
theorem mem_all {e : TypeId} : ∀ {l : List (DataW H)} {i : Nat} {d : DataW H}, l[i]? = some d → ∀ n ∈ d.weights Try.prog e, n ∈ DataW.weightsAll Try.prog e l
  | [], i, d, h => by simp at h
  | a :: l, 0, d, h => by
    intro n hn
    simp only [List.getElem?_cons_zero, Option.some.injEq] at h
    subst h
    unfold DataW.weightsAll
    exact List.mem_append_left _ hn
  | a :: l, i + 1, d, h => by
    intro n hn
    unfold DataW.weightsAll
    exact List.mem_append_right _ (mem_all (by simpa using h) n hn)
theorem sz_slice {t e : TypeId} {elems spare : List (DataW H)} (hu : Try.prog.underlying t = some (.slice e)) (hz : Sz t (.slice elems spare)) : (elems.length + spare.length) * Try.prog.bytesOf e ≤ reachBytes ∧ ∀ (i : Nat) (d : DataW H), elems[i]? = some d → Sz e d := by
  refine ⟨hz _ (by unfold DataW.weights; rw [hu]; exact List.mem_cons_self ..), fun i d hd n hn => hz n ?_⟩
  unfold DataW.weights
  rw [hu]
  exact List.mem_cons_of_mem _ (List.mem_append_left _ (mem_all hd n hn))
theorem sz_string {t : TypeId} {b : List UInt8} (hz : Sz (H := H) t (.lit (.string b))) : b.length ≤ 140737488351232 := by
  have := hz b.length (by unfold DataW.weights; exact List.mem_singleton_self _)
  unfold reachBytes at this
  omega
theorem leaf_int {fuel : Nat} {v : Value} {y : DataW H × List MemPlace} (g : DataW.trod enc Try.prog W base sp held fuel 3 [v] = some y) : ∃ k : Int, v = .int .i64 k ∧ -9223372036854775808 ≤ k ∧ k ≤ 9223372036854775807 := by
  obtain ⟨k, e0, _, w0⟩ := DataW.trod_int Try.underlying3 g
  simp only [List.cons.injEq, and_true] at e0
  have bk := bounds_i64 w0
  exact ⟨k, e0, bk.1, bk.2⟩
theorem leaf_str {fuel : Nat} {v : Value} {y : DataW H × List MemPlace} (g : DataW.trod enc Try.prog W base sp held fuel 9 [v] = some y) (z : Sz 9 y.1) : ∃ l : List UInt8, v = .string (S l) ∧ l.length ≤ 140737488351232 := by
  obtain ⟨s, e0, hx, _⟩ := DataW.trod_string Try.underlying9 g
  simp only [List.cons.injEq, and_true] at e0
  rw [hx] at z
  exact ⟨s.data.toList, by rw [e0, S_of], sz_string z⟩
/-- A number that an argument can be. -/
def In64 (k : Int) : Prop := -9223372036854775808 ≤ k ∧ k ≤ 9223372036854775807
/-- The bounds of an item that came in. -/
structure It.inn (x : It) : Prop where
  k : x.k.length ≤ 140737488351232
  s : In64 x.s
  e : In64 x.e
  id : In64 x.id
set_option maxRecDepth 100000 in
theorem open_it {fuel : Nat} {cs : List Value} {x : DataW H × List MemPlace} (h : DataW.trod enc Try.prog W base sp held fuel 31 cs = some x) (hz : Sz 31 x.1) : ∃ i : It, cs = i.cells ∧ i.inn := by
  obtain ⟨xs, n, _, hx, hlen, hxl, hf⟩ := DataW.trod_struct Try.underlying31 h
  rw [cX] at hlen
  rw [hx] at hz
  match cs, hlen with
  | [c0, c1, c2, c3], _ =>
    match xs, hxl with
    | [y0, y1, y2, y3], _ =>
      have a0 : DataW.trod enc Try.prog W base sp held n 9 (([c0, c1, c2, c3].drop 0).take (Try.prog.cellsOf 9)) = some y0 := hf 0 _ rfl
      have a1 : DataW.trod enc Try.prog W base sp held n 3 (([c0, c1, c2, c3].drop 1).take (Try.prog.cellsOf 3)) = some y1 := hf 1 _ rfl
      have a2 : DataW.trod enc Try.prog W base sp held n 3 (([c0, c1, c2, c3].drop 2).take (Try.prog.cellsOf 3)) = some y2 := hf 2 _ rfl
      have a3 : DataW.trod enc Try.prog W base sp held n 3 (([c0, c1, c2, c3].drop 3).take (Try.prog.cellsOf 3)) = some y3 := hf 3 _ rfl
      rw [cS] at a0
      rw [cI] at a1 a2 a3
      have g0 : DataW.trod enc Try.prog W base sp held n 9 [c0] = some y0 := a0
      have g1 : DataW.trod enc Try.prog W base sp held n 3 [c1] = some y1 := a1
      have g2 : DataW.trod enc Try.prog W base sp held n 3 [c2] = some y2 := a2
      have g3 : DataW.trod enc Try.prog W base sp held n 3 [c3] = some y3 := a3
      have z0 : Sz 9 y0.1 := sz_field (j := 0) Try.underlying31 hz rfl rfl
      obtain ⟨k, rfl, hk⟩ := leaf_str g0 z0
      obtain ⟨s, rfl, hs⟩ := leaf_int g1
      obtain ⟨e, rfl, he⟩ := leaf_int g2
      obtain ⟨d, rfl, hd⟩ := leaf_int g3
      exact ⟨⟨k, s, e, d⟩, rfl, hk, hs, he, hd⟩
/-- A call of a script. -/
structure Opv where
  kind : Int
  i : It
  hi : List UInt8
  t : Int
  u : Int
def Opv.cells (o : Opv) : List Value := [.int .i64 o.kind, .string (S o.i.k), .int .i64 o.i.s, .int .i64 o.i.e, .int .i64 o.i.id, .string (S o.hi), .int .i64 o.t, .int .i64 o.u]
structure Opv.inn (o : Opv) : Prop where
  kind : In64 o.kind
  i : o.i.inn
  hi : o.hi.length ≤ 140737488351232
  t : In64 o.t
  u : In64 o.u
set_option maxRecDepth 100000 in
theorem open_op1 {fuel : Nat} {cs : List Value} {x : DataW H × List MemPlace} (h : DataW.trod enc Try.prog W base sp held fuel 33 cs = some x) (hz : Sz 33 x.1) : ∃ o : Opv, cs = o.cells ∧ o.inn := by
  obtain ⟨xs, n, _, hx, hlen, hxl, hf⟩ := DataW.trod_struct Try.underlying33 h
  rw [cO] at hlen
  rw [hx] at hz
  match cs, hlen with
  | [c0, c1, c2, c3, c4, c5, c6, c7], _ =>
    match xs, hxl with
    | [y0, y1, y2, y3, y4], _ =>
      have a0 : DataW.trod enc Try.prog W base sp held n 3 (([c0, c1, c2, c3, c4, c5, c6, c7].drop 0).take (Try.prog.cellsOf 3)) = some y0 := hf 0 _ rfl
      have a1 : DataW.trod enc Try.prog W base sp held n 31 (([c0, c1, c2, c3, c4, c5, c6, c7].drop 1).take (Try.prog.cellsOf 31)) = some y1 := hf 1 _ rfl
      have a2 : DataW.trod enc Try.prog W base sp held n 9 (([c0, c1, c2, c3, c4, c5, c6, c7].drop 5).take (Try.prog.cellsOf 9)) = some y2 := hf 2 _ rfl
      have a3 : DataW.trod enc Try.prog W base sp held n 3 (([c0, c1, c2, c3, c4, c5, c6, c7].drop 6).take (Try.prog.cellsOf 3)) = some y3 := hf 3 _ rfl
      have a4 : DataW.trod enc Try.prog W base sp held n 3 (([c0, c1, c2, c3, c4, c5, c6, c7].drop 7).take (Try.prog.cellsOf 3)) = some y4 := hf 4 _ rfl
      rw [cS] at a2
      rw [cI] at a0 a3 a4
      rw [cX] at a1
      have g0 : DataW.trod enc Try.prog W base sp held n 3 [c0] = some y0 := a0
      have g1 : DataW.trod enc Try.prog W base sp held n 31 [c1, c2, c3, c4] = some y1 := a1
      have g2 : DataW.trod enc Try.prog W base sp held n 9 [c5] = some y2 := a2
      have g3 : DataW.trod enc Try.prog W base sp held n 3 [c6] = some y3 := a3
      have g4 : DataW.trod enc Try.prog W base sp held n 3 [c7] = some y4 := a4
      have z1 : Sz 31 y1.1 := sz_field (j := 1) Try.underlying33 hz rfl rfl
      have z2 : Sz 9 y2.1 := sz_field (j := 2) Try.underlying33 hz rfl rfl
      obtain ⟨kd, rfl, hkd⟩ := leaf_int g0
      obtain ⟨i, hi, hin⟩ := open_it g1 z1
      obtain ⟨hh, rfl, hhl⟩ := leaf_str g2 z2
      obtain ⟨t, rfl, ht⟩ := leaf_int g3
      obtain ⟨u, rfl, hu⟩ := leaf_int g4
      unfold It.cells at hi
      simp only [List.cons.injEq, and_true] at hi
      obtain ⟨rfl, rfl, rfl, rfl⟩ := hi
      exact ⟨⟨kd, i, hh, t, u⟩, rfl, hkd, hin, hhl, ht, hu⟩
set_option maxRecDepth 100000 in
theorem open_item {v : Value} {d : DataW H} {p : List MemPlace} {r : Reach} {b0 : Nat} (hok : Value.okWide Try.prog W r b0 31 v) (h : DataW.Trod enc Try.prog W base sp held 31 v d p) (hz : Sz 31 d) :
    ∃ i : It, v = .agg #[.string (S i.k), .int .i64 i.s, .int .i64 i.e, .int .i64 i.id] ∧ i.inn := by
  obtain ⟨cs, rfl, hsz⟩ := okWide_struct Try.underlying31 hok
  obtain ⟨fuel, hf⟩ := h
  obtain ⟨o, ho, h1⟩ := open_it hf hz
  refine ⟨o, ?_, h1⟩
  have ho2 : cs.toList = o.cells := ho
  congr 1
  exact Array.toList_inj.1 ho2
set_option maxRecDepth 100000 in
theorem open_op {v : Value} {d : DataW H} {p : List MemPlace} {r : Reach} {b0 : Nat} (hok : Value.okWide Try.prog W r b0 33 v) (h : DataW.Trod enc Try.prog W base sp held 33 v d p) (hz : Sz 33 d) :
    ∃ o : Opv, v = .agg #[.int .i64 o.kind, .string (S o.i.k), .int .i64 o.i.s, .int .i64 o.i.e, .int .i64 o.i.id, .string (S o.hi), .int .i64 o.t, .int .i64 o.u] ∧ o.inn := by
  obtain ⟨cs, rfl, hsz⟩ := okWide_struct Try.underlying33 hok
  obtain ⟨fuel, hf⟩ := h
  obtain ⟨o, ho, h1⟩ := open_op1 hf hz
  refine ⟨o, ?_, h1⟩
  have ho2 : cs.toList = o.cells := ho
  congr 1
  exact Array.toList_inj.1 ho2
/-! ### A row of calls -/
def oflat (l : List Opv) : List Value := l.flatMap Opv.cells
theorem oflat_len (l : List Opv) : (oflat l).length = l.length * 8 := by
  induction l with
  | nil => rfl
  | cons v l ih => simp only [oflat, List.flatMap_cons, List.length_append] at ih ⊢; rw [ih]; simp [Opv.cells]; omega
theorem oflat_snoc (l : List Opv) (v : Opv) : oflat (l ++ [v]) = oflat l ++ v.cells := by simp [oflat]
theorem oflat_at (vs : List Opv) : ∀ (j : Nat) (h : j < vs.length) (f : Nat), f < 8 → (oflat vs)[j * 8 + f]? = (vs[j]).cells[f]? := by
  induction vs with
  | nil => intro j h; cases h
  | cons v vs ih =>
    intro j h f hf
    have e : oflat (v :: vs) = v.cells ++ oflat vs := rfl
    have el : v.cells.length = 8 := rfl
    cases j with
    | zero => rw [e, List.getElem?_append_left (by rw [el]; omega)]; simp
    | succ j =>
      rw [e, List.getElem?_append_right (by rw [el]; omega), el, show (j + 1) * 8 + f - 8 = j * 8 + f by omega]
      exact ih j (by simpa using h) f hf
def OpsAt (l : List Opv) (sl : Value) (w : World) : Prop := ∃ ao cap, sl = .slice ao l.length cap ∧ l.length ≤ cap ∧ cap ≤ 9223372036854775807 ∧ (l ≠ [] → ∃ b off, ao = some ⟨b, off, none⟩ ∧ b < w.heap.size ∧ ∀ j, j < l.length * 8 → w.cell? ⟨b, off + j, none⟩ = (oflat l)[j]?)
theorem OpsAt.later {l : List Opv} {sl : Value} {w w' : World} {n : Nat} (h : OpsAt l sl w) (hb : Below n w w') (hn : w.heap.size ≤ n) : OpsAt l sl w' := by
  obtain ⟨ao, cap, h1, hc, hm, h2⟩ := h
  refine ⟨ao, cap, h1, hc, hm, fun hne => ?_⟩
  obtain ⟨b, off, h3, h4, h5⟩ := h2 hne
  exact ⟨b, off, h3, Nat.lt_of_lt_of_le h4 hb.size, fun j hj => by rw [hb.cell (p := ⟨b, off + j, none⟩) (Nat.lt_of_lt_of_le h4 hn)]; exact h5 j hj⟩
theorem OpsAt.form {l : List Opv} {sl : Value} {w : World} (h : OpsAt l sl w) : ∃ ao cap, sl = .slice ao l.length cap ∧ l.length ≤ cap ∧ cap ≤ 9223372036854775807 := by
  obtain ⟨ao, cap, h1, hc, hm, _⟩ := h
  exact ⟨ao, cap, h1, hc, hm⟩
/-- The cells of a call, from a place on. -/
structure OpCells (o : Opv) (b off : Nat) (w : World) : Prop where
  c0 : w.cell? ⟨b, off, none⟩ = some (.int .i64 o.kind)
  c1 : w.cell? ⟨b, off + 1, none⟩ = some (.string (S o.i.k))
  c2 : w.cell? ⟨b, off + 2, none⟩ = some (.int .i64 o.i.s)
  c3 : w.cell? ⟨b, off + 3, none⟩ = some (.int .i64 o.i.e)
  c4 : w.cell? ⟨b, off + 4, none⟩ = some (.int .i64 o.i.id)
  c5 : w.cell? ⟨b, off + 5, none⟩ = some (.string (S o.hi))
  c6 : w.cell? ⟨b, off + 6, none⟩ = some (.int .i64 o.t)
  c7 : w.cell? ⟨b, off + 7, none⟩ = some (.int .i64 o.u)
theorem OpsAt.at {l : List Opv} {sl : Value} {w : World} (h : OpsAt l sl w) (i : Nat) (hi : i < l.length) : ∃ b off cap, sl = .slice (some ⟨b, off, none⟩) l.length cap ∧ b < w.heap.size ∧ OpCells l[i] b (off + i * 8) w := by
  obtain ⟨ao, cap, h1, _, _, h2⟩ := h
  obtain ⟨b, off, rfl, h4, h5⟩ := h2 (fun e => by rw [e] at hi; cases hi)
  have key : ∀ f, f < 8 → w.cell? ⟨b, off + i * 8 + f, none⟩ = (l[i]).cells[f]? := fun f hf => by
    have := h5 (i * 8 + f) (by omega)
    rw [oflat_at l i hi f hf] at this
    rw [Nat.add_assoc]; exact this
  exact ⟨b, off, cap, h1, h4, key 0 (by omega), key 1 (by omega), key 2 (by omega), key 3 (by omega), key 4 (by omega), key 5 (by omega), key 6 (by omega), key 7 (by omega)⟩
theorem plain_addr {a : Addr} {v : Value} (h : W.cell? a = some v) : ∃ b o, a = ⟨b, o, none⟩ ∧ b < W.heap.size := by
  have hlt : a.block < W.heap.size := World.block_lt_of_cell? W _ h
  obtain ⟨b, off, spot⟩ := a
  have hs : spot = none := by
    unfold World.cell? at h
    simp only at h
    split at h
    · split at h
      · cases h
      · rename_i hns
        cases spot with
        | none => rfl
        | some q => simp at hns
    · cases h
  subst hs
  exact ⟨b, off, rfl, hlt⟩
set_option maxRecDepth 100000 in
theorem open_ops {v : Value} {d : DataW H} {p : List MemPlace} {r : Reach} {b0 : Nat} (hok : Value.okWide Try.prog W r b0 22 v) (h : DataW.Trod enc Try.prog W base sp held 22 v d p) (hz : Sz 22 d) :
    ∃ l : List Opv, OpsAt l v W ∧ ∀ o ∈ l, o.inn := by
  obtain ⟨a, len, cap, rfl⟩ := okWide_slice Try.underlying22 hok
  obtain ⟨fuel, hf⟩ := h
  rcases open_slice Try.underlying22 hf with ⟨hcs, _⟩ | ⟨a', len', cap', m, n, D, Pl, hcs, hb, hl, hm, hmm, hxx, hi⟩
  · have hcs' : [Value.slice a len cap] = [.slice none 0 0] := hcs
    simp only [List.cons.injEq, Value.slice.injEq, and_true] at hcs'
    obtain ⟨rfl, rfl, rfl⟩ := hcs'
    exact ⟨[], ⟨none, 0, rfl, Nat.le_refl _, by omega, fun hne => absurd rfl hne⟩, by simp⟩
  · have hcs' : [Value.slice a len cap] = [.slice (some a') len' cap'] := hcs
    simp only [List.cons.injEq, Value.slice.injEq, and_true] at hcs'
    obtain ⟨rfl, rfl, rfl⟩ := hcs'
    have hz0 := sz_slice Try.underlying22 (by rw [show d = _ from congrArg Prod.fst hxx] at hz; exact hz)
    have hle : len ≤ m := by rw [hmm]; split <;> omega
    rw [cO] at hi
    have key : ∀ k, k ≤ len → ∃ vs : List Opv, vs.length = k ∧ (∀ o ∈ vs, o.inn) ∧ ∀ j, j < k * 8 → W.cell? (a'.add j) = (oflat vs)[j]? := by
      intro k
      induction k with
      | zero => intro _; exact ⟨[], rfl, by simp, fun j hj => by omega⟩
      | succ k ih =>
        intro hk
        obtain ⟨vs, h1, h4, h3⟩ := ih (by omega)
        obtain ⟨cs', hc, ht⟩ := hi k (by omega)
        obtain ⟨_, _, hat⟩ := World.cells?_some hc
        obtain ⟨x, hx, hin⟩ := open_op1 ht (hz0.2 k (D k) (by rw [List.getElem?_map, List.getElem?_range (by omega)]; rfl))
        refine ⟨vs ++ [x], by simp [h1], fun y hy => ?_, fun j hj => ?_⟩
        · rcases List.mem_append.1 hy with hy | hy
          · exact h4 y hy
          · rw [List.mem_singleton.1 hy]; exact hin
        · rw [oflat_snoc]
          have hfl : (oflat vs).length = k * 8 := by rw [oflat_len, h1]
          rcases Nat.lt_or_ge j (k * 8) with hj2 | hj2
          · rw [List.getElem?_append_left (by omega)]; exact h3 j hj2
          · rw [List.getElem?_append_right (by omega), hfl, ← hx, ← hat (j - k * 8) (by omega)]
            congr 1
            rw [Go.Deep.add_add]
            congr 1; omega
    obtain ⟨vs, h1, h4, h3⟩ := key len (Nat.le_refl _)
    refine ⟨vs, ⟨some a', cap, by rw [h1], by rw [h1]; exact hl, by unfold maxLen at hm; omega, fun hne => ?_⟩, h4⟩
    obtain ⟨x, xs, rfl⟩ := List.exists_cons_of_ne_nil hne
    have h0 := h3 0 (by rw [← h1]; simp)
    have e0 : a'.add 0 = a' := rfl
    have hf0 : (oflat (x :: xs))[0]? = some (.int .i64 x.kind) := rfl
    rw [e0, hf0] at h0
    obtain ⟨b, off, rfl, hlt⟩ := plain_addr h0
    refine ⟨b, off, rfl, hlt, fun j hj => ?_⟩
    have := h3 j (by rw [← h1]; exact hj)
    rw [add_none] at this; exact this
end
end Idx
end Go.Proofs.Ytapdhelioecneaa
