/- Calls of a heap, and texts, as arguments: opened to what they hold. No condition. -/
import Derived.Test.YtmccnlffikegfaaGreatDoorZNfto
import Derived.Test.YtmccnlffikegfaaGreatDoorZFrdto
import Derived.Deep.Slices
namespace Go.Proofs.YtmccnlffikegfaaGreatDoor
open Go.ChangeShapes Go.WideShapes Go.ChangeAt Go.RowKit Go.Deep
namespace Hep
open Crc (S S_of S_size)
/-- A call, as the law has it. -/
structure Opv where
  kind : Int
  pos : Int
  s : ByteArray
def Opv.cells (x : Opv) : List Value := [.int .i64 x.kind, .int .i64 x.pos, .string x.s]
def oflat (l : List Opv) : List Value := l.flatMap Opv.cells
theorem oflat_len (l : List Opv) : (oflat l).length = l.length * 3 := by
  induction l with
  | nil => rfl
  | cons v l ih => simp only [oflat, List.flatMap_cons, List.length_append] at ih ⊢; rw [ih]; simp [Opv.cells]; omega
theorem oflat_snoc (l : List Opv) (v : Opv) : oflat (l ++ [v]) = oflat l ++ v.cells := by simp [oflat]
theorem oflat_at (vs : List Opv) : ∀ (j : Nat) (h : j < vs.length) (f : Nat), f < 3 → (oflat vs)[j * 3 + f]? = (vs[j]).cells[f]? := by
  induction vs with
  | nil => intro j h; cases h
  | cons v vs ih =>
    intro j h f hf
    have e : oflat (v :: vs) = v.cells ++ oflat vs := rfl
    have el : v.cells.length = 3 := rfl
    cases j with
    | zero => rw [e, List.getElem?_append_left (by rw [el]; omega)]; simp
    | succ j =>
      rw [e, List.getElem?_append_right (by rw [el]; omega), el, show (j + 1) * 3 + f - 3 = j * 3 + f by omega]
      exact ih j (by simpa using h) f hf
/-- The bounds of a call that came in. -/
structure Opv.inn (x : Opv) : Prop where
  k0 : -9223372036854775808 ≤ x.kind
  k1 : x.kind ≤ 9223372036854775807
  p0 : -9223372036854775808 ≤ x.pos
  p1 : x.pos ≤ 9223372036854775807
  s : x.s.size ≤ 9223372036854775807
/-- The slice sl holds these calls. -/
def OpsAt (l : List Opv) (sl : Value) (w : World) : Prop := ∃ ao cap, sl = .slice ao l.length cap ∧ l.length ≤ cap ∧ cap ≤ 9223372036854775807 ∧ (l ≠ [] → ∃ b off, ao = some ⟨b, off, none⟩ ∧ b < w.heap.size ∧ ∀ j, j < l.length * 3 → w.cell? ⟨b, off + j, none⟩ = (oflat l)[j]?)
theorem OpsAt.later {l : List Opv} {sl : Value} {w w' : World} (h : OpsAt l sl w) (hb : Below w.heap.size w w') : OpsAt l sl w' := by
  obtain ⟨ao, cap, h1, hc, hm, h2⟩ := h
  refine ⟨ao, cap, h1, hc, hm, fun hne => ?_⟩
  obtain ⟨b, off, h3, h4, h5⟩ := h2 hne
  exact ⟨b, off, h3, Nat.lt_of_lt_of_le h4 hb.size, fun j hj => by rw [hb.cell (p := ⟨b, off + j, none⟩) h4]; exact h5 j hj⟩
theorem OpsAt.at {l : List Opv} {sl : Value} {w : World} (h : OpsAt l sl w) (i : Nat) (hi : i < l.length) : ∃ b off cap, sl = .slice (some ⟨b, off, none⟩) l.length cap ∧ b < w.heap.size ∧
    w.cell? ⟨b, off + i * 3, none⟩ = some (.int .i64 l[i].kind) ∧ w.cell? ⟨b, off + i * 3 + 1, none⟩ = some (.int .i64 l[i].pos) ∧ w.cell? ⟨b, off + i * 3 + 2, none⟩ = some (.string l[i].s) := by
  obtain ⟨ao, cap, h1, _, _, h2⟩ := h
  obtain ⟨b, off, rfl, h4, h5⟩ := h2 (fun e => by rw [e] at hi; cases hi)
  refine ⟨b, off, cap, h1, h4, ?_, ?_, ?_⟩
  · have := h5 (i * 3 + 0) (by omega); rw [oflat_at l i hi 0 (by omega)] at this; exact this
  · have := h5 (i * 3 + 1) (by omega); rw [oflat_at l i hi 1 (by omega)] at this; exact this
  · have := h5 (i * 3 + 2) (by omega); rw [oflat_at l i hi 2 (by omega)] at this; exact this
theorem OpsAt.form {l : List Opv} {sl : Value} {w : World} (h : OpsAt l sl w) : ∃ ao cap, sl = .slice ao l.length cap ∧ l.length ≤ cap ∧ cap ≤ 9223372036854775807 := by
  obtain ⟨ao, cap, h1, hc, hm, _⟩ := h
  exact ⟨ao, cap, h1, hc, hm⟩
/-- The slice sl holds these texts. -/
def StrsAt (bs : List (List UInt8)) (sl : Value) (w : World) : Prop := ∃ ao cap, sl = .slice ao bs.length cap ∧ bs.length ≤ cap ∧ cap ≤ 9223372036854775807 ∧ (bs ≠ [] → ∃ b off, ao = some ⟨b, off, none⟩ ∧ b < w.heap.size ∧ ∀ j (h : j < bs.length), w.cell? ⟨b, off + j, none⟩ = some (.string (S bs[j])))
theorem StrsAt.at {bs : List (List UInt8)} {sl : Value} {w : World} (h : StrsAt bs sl w) (i : Nat) (hi : i < bs.length) : ∃ b off cap, sl = .slice (some ⟨b, off, none⟩) bs.length cap ∧ b < w.heap.size ∧ w.cell? ⟨b, off + i, none⟩ = some (.string (S bs[i])) := by
  obtain ⟨ao, cap, h1, _, _, h2⟩ := h
  obtain ⟨b, off, rfl, h4, h5⟩ := h2 (fun e => by rw [e] at hi; cases hi)
  exact ⟨b, off, cap, h1, h4, h5 i hi⟩
theorem StrsAt.form {bs : List (List UInt8)} {sl : Value} {w : World} (h : StrsAt bs sl w) : ∃ ao cap, sl = .slice ao bs.length cap ∧ bs.length ≤ cap ∧ cap ≤ 9223372036854775807 := by
  obtain ⟨ao, cap, h1, hc, hm, _⟩ := h
  exact ⟨ao, cap, h1, hc, hm⟩
section
variable {H : Type} {enc : TypeId × Value → H} {W : World} {base : Nat} {sp : Nat → Bool} {held : Bool}
theorem cO : Tryz.prog.cellsOf 30 = 3 := by kernel_rfl
theorem cI : Tryz.prog.cellsOf 3 = 1 := by kernel_rfl
theorem cS : Tryz.prog.cellsOf 9 = 1 := by kernel_rfl
theorem plain_addr {a : Addr} {v : Value} (h : W.cell? a = some v) : ∃ b o, a = ⟨b, o, none⟩ ∧ b < W.heap.size := by
  have hlt : a.block < W.heap.size := World.block_lt_of_cell? W _ h
  obtain ⟨b, off, spot⟩ := a
  have hs : spot = none := by
    unfold World.cell? at h
    simp only at h
    split at h
    · split at h
      · cases h
      · rename_i hns
        cases spot with
        | none => rfl
        | some q => simp at hns
    · cases h
  subst hs
  exact ⟨b, off, rfl, hlt⟩
set_option maxRecDepth 100000 in
theorem open_op {fuel : Nat} {cs : List Value} {x : DataW H × List MemPlace} (h : DataW.trod enc Tryz.prog W base sp held fuel 30 cs = some x) : ∃ v : Opv, cs = v.cells ∧ v.inn := by
  obtain ⟨xs, n, _, _, hlen, hxl, hf⟩ := DataW.trod_struct Tryz.underlying30 h
  rw [cO] at hlen
  match cs, hlen with
  | [c0, c1, c2], _ =>
    match xs, hxl with
    | [y0, y1, y2], _ =>
      have a0 : DataW.trod enc Tryz.prog W base sp held n 3 (([c0, c1, c2].drop 0).take (Tryz.prog.cellsOf 3)) = some y0 := hf 0 _ rfl
      have a1 : DataW.trod enc Tryz.prog W base sp held n 3 (([c0, c1, c2].drop 1).take (Tryz.prog.cellsOf 3)) = some y1 := hf 1 _ rfl
      have a2 : DataW.trod enc Tryz.prog W base sp held n 9 (([c0, c1, c2].drop 2).take (Tryz.prog.cellsOf 9)) = some y2 := hf 2 _ rfl
      rw [cI] at a0 a1
      rw [cS] at a2
      have g0 : DataW.trod enc Tryz.prog W base sp held n 3 [c0] = some y0 := a0
      have g1 : DataW.trod enc Tryz.prog W base sp held n 3 [c1] = some y1 := a1
      have g2 : DataW.trod enc Tryz.prog W base sp held n 9 [c2] = some y2 := a2
      obtain ⟨k, e0, _, w0⟩ := DataW.trod_int Tryz.underlying3 g0
      obtain ⟨m, e1, _, w1⟩ := DataW.trod_int Tryz.underlying3 g1
      obtain ⟨s, e2, _, w2⟩ := DataW.trod_string Tryz.underlying9 g2
      simp only [List.cons.injEq, and_true] at e0 e1 e2
      subst e0 e1 e2
      have bk := bounds_i64 w0
      have bm := bounds_i64 w1
      exact ⟨⟨k, m, s⟩, rfl, ⟨bk.1, bk.2, bm.1, bm.2, by unfold maxLen at w2; show s.size ≤ _; omega⟩⟩
set_option maxRecDepth 100000 in
theorem open_ops {v : Value} {d : DataW H} {p : List MemPlace} {r : Reach} {b0 : Nat} (hok : Value.okWide Tryz.prog W r b0 22 v) (h : DataW.Trod enc Tryz.prog W base sp held 22 v d p) :
    ∃ vs : List Opv, OpsAt vs v W := by
  obtain ⟨a, len, cap, rfl⟩ := okWide_slice Tryz.underlying22 hok
  obtain ⟨fuel, hf⟩ := h
  rcases open_slice Tryz.underlying22 hf with ⟨hcs, _⟩ | ⟨a', len', cap', m, n, D, Pl, hcs, hb, hl, hm, hmm, _, hi⟩
  · have hcs' : [Value.slice a len cap] = [.slice none 0 0] := hcs
    simp only [List.cons.injEq, Value.slice.injEq, and_true] at hcs'
    obtain ⟨rfl, rfl, rfl⟩ := hcs'
    exact ⟨[], none, 0, rfl, Nat.le_refl _, by omega, fun hne => absurd rfl hne⟩
  · have hcs' : [Value.slice a len cap] = [.slice (some a') len' cap'] := hcs
    simp only [List.cons.injEq, Value.slice.injEq, and_true] at hcs'
    obtain ⟨rfl, rfl, rfl⟩ := hcs'
    have hle : len ≤ m := by rw [hmm]; split <;> omega
    rw [cO] at hi
    have key : ∀ k, k ≤ len → ∃ vs : List Opv, vs.length = k ∧ ∀ j, j < k * 3 → W.cell? (a'.add j) = (oflat vs)[j]? := by
      intro k
      induction k with
      | zero => intro _; exact ⟨[], rfl, fun j hj => by omega⟩
      | succ k ih =>
        intro hk
        obtain ⟨vs, h1, h3⟩ := ih (by omega)
        obtain ⟨cs', hc, ht⟩ := hi k (by omega)
        obtain ⟨_, _, hat⟩ := World.cells?_some hc
        obtain ⟨x, hx, _⟩ := open_op ht
        refine ⟨vs ++ [x], by simp [h1], fun j hj => ?_⟩
        · rw [oflat_snoc]
          have hfl : (oflat vs).length = k * 3 := by rw [oflat_len, h1]
          rcases Nat.lt_or_ge j (k * 3) with hj2 | hj2
          · rw [List.getElem?_append_left (by omega)]; exact h3 j hj2
          · rw [List.getElem?_append_right (by omega), hfl, ← hx, ← hat (j - k * 3) (by omega)]
            congr 1
            rw [Go.Deep.add_add]
            congr 1; omega
    obtain ⟨vs, h1, h3⟩ := key len (Nat.le_refl _)
    refine ⟨vs, some a', cap, by rw [h1], by rw [h1]; exact hl, by unfold maxLen at hm; omega, fun hne => ?_⟩
    obtain ⟨x, xs, rfl⟩ := List.exists_cons_of_ne_nil hne
    have h0 := h3 0 (by rw [← h1]; simp)
    have e0 : a'.add 0 = a' := rfl
    have hf0 : (oflat (x :: xs))[0]? = some (.int .i64 x.kind) := rfl
    rw [e0, hf0] at h0
    obtain ⟨b, off, rfl, hlt⟩ := plain_addr h0
    refine ⟨b, off, rfl, hlt, fun j hj => ?_⟩
    have := h3 j (by rw [← h1]; exact hj)
    have e : (⟨b, off, none⟩ : Addr).add j = ⟨b, off + j, none⟩ := by unfold Addr.add; split <;> simp_all
    rw [e] at this; exact this
set_option maxRecDepth 100000 in
theorem open_strs1 {fuel : Nat} {cs : List Value} {x : DataW H × List MemPlace} (h : DataW.trod enc Tryz.prog W base sp held fuel 28 cs = some x) :
    ∃ (l : List (List UInt8)) (v : Value), cs = [v] ∧ StrsAt l v W := by
  rcases open_slice1 Tryz.underlying28 cS h with ⟨hcs, _⟩ | ⟨a', len', cap', m, n, V, D, Pl, hcs, hb, hl, hm, hmm, _, hi⟩
  · exact ⟨[], _, hcs, none, 0, rfl, Nat.le_refl _, by omega, fun h => absurd rfl h⟩
  · have hle : len' ≤ m := by rw [hmm]; split <;> omega
    have key : ∀ k, k ≤ len' → ∃ l : List (List UInt8), l.length = k ∧ ∀ j (hj : j < l.length), W.cell? (a'.add j) = some (.string (S l[j])) := by
      intro k
      induction k with
      | zero => intro _; exact ⟨[], rfl, fun j hj => by cases hj⟩
      | succ k ih =>
        intro hk
        obtain ⟨l, h1, h2⟩ := ih (by omega)
        obtain ⟨hc, ht⟩ := hi k (by omega)
        obtain ⟨s, hs, _⟩ := DataW.trod_string Tryz.underlying9 ht
        simp only [List.cons.injEq, and_true] at hs
        rw [hs] at hc
        refine ⟨l ++ [s.data.toList], by simp [h1], fun j hj => ?_⟩
        rcases Nat.lt_or_ge j l.length with hj2 | hj2
        · rw [List.getElem_append_left hj2]; exact h2 j hj2
        · have : j = k := by rw [List.length_append] at hj; simp at hj; omega
          subst this
          rw [List.getElem_append_right hj2]
          simpa [h1, S_of] using hc
    obtain ⟨l, h1, h2⟩ := key len' (Nat.le_refl _)
    refine ⟨l, _, hcs, some a', cap', by rw [h1], by rw [h1]; exact hl, by unfold maxLen at hm; omega, fun hne => ?_⟩
    have hpos : 0 < l.length := List.length_pos_iff.2 hne
    have h0 := h2 0 hpos
    have e0 : a'.add 0 = a' := rfl
    rw [e0] at h0
    obtain ⟨b, o, rfl, hlt⟩ := plain_addr h0
    refine ⟨b, o, rfl, hlt, fun j hj => ?_⟩
    have := h2 j hj
    have e : (⟨b, o, none⟩ : Addr).add j = ⟨b, o + j, none⟩ := by unfold Addr.add; split <;> simp_all
    rw [e] at this; exact this
set_option maxRecDepth 100000 in
theorem open_strs {v : Value} {d : DataW H} {p : List MemPlace} {r : Reach} {b0 : Nat} (hok : Value.okWide Tryz.prog W r b0 28 v) (h : DataW.Trod enc Tryz.prog W base sp held 28 v d p) :
    ∃ l : List (List UInt8), StrsAt l v W := by
  obtain ⟨a, len, cap, rfl⟩ := okWide_slice Tryz.underlying28 hok
  obtain ⟨fuel, hf⟩ := h
  obtain ⟨l, v, e, hk⟩ := open_strs1 hf
  have e' : [Value.slice a len cap] = [v] := e
  simp only [List.cons.injEq, and_true] at e'
  exact ⟨l, e' ▸ hk⟩
end
end Hep
end Go.Proofs.YtmccnlffikegfaaGreatDoor
