/- Rows of api.Values: what a slice of them holds; the document's Rows; as arguments. Conditions: as each theorem says. -/
import Derived.Test.YtoacombaddknfaaValA
import Derived.ProofKit
import Derived.OpenShut
import Derived.Lib.SmallJoins
import Derived.Deep.Slices
import Derived.Carry
import Derived.SizedLaws
namespace Go.Proofs.Ytoacombaddknfaa
open Go.RowKit
namespace Cod
theorem below_keeps {k : Nat} {w w' : World} {o : Obj} (h : Below w.heap.size w w') (hk : w.heap[k]? = some o) : w'.heap[k]? = some o := by
  rw [h.block k (lt_of_block hk), hk]
/-- A text of these bytes. -/
abbrev S (l : List UInt8) : ByteArray := ⟨l.toArray⟩
theorem S_list (l : List UInt8) : (S l).data.toList = l := rfl
theorem S_of (t : ByteArray) : S t.data.toList = t := by cases t; simp [S]
theorem S_size (l : List UInt8) : (S l).size = l.length := by simp [ByteArray.size]
theorem S_append (a b : List UInt8) : S a ++ S b = S (a ++ b) := by
  apply ByteArray.ext; simp [S]
theorem hidm {p : Prop} (h : p) : Hid p := h
/-- A value. -/
structure V where
  k : Int
  n : Int
  b : Nat
  s : List UInt8
def V.right (v : V) : Bool := Val.rightB v.k v.n v.b (S v.s)
def V.agg (v : V) : Value := .agg #[.int .i64 v.k, .int .i64 v.n, .int .u64 v.b, .string (S v.s)]
def V.cells (v : V) : List Value := [.int .i64 v.k, .int .i64 v.n, .int .u64 v.b, .string (S v.s)]
def flat (l : List V) : List Value := l.flatMap V.cells
theorem flat_len (l : List V) : (flat l).length = l.length * 4 := by
  induction l with
  | nil => rfl
  | cons v l ih => simp only [flat, List.flatMap_cons, List.length_append] at ih ⊢; rw [ih]; simp [V.cells]; omega
theorem flat_snoc (l : List V) (v : V) : flat (l ++ [v]) = flat l ++ v.cells := by simp [flat]
/-- The slice sl holds these values. -/
def RowAt (vs : List V) (sl : Value) (w : World) : Prop := ∃ ao cap, sl = .slice ao vs.length cap ∧ (vs ≠ [] → ∃ b off, ao = some ⟨b, off, none⟩ ∧ b < w.heap.size ∧ ∀ j, j < vs.length * 4 → w.cell? ⟨b, off + j, none⟩ = (flat vs)[j]?)
theorem flat_at (vs : List V) : ∀ (j : Nat) (h : j < vs.length) (f : Nat), f < 4 → (flat vs)[j * 4 + f]? = (vs[j]).cells[f]? := by
  induction vs with
  | nil => intro j h; cases h
  | cons v vs ih =>
    intro j h f hf
    have e : flat (v :: vs) = v.cells ++ flat vs := rfl
    have el : v.cells.length = 4 := rfl
    cases j with
    | zero => rw [e, List.getElem?_append_left (by rw [el]; omega)]; simp
    | succ j =>
      rw [e, List.getElem?_append_right (by rw [el]; omega), el, show (j + 1) * 4 + f - 4 = j * 4 + f by omega]
      exact ih j (by simpa using h) f hf
theorem RowAt.later {vs : List V} {sl : Value} {w w' : World} (h : RowAt vs sl w) (hb : Below w.heap.size w w') : RowAt vs sl w' := by
  obtain ⟨ao, cap, h1, h2⟩ := h
  refine ⟨ao, cap, h1, fun hne => ?_⟩
  obtain ⟨b, off, h3, h4, h5⟩ := h2 hne
  exact ⟨b, off, h3, Nat.lt_of_lt_of_le h4 hb.size, fun j hj => by rw [hb.cell (p := ⟨b, off + j, none⟩) h4]; exact h5 j hj⟩
theorem RowAt.of_owns {base n : Nat} {vs : List V} {sl : Value} {w : World} (h : w.ownsRow base 64 4 sl n (flat vs)) (hn : n = vs.length) : RowAt vs sl w := by
  subst hn
  obtain ⟨g, cap, rfl⟩ | ⟨hv, h0⟩ : (∃ g cap, sl = .slice (some ⟨g, 0, none⟩) vs.length cap) ∨ (sl = .slice none 0 0 ∧ vs.length = 0) := by
    rcases h.2 with h2 | ⟨g, cap, cur, hv, _⟩
    · exact .inr h2
    · exact .inl ⟨g, cap, hv⟩
  · refine ⟨_, cap, rfl, fun _ => ⟨g, 0, rfl, (h.lt g rfl).2, fun j hj => ?_⟩⟩
    rw [Nat.zero_add]
    exact h.cellAt j hj
  · refine ⟨none, 0, by rw [hv, h0], fun hne => ?_⟩
    exact absurd (List.eq_nil_of_length_eq_zero h0) hne
/-- The cells of the value that stands at place i. -/
theorem RowAt.at {vs : List V} {sl : Value} {w : World} (h : RowAt vs sl w) (i : Nat) (hi : i < vs.length) : ∃ b off cap, sl = .slice (some ⟨b, off, none⟩) vs.length cap ∧ b < w.heap.size ∧
    w.cell? ⟨b, off + i * 4, none⟩ = some (.int .i64 vs[i].k) ∧ w.cell? ⟨b, off + i * 4 + 1, none⟩ = some (.int .i64 vs[i].n) ∧ w.cell? ⟨b, off + i * 4 + 2, none⟩ = some (.int .u64 vs[i].b) ∧ w.cell? ⟨b, off + i * 4 + 3, none⟩ = some (.string (S vs[i].s)) := by
  obtain ⟨ao, cap, h1, h2⟩ := h
  obtain ⟨b, off, rfl, h4, h5⟩ := h2 (fun e => by rw [e] at hi; cases hi)
  refine ⟨b, off, cap, h1, h4, ?_, ?_, ?_, ?_⟩
  · have := h5 (i * 4 + 0) (by omega); rw [flat_at vs i hi 0 (by omega)] at this; exact this
  · have := h5 (i * 4 + 1) (by omega); rw [flat_at vs i hi 1 (by omega)] at this; exact this
  · have := h5 (i * 4 + 2) (by omega); rw [flat_at vs i hi 2 (by omega)] at this; exact this
  · have := h5 (i * 4 + 3) (by omega); rw [flat_at vs i hi 3 (by omega)] at this; exact this
/-! two rows, held against each other -/
def V.same (a b : V) : Bool := Val.eqV a.k a.n a.b (S a.s) b.k b.n b.b (S b.s)
theorem V.same_iff (a b : V) : a.same b = true ↔ a = b := by
  obtain ⟨k, n, x, s⟩ := a
  obtain ⟨k', n', x', s'⟩ := b
  unfold V.same Val.eqV
  simp only [Bool.and_eq_true, beq_iff_eq, ByteArray.toList_eq, V.mk.injEq]
  constructor
  · rintro ⟨rfl, rfl, h, hs⟩; exact ⟨rfl, rfl, by omega, hs⟩
  · rintro ⟨rfl, rfl, rfl, rfl⟩; exact ⟨rfl, rfl, rfl, rfl⟩
instance : DecidableEq V := fun a b => decidable_of_iff (a.same b = true) (V.same_iff a b)
set_option maxHeartbeats 1000000 in
theorem run_neV (k n b : Int) (s : ByteArray) (k' n' b' : Int) (s' : ByteArray) (w : World) :
    (binOp .neq 64 (.agg #[.int .i64 k, .int .i64 n, .int .u64 b, .string s]) (.agg #[.int .i64 k', .int .i64 n', .int .u64 b', .string s'])).run Try.prog w = .ok (.bool (!Val.eqV k n b s k' n' b' s')) w := by
  unfold Val.eqV
  by_cases hk : k = k' <;> by_cases hn : n = n' <;> by_cases hb : b = b' <;> by_cases hs : s.toList = s'.toList <;> go_simp
attribute [go_sem ↓] run_neV
set_option maxHeartbeats 4000000 in
set_option maxRecDepth 100000 in
theorem rows_any (xs ys : List V) (sa sb : Value) (ha : xs.length ≤ 1000000) (hb : ys.length ≤ 1000000) (w : World) (h1 : RowAt xs sa w) (h2 : RowAt ys sb w) :
    Calls Try.prog 22 #[sa, sb] w fun e w' => e = .returned (.bool (decide (xs = ys))) ∧ Below w.heap.size w w' := by
  obtain ⟨ao, acap, rfl, hra⟩ := h1
  obtain ⟨bo, bcap, rfl, hrb⟩ := h2
  have HA : Hid (RowAt xs (.slice ao xs.length acap) w) := hidm ⟨ao, acap, rfl, hra⟩
  have HB : Hid (RowAt ys (.slice bo ys.length bcap) w) := hidm ⟨bo, bcap, rfl, hrb⟩
  clear hra hrb
  obtain ⟨n, hn⟩ : ∃ n, n = xs.length := ⟨_, rfl⟩
  obtain ⟨m, hm⟩ : ∃ m, m = ys.length := ⟨_, rfl⟩
  obtain ⟨F, hF⟩ : ∃ F, F = decide (xs = ys) := ⟨_, rfl⟩
  rw [← hn, ← hm, ← hF]
  have HN := hidm hn
  have HM := hidm hm
  have HF := hidm hF
  have hn' : n ≤ 1000000 := by omega
  have hm' : m ≤ 1000000 := by omega
  clear hn hm hF
  by_cases hnm : n = m
  · have HNM := hidm hnm
    have f0 : ((n : Int) != (m : Int)) = false := by simp; omega
    clear hnm
    go_enter Try.func22, Try.ntmps22
    go_wp2_with fail
    go_loopw [5] (fun ii wr => ∃ i : Nat, ii = .int .i64 i ∧ i ≤ n ∧ Hid (xs.take i = ys.take i) ∧ Hid (Below w.heap.size w wr)) (fun ii _ => (n - (intOf ii).toNat))
    case atStart => exact ⟨0, rfl, by omega, hidm rfl, hidm (Below.refl _ _)⟩
    case round =>
      obtain ⟨i, rfl, hi, HT, HBr⟩ := hrel
      rcases Nat.eq_or_lt_of_le hi with hie | hie
      · have f1 : ¬ (i : Int) < n := by omega
        have HE := hidm hie
        clear hie
        go_wp2_with fail
        go_ret
        refine ⟨congrArg (fun q => Ending.returned (.bool q)) ?_, HBr.out⟩
        rw [HF.out]
        have h := HT.out
        rw [List.take_of_length_le (by have := HE.out; have := HN.out; omega), List.take_of_length_le (by have := HE.out; have := HM.out; have := HNM.out; omega)] at h
        simp [h]
      · have f1 : (i : Int) < n := by omega
        have f2 : (i : Int) < m := by have := HNM.out; omega
        have hia : i < xs.length := by have := HN.out; omega
        have hib : i < ys.length := by have := HM.out; have := HNM.out; omega
        obtain ⟨b1, o1, c1, he1, _, q0, q1, q2, q3⟩ := (HA.out.later HBr.out).at i hia
        obtain ⟨b2, o2, c2, he2, _, r0, r1, r2, r3⟩ := (HB.out.later HBr.out).at i hib
        simp only [Value.slice.injEq, true_and] at he1 he2
        obtain ⟨rfl, rfl⟩ := he1
        obtain ⟨rfl, rfl⟩ := he2
        obtain ⟨x, hx⟩ : ∃ x, x = xs[i] := ⟨_, rfl⟩
        obtain ⟨y, hy⟩ : ∃ y, y = ys[i] := ⟨_, rfl⟩
        rw [← hx] at q0 q1 q2 q3
        rw [← hy] at r0 r1 r2 r3
        have HX := hidm hx
        have HY := hidm hy
        have f3 : (i : Int) < (n : Int) := f1
        clear hx hy
        have heq : Val.eqV x.k x.n x.b (S x.s) y.k y.n y.b (S y.s) = x.same y := rfl
        rcases hsame : x.same y with _ | _
        · have f4 : Val.eqV x.k x.n x.b (S x.s) y.k y.n y.b (S y.s) = false := heq.trans hsame
          clear heq
          go_wp2_with fail
          go_quiet (fail)
          go_wp2_with fail
          go_ret
          refine ⟨congrArg (fun q => Ending.returned (.bool q)) ?_, below_drewN HBr.out _⟩
          rw [HF.out]
          symm
          rw [decide_eq_false_iff_not]
          intro he
          have : x = y := by rw [HX.out, HY.out]; subst he; rfl
          rw [(V.same_iff x y).2 this] at hsame
          cases hsame
        · have f4 : Val.eqV x.k x.n x.b (S x.s) y.k y.n y.b (S y.s) = true := heq.trans hsame
          have hxy := (V.same_iff x y).1 hsame
          have HT2 : Hid (xs.take (i + 1) = ys.take (i + 1)) := by
            refine hidm ?_
            rw [List.take_succ_eq_append_getElem hia, List.take_succ_eq_append_getElem hib, HT.out, ← HX.out, ← HY.out, hxy]
          have HXY := hidm hxy
          clear heq hxy
          go_wp2_with fail
          go_quiet (fail)
          go_wp2_with fail
          go_roundw
          case rel => exact ⟨i + 1, by go_num, by omega, HT2, hidm (below_drewN HBr.out _)⟩
          case measure => simp [intOf]; omega
  · have HNM := hidm hnm
    have f0 : ((n : Int) != (m : Int)) = true := by simp; omega
    clear hnm
    go_enter Try.func22, Try.ntmps22
    go_wp2_with fail
    go_ret
    refine ⟨congrArg (fun q => Ending.returned (.bool q)) ?_, Below.refl _ _⟩
    rw [HF.out]
    symm
    rw [decide_eq_false_iff_not]
    intro he
    have h1 := HN.out
    rw [he, ← HM.out] at h1
    exact HNM.out h1
set_option maxRecDepth 100000
section
open Go.ChangeShapes Go.WideShapes Go.ChangeAt Go.Deep
variable {H : Type} {enc : TypeId × Value → H} {W : World} {base : Nat} {sp : Nat → Bool} {held : Bool}
theorem cV : Try.prog.cellsOf 64 = 4 := by kernel_rfl
theorem cI : Try.prog.cellsOf 3 = 1 := by kernel_rfl
theorem cU : Try.prog.cellsOf 62 = 1 := by kernel_rfl
theorem cS : Try.prog.cellsOf 9 = 1 := by kernel_rfl
/-- The bounds of a value that came in. -/
structure V.inn (v : V) : Prop where
  k0 : -9223372036854775808 ≤ v.k
  k1 : v.k ≤ 9223372036854775807
  n0 : -9223372036854775808 ≤ v.n
  n1 : v.n ≤ 9223372036854775807
  b : v.b < 18446744073709551616
  s : v.s.length ≤ 140737488351232
/-- All that hangs on it is within the sizes. -/
def Sz (t : TypeId) (d : DataW H) : Prop := ∀ n ∈ d.weights Try.prog t, n ≤ reachBytes
theorem sz_field {t u : TypeId} {fs : Array Field} {parts : List (DataW H)} {d : DataW H} {j : Nat} (hu : Try.prog.underlying t = some (.struct fs)) (hz : Sz t (.agg parts)) (hf : (fs.toList.map (·.type))[j]? = some u) (hd : parts[j]? = some d) : Sz u d := fun n hn =>
  hz n (by unfold DataW.weights; rw [hu]; exact DataW.weights_mem_each hf hd n hn)
theorem mem_all {e : TypeId} : ∀ {l : List (DataW H)} {i : Nat} {d : DataW H}, l[i]? = some d → ∀ n ∈ d.weights Try.prog e, n ∈ DataW.weightsAll Try.prog e l
  | [], i, d, h => by simp at h
  | a :: l, 0, d, h => by
    intro n hn
    simp only [List.getElem?_cons_zero, Option.some.injEq] at h
    subst h
    unfold DataW.weightsAll
    exact List.mem_append_left _ hn
  | a :: l, i + 1, d, h => by
    intro n hn
    unfold DataW.weightsAll
    exact List.mem_append_right _ (mem_all (by simpa using h) n hn)
theorem sz_slice {t e : TypeId} {elems spare : List (DataW H)} (hu : Try.prog.underlying t = some (.slice e)) (hz : Sz t (.slice elems spare)) : (elems.length + spare.length) * Try.prog.bytesOf e ≤ reachBytes ∧ ∀ (i : Nat) (d : DataW H), elems[i]? = some d → Sz e d := by
  refine ⟨hz _ (by unfold DataW.weights; rw [hu]; exact List.mem_cons_self ..), fun i d hd n hn => hz n ?_⟩
  unfold DataW.weights
  rw [hu]
  exact List.mem_cons_of_mem _ (List.mem_append_left _ (mem_all hd n hn))
theorem sz_string {t : TypeId} {b : List UInt8} (hz : Sz (H := H) t (.lit (.string b))) : b.length ≤ 140737488351232 := by
  have := hz b.length (by unfold DataW.weights; exact List.mem_singleton_self _)
  unfold reachBytes at this
  omega
theorem open_one {fuel : Nat} {cs : List Value} {x : DataW H × List MemPlace} (h : DataW.trod enc Try.prog W base sp held fuel 64 cs = some x) (hz : Sz 64 x.1) : ∃ v : V, cs = v.cells ∧ v.inn := by
  obtain ⟨xs, n, _, hx, hlen, hxl, hf⟩ := DataW.trod_struct Try.underlying64 h
  rw [cV] at hlen
  rw [hx] at hz
  match cs, hlen with
  | [c0, c1, c2, c3], _ =>
    match xs, hxl with
    | [y0, y1, y2, y3], _ =>
      have a0 : DataW.trod enc Try.prog W base sp held n 3 (([c0, c1, c2, c3].drop 0).take (Try.prog.cellsOf 3)) = some y0 := hf 0 _ rfl
      have a1 : DataW.trod enc Try.prog W base sp held n 3 (([c0, c1, c2, c3].drop 1).take (Try.prog.cellsOf 3)) = some y1 := hf 1 _ rfl
      have a2 : DataW.trod enc Try.prog W base sp held n 62 (([c0, c1, c2, c3].drop 2).take (Try.prog.cellsOf 62)) = some y2 := hf 2 _ rfl
      have a3 : DataW.trod enc Try.prog W base sp held n 9 (([c0, c1, c2, c3].drop 3).take (Try.prog.cellsOf 9)) = some y3 := hf 3 _ rfl
      rw [cI] at a0 a1
      rw [cU] at a2
      rw [cS] at a3
      have g0 : DataW.trod enc Try.prog W base sp held n 3 [c0] = some y0 := a0
      have g1 : DataW.trod enc Try.prog W base sp held n 3 [c1] = some y1 := a1
      have g2 : DataW.trod enc Try.prog W base sp held n 62 [c2] = some y2 := a2
      have g3 : DataW.trod enc Try.prog W base sp held n 9 [c3] = some y3 := a3
      obtain ⟨k, e0, _, w0⟩ := DataW.trod_int Try.underlying3 g0
      obtain ⟨m, e1, _, w1⟩ := DataW.trod_int Try.underlying3 g1
      obtain ⟨b, e2, _, w2⟩ := DataW.trod_int Try.underlying62 g2
      have z3 : Sz 9 y3.1 := sz_field (j := 3) Try.underlying64 hz rfl rfl
      obtain ⟨s, e3, hx3, w3⟩ := DataW.trod_string Try.underlying9 g3
      simp only [List.cons.injEq, and_true] at e0 e1 e2 e3
      subst e0 e1 e2 e3
      have bk := bounds_i64 w0
      have bm := bounds_i64 w1
      have bb := bounds_u64 w2
      obtain ⟨b', rfl⟩ := Int.eq_ofNat_of_zero_le bb.1
      refine ⟨⟨k, m, b', s.data.toList⟩, ?_, ⟨bk.1, bk.2, bm.1, bm.2, by show b' < _; omega, sz_string (by rw [hx3] at z3; exact z3)⟩⟩
      unfold V.cells
      simp only [S_of]
end
end Cod
end Go.Proofs.Ytoacombaddknfaa
