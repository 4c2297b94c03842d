/- Reader's calls joined; rows of api.Values: what a slice of them holds, read and tested. Conditions: as each theorem says. -/
import Derived.Test.YtkgiomdjihcfoaaQb
import Derived.Test.YtkgiomdjihcfoaaValA
import Derived.Laws.IdiomStrings
import Derived.Lib.AppendStr
import Derived.Deep.Slices
import Derived.Carry
import Derived.ProofKit
import Derived.OpenShut
import Derived.Lib.SmallJoins
namespace Go.Proofs.Ytkgiomdjihcfoaa
open Go.RowKit
namespace Cod
theorem call_u (r : Nat) (s : ByteArray) (p : Nat) (w : World) (h : Rdr r s p 0 w) (hp : p ≤ s.size) (hs : s.size ≤ 281474976710656) :
    Calls Try.prog 61 #[.pointer (some ⟨r, 0, none⟩)] w fun en w' => Call r s p w VNat (.int .u64 0) (num 0 0 (s.data.toList.drop p)) en w' :=
  m_u_open r s p w h VNat (num 0 0 (s.data.toList.drop p)) (fun w1 h1 => number_any r s p 0 w1 h1 hp (by omega))
theorem call_t (r : Nat) (s : ByteArray) (p : Nat) (w : World) (h : Rdr r s p 0 w) (hp : p ≤ s.size) (hs : s.size ≤ 281474976710656) :
    Calls Try.prog 60 #[.pointer (some ⟨r, 0, none⟩)] w fun en w' => Call r s p w VStr (.string ⟨#[]⟩) (txt 1000000 (s.data.toList.drop p)) en w' :=
  m_t_open r s p w h VStr (txt 1000000 (s.data.toList.drop p)) (fun w1 h1 => text_any_part r s p 0 w1 h1 hp hs)
/-- A value. -/
structure V where
  k : Int
  n : Int
  b : Nat
  s : List UInt8
def V.right (v : V) : Bool := Val.rightB v.k v.n v.b (S v.s)
def V.agg (v : V) : Value := .agg #[.int .i64 v.k, .int .i64 v.n, .int .u64 v.b, .string (S v.s)]
def V.cells (v : V) : List Value := [.int .i64 v.k, .int .i64 v.n, .int .u64 v.b, .string (S v.s)]
def flat (l : List V) : List Value := l.flatMap V.cells
theorem flat_len (l : List V) : (flat l).length = l.length * 4 := by
  induction l with
  | nil => rfl
  | cons v l ih => simp only [flat, List.flatMap_cons, List.length_append] at ih ⊢; rw [ih]; simp [V.cells]; omega
theorem flat_snoc (l : List V) (v : V) : flat (l ++ [v]) = flat l ++ v.cells := by simp [flat]
/-- The slice v owns these values, in blocks from base on. -/
def VRow (base : Nat) (l : List V) (v : Value) (w : World) : Prop := w.ownsRow base 46 4 v l.length (flat l)
theorem owns_later {base : Nat} {e : TypeId} {sz : Nat} {v : Value} {n : Nat} {xs : List Value} {w w' : World} (h : w.ownsRow base e sz v n xs) (hb : Below w.heap.size w w') : w'.ownsRow base e sz v n xs := by
  refine ⟨h.1, ?_⟩
  rcases h.2 with h2 | ⟨g, cap, cur, hv, hg, hh, rest⟩
  · exact .inl h2
  · exact .inr ⟨g, cap, cur, hv, hg, below_keeps hb hh, rest⟩
theorem cell_four (a b c d : Value) : ∀ j u, [a, b, c, d][j]? = some u → (j = 0 ∧ u = a) ∨ (j = 1 ∧ u = b) ∨ (j = 2 ∧ u = c) ∨ (j = 3 ∧ u = d) := by
  intro j u h
  match j, h with
  | 0, h => simp at h; exact .inl ⟨rfl, h.symm⟩
  | 1, h => simp at h; exact .inr (.inl ⟨rfl, h.symm⟩)
  | 2, h => simp at h; exact .inr (.inr (.inl ⟨rfl, h.symm⟩))
  | 3, h => simp at h; exact .inr (.inr (.inr ⟨rfl, h.symm⟩))
  | j + 4, h => simp at h
theorem infoV : (Try.prog.info? 46).map (fun i => (i.zero, i.size, i.bytes)) = some (some (.agg #[.int .i64 0, .int .i64 0, .int .u64 0, .string ⟨#[]⟩]), 4, 40) := by kernel_rfl
/-- The slice sl holds these values. -/
def RowAt (vs : List V) (sl : Value) (w : World) : Prop := ∃ ao cap, sl = .slice ao vs.length cap ∧ (vs ≠ [] → ∃ b off, ao = some ⟨b, off, none⟩ ∧ b < w.heap.size ∧ ∀ j, j < vs.length * 4 → w.cell? ⟨b, off + j, none⟩ = (flat vs)[j]?)
theorem flat_at (vs : List V) : ∀ (j : Nat) (h : j < vs.length) (f : Nat), f < 4 → (flat vs)[j * 4 + f]? = (vs[j]).cells[f]? := by
  induction vs with
  | nil => intro j h; cases h
  | cons v vs ih =>
    intro j h f hf
    have e : flat (v :: vs) = v.cells ++ flat vs := rfl
    have el : v.cells.length = 4 := rfl
    cases j with
    | zero => rw [e, List.getElem?_append_left (by rw [el]; omega)]; simp
    | succ j =>
      rw [e, List.getElem?_append_right (by rw [el]; omega), el, show (j + 1) * 4 + f - 4 = j * 4 + f by omega]
      exact ih j (by simpa using h) f hf
theorem RowAt.later {vs : List V} {sl : Value} {w w' : World} (h : RowAt vs sl w) (hb : Below w.heap.size w w') : RowAt vs sl w' := by
  obtain ⟨ao, cap, h1, h2⟩ := h
  refine ⟨ao, cap, h1, fun hne => ?_⟩
  obtain ⟨b, off, h3, h4, h5⟩ := h2 hne
  exact ⟨b, off, h3, Nat.lt_of_lt_of_le h4 hb.size, fun j hj => by rw [hb.cell (p := ⟨b, off + j, none⟩) h4]; exact h5 j hj⟩
theorem RowAt.of_owns {base n : Nat} {vs : List V} {sl : Value} {w : World} (h : w.ownsRow base 46 4 sl n (flat vs)) (hn : n = vs.length) : RowAt vs sl w := by
  subst hn
  obtain ⟨g, cap, rfl⟩ | ⟨hv, h0⟩ : (∃ g cap, sl = .slice (some ⟨g, 0, none⟩) vs.length cap) ∨ (sl = .slice none 0 0 ∧ vs.length = 0) := by
    rcases h.2 with h2 | ⟨g, cap, cur, hv, _⟩
    · exact .inr h2
    · exact .inl ⟨g, cap, hv⟩
  · refine ⟨_, cap, rfl, fun _ => ⟨g, 0, rfl, (h.lt g rfl).2, fun j hj => ?_⟩⟩
    rw [Nat.zero_add]
    exact h.cellAt j hj
  · refine ⟨none, 0, by rw [hv, h0], fun hne => ?_⟩
    exact absurd (List.eq_nil_of_length_eq_zero h0) hne
/-- The cells of the value that stands at place i. -/
theorem RowAt.at {vs : List V} {sl : Value} {w : World} (h : RowAt vs sl w) (i : Nat) (hi : i < vs.length) : ∃ b off cap, sl = .slice (some ⟨b, off, none⟩) vs.length cap ∧ b < w.heap.size ∧
    w.cell? ⟨b, off + i * 4, none⟩ = some (.int .i64 vs[i].k) ∧ w.cell? ⟨b, off + i * 4 + 1, none⟩ = some (.int .i64 vs[i].n) ∧ w.cell? ⟨b, off + i * 4 + 2, none⟩ = some (.int .u64 vs[i].b) ∧ w.cell? ⟨b, off + i * 4 + 3, none⟩ = some (.string (S vs[i].s)) := by
  obtain ⟨ao, cap, h1, h2⟩ := h
  obtain ⟨b, off, rfl, h4, h5⟩ := h2 (fun e => by rw [e] at hi; cases hi)
  refine ⟨b, off, cap, h1, h4, ?_, ?_, ?_, ?_⟩
  · have := h5 (i * 4 + 0) (by omega); rw [flat_at vs i hi 0 (by omega)] at this; exact this
  · have := h5 (i * 4 + 1) (by omega); rw [flat_at vs i hi 1 (by omega)] at this; exact this
  · have := h5 (i * 4 + 2) (by omega); rw [flat_at vs i hi 2 (by omega)] at this; exact this
  · have := h5 (i * 4 + 3) (by omega); rw [flat_at vs i hi 3 (by omega)] at this; exact this
/-! two rows, held against each other -/
def V.same (a b : V) : Bool := Val.eqV a.k a.n a.b (S a.s) b.k b.n b.b (S b.s)
theorem V.same_iff (a b : V) : a.same b = true ↔ a = b := by
  obtain ⟨k, n, x, s⟩ := a
  obtain ⟨k', n', x', s'⟩ := b
  unfold V.same Val.eqV
  simp only [Bool.and_eq_true, beq_iff_eq, ByteArray.toList_eq, V.mk.injEq]
  constructor
  · rintro ⟨rfl, rfl, h, hs⟩; exact ⟨rfl, rfl, by omega, hs⟩
  · rintro ⟨rfl, rfl, rfl, rfl⟩; exact ⟨rfl, rfl, rfl, rfl⟩
set_option maxHeartbeats 1000000 in
theorem run_neV (k n b : Int) (s : ByteArray) (k' n' b' : Int) (s' : ByteArray) (w : World) :
    (binOp .neq 46 (.agg #[.int .i64 k, .int .i64 n, .int .u64 b, .string s]) (.agg #[.int .i64 k', .int .i64 n', .int .u64 b', .string s'])).run Try.prog w = .ok (.bool (!Val.eqV k n b s k' n' b' s')) w := by
  unfold Val.eqV
  by_cases hk : k = k' <;> by_cases hn : n = n' <;> by_cases hb : b = b' <;> by_cases hs : s.toList = s'.toList <;> go_simp
attribute [go_sem ↓] run_neV
instance : DecidableEq V := fun a b => decidable_of_iff (a.same b = true) (V.same_iff a b)
set_option maxHeartbeats 4000000 in
set_option maxRecDepth 100000 in
theorem rows_any (xs ys : List V) (sa sb : Value) (ha : xs.length ≤ 1000000) (hb : ys.length ≤ 1000000) (w : World) (h1 : RowAt xs sa w) (h2 : RowAt ys sb w) :
    Calls Try.prog 25 #[sa, sb] w fun e w' => e = .returned (.bool (decide (xs = ys))) ∧ Below w.heap.size w w' := by
  obtain ⟨ao, acap, rfl, hra⟩ := h1
  obtain ⟨bo, bcap, rfl, hrb⟩ := h2
  have HA : Hid (RowAt xs (.slice ao xs.length acap) w) := hidm ⟨ao, acap, rfl, hra⟩
  have HB : Hid (RowAt ys (.slice bo ys.length bcap) w) := hidm ⟨bo, bcap, rfl, hrb⟩
  clear hra hrb
  obtain ⟨n, hn⟩ : ∃ n, n = xs.length := ⟨_, rfl⟩
  obtain ⟨m, hm⟩ : ∃ m, m = ys.length := ⟨_, rfl⟩
  obtain ⟨F, hF⟩ : ∃ F, F = decide (xs = ys) := ⟨_, rfl⟩
  rw [← hn, ← hm, ← hF]
  have HN := hidm hn
  have HM := hidm hm
  have HF := hidm hF
  have hn' : n ≤ 1000000 := by omega
  have hm' : m ≤ 1000000 := by omega
  clear hn hm hF
  by_cases hnm : n = m
  · have HNM := hidm hnm
    have f0 : ((n : Int) != (m : Int)) = false := by simp; omega
    clear hnm
    go_enter Try.func25, Try.ntmps25
    go_wp2_with fail
    go_loopw [5] (fun ii wr => ∃ i : Nat, ii = .int .i64 i ∧ i ≤ n ∧ Hid (xs.take i = ys.take i) ∧ Hid (Below w.heap.size w wr)) (fun ii _ => (n - (intOf ii).toNat))
    case atStart => exact ⟨0, rfl, by omega, hidm rfl, hidm (Below.refl _ _)⟩
    case round =>
      obtain ⟨i, rfl, hi, HT, HBr⟩ := hrel
      rcases Nat.eq_or_lt_of_le hi with hie | hie
      · have f1 : ¬ (i : Int) < n := by omega
        have HE := hidm hie
        clear hie
        go_wp2_with fail
        go_ret
        refine ⟨congrArg (fun q => Ending.returned (.bool q)) ?_, HBr.out⟩
        rw [HF.out]
        have h := HT.out
        rw [List.take_of_length_le (by have := HE.out; have := HN.out; omega), List.take_of_length_le (by have := HE.out; have := HM.out; have := HNM.out; omega)] at h
        simp [h]
      · have f1 : (i : Int) < n := by omega
        have f2 : (i : Int) < m := by have := HNM.out; omega
        have hia : i < xs.length := by have := HN.out; omega
        have hib : i < ys.length := by have := HM.out; have := HNM.out; omega
        obtain ⟨b1, o1, c1, he1, _, q0, q1, q2, q3⟩ := (HA.out.later HBr.out).at i hia
        obtain ⟨b2, o2, c2, he2, _, r0, r1, r2, r3⟩ := (HB.out.later HBr.out).at i hib
        simp only [Value.slice.injEq, true_and] at he1 he2
        obtain ⟨rfl, rfl⟩ := he1
        obtain ⟨rfl, rfl⟩ := he2
        obtain ⟨x, hx⟩ : ∃ x, x = xs[i] := ⟨_, rfl⟩
        obtain ⟨y, hy⟩ : ∃ y, y = ys[i] := ⟨_, rfl⟩
        rw [← hx] at q0 q1 q2 q3
        rw [← hy] at r0 r1 r2 r3
        have HX := hidm hx
        have HY := hidm hy
        have f3 : (i : Int) < (n : Int) := f1
        clear hx hy
        have heq : Val.eqV x.k x.n x.b (S x.s) y.k y.n y.b (S y.s) = x.same y := rfl
        rcases hsame : x.same y with _ | _
        · have f4 : Val.eqV x.k x.n x.b (S x.s) y.k y.n y.b (S y.s) = false := heq.trans hsame
          clear heq
          go_wp2_with fail
          go_quiet (fail)
          go_wp2_with fail
          go_ret
          refine ⟨congrArg (fun q => Ending.returned (.bool q)) ?_, below_drewN HBr.out _⟩
          rw [HF.out]
          symm
          rw [decide_eq_false_iff_not]
          intro he
          have : x = y := by rw [HX.out, HY.out]; subst he; rfl
          rw [(V.same_iff x y).2 this] at hsame
          cases hsame
        · have f4 : Val.eqV x.k x.n x.b (S x.s) y.k y.n y.b (S y.s) = true := heq.trans hsame
          have hxy := (V.same_iff x y).1 hsame
          have HT2 : Hid (xs.take (i + 1) = ys.take (i + 1)) := by
            refine hidm ?_
            rw [List.take_succ_eq_append_getElem hia, List.take_succ_eq_append_getElem hib, HT.out, ← HX.out, ← HY.out, hxy]
          have HXY := hidm hxy
          clear heq hxy
          go_wp2_with fail
          go_quiet (fail)
          go_wp2_with fail
          go_roundw
          case rel => exact ⟨i + 1, by go_num, by omega, HT2, hidm (below_drewN HBr.out _)⟩
          case measure => simp [intOf]; omega
  · have HNM := hidm hnm
    have f0 : ((n : Int) != (m : Int)) = true := by simp; omega
    clear hnm
    go_enter Try.func25, Try.ntmps25
    go_wp2_with fail
    go_ret
    refine ⟨congrArg (fun q => Ending.returned (.bool q)) ?_, Below.refl _ _⟩
    rw [HF.out]
    symm
    rw [decide_eq_false_iff_not]
    intro he
    have h1 := HN.out
    rw [he, ← HM.out] at h1
    exact HNM.out h1
end Cod
end Go.Proofs.Ytkgiomdjihcfoaa
