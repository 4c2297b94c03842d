/- slices.Equal of columns; schema.Same. Condition: at most a million columns. -/
import Derived.Test.YtopmbhpjdmcabaaJd
namespace Go.Proofs.Ytopmbhpjdmcabaa
open Go.RowKit
namespace Sch
open Cod
def eqC (s : ByteArray) (k : Int) (d : Bool) (s' : ByteArray) (k' : Int) (d' : Bool) : Bool := s.toList == s'.toList && (k == k' && d == d')
set_option maxHeartbeats 1000000 in
theorem run_neC (s : ByteArray) (k : Int) (d : Bool) (s' : ByteArray) (k' : Int) (d' : Bool) (w : World) :
    (binOp .neq 58 (.agg #[.string s, .int .i64 k, .bool d]) (.agg #[.string s', .int .i64 k', .bool d'])).run Try.prog w = .ok (.bool (!eqC s k d s' k' d')) w := by
  unfold eqC
  by_cases hs : s.toList = s'.toList <;> by_cases hk : k = k' <;> by_cases hd : d = d' <;> go_simp
attribute [go_sem ↓] run_neC
def C.same (a b : C) : Bool := eqC (S a.nm) a.k a.nd (S b.nm) b.k b.nd
theorem C.same_iff (a b : C) : a.same b = true ↔ a = b := by
  obtain ⟨n, k, d⟩ := a
  obtain ⟨n', k', d'⟩ := b
  unfold C.same eqC
  simp only [Bool.and_eq_true, beq_iff_eq, ByteArray.toList_eq, C.mk.injEq]
set_option maxHeartbeats 4000000 in
set_option maxRecDepth 100000 in
theorem equal_any (xs ys : List C) (sa sb : Value) (ha : xs.length ≤ 1000000) (hb : ys.length ≤ 1000000) (w : World) (h1 : ColsAt xs sa w) (h2 : ColsAt ys sb w) :
    Calls Try.prog 59 #[sa, sb] w fun e w' => e = .returned (.bool (decide (xs = ys))) ∧ Below w.heap.size w w' := by
  obtain ⟨ao, acap, rfl, hra⟩ := h1
  obtain ⟨bo, bcap, rfl, hrb⟩ := h2
  have HA : Hid (ColsAt xs (.slice ao xs.length acap) w) := hidm ⟨ao, acap, rfl, hra⟩
  have HB : Hid (ColsAt ys (.slice bo ys.length bcap) w) := hidm ⟨bo, bcap, rfl, hrb⟩
  clear hra hrb
  obtain ⟨n, hn⟩ : ∃ n, n = xs.length := ⟨_, rfl⟩
  obtain ⟨m, hm⟩ : ∃ m, m = ys.length := ⟨_, rfl⟩
  obtain ⟨F, hF⟩ : ∃ F, F = decide (xs = ys) := ⟨_, rfl⟩
  rw [← hn, ← hm, ← hF]
  have HN := hidm hn
  have HM := hidm hm
  have HF := hidm hF
  have hn' : n ≤ 1000000 := by omega
  have hm' : m ≤ 1000000 := by omega
  clear hn hm hF
  by_cases hnm : n = m
  · have HNM := hidm hnm
    have f0 : ((n : Int) != (m : Int)) = false := by simp; omega
    clear hnm
    go_enter Try.func59, Try.ntmps59
    go_wp2_with fail
    go_loopw [13] (fun ii wr => ∃ i : Nat, ii = .int .i64 i ∧ i ≤ n ∧ Hid (xs.take i = ys.take i) ∧ Hid (Below w.heap.size w wr)) (fun ii _ => (n - (intOf ii).toNat))
    case atStart => exact ⟨0, rfl, by omega, hidm rfl, hidm (Below.refl _ _)⟩
    case round =>
      obtain ⟨i, rfl, hi, HT, HBr⟩ := hrel
      rcases Nat.eq_or_lt_of_le hi with hie | hie
      · have f1 : ¬ (i : Int) < n := by omega
        have HE := hidm hie
        clear hie
        go_wp2_with fail
        go_ret
        refine ⟨congrArg (fun q => Ending.returned (.bool q)) ?_, HBr.out⟩
        rw [HF.out]
        have h := HT.out
        rw [List.take_of_length_le (by have := HE.out; have := HN.out; omega), List.take_of_length_le (by have := HE.out; have := HM.out; have := HNM.out; omega)] at h
        simp [h]
      · have f1 : (i : Int) < n := by omega
        have f2 : (i : Int) < m := by have := HNM.out; omega
        have hia : i < xs.length := by have := HN.out; omega
        have hib : i < ys.length := by have := HM.out; have := HNM.out; omega
        obtain ⟨b1, o1, c1, he1, _, q0, q1, q2⟩ := (HA.out.later HBr.out).at i hia
        obtain ⟨b2, o2, c2, he2, _, r0, r1, r2⟩ := (HB.out.later HBr.out).at i hib
        simp only [Value.slice.injEq, true_and] at he1 he2
        obtain ⟨rfl, rfl⟩ := he1
        obtain ⟨rfl, rfl⟩ := he2
        obtain ⟨x, hx⟩ : ∃ x, x = xs[i] := ⟨_, rfl⟩
        obtain ⟨y, hy⟩ : ∃ y, y = ys[i] := ⟨_, rfl⟩
        rw [← hx] at q0 q1 q2
        rw [← hy] at r0 r1 r2
        have HX := hidm hx
        have HY := hidm hy
        have f3 : (i : Int) < (n : Int) := f1
        clear hx hy
        have heq : eqC (S x.nm) x.k x.nd (S y.nm) y.k y.nd = x.same y := rfl
        rcases hsame : x.same y with _ | _
        · have f4 : eqC (S x.nm) x.k x.nd (S y.nm) y.k y.nd = false := heq.trans hsame
          clear heq
          go_wp2_with fail
          go_quiet (fail)
          go_wp2_with fail
          go_ret
          refine ⟨congrArg (fun q => Ending.returned (.bool q)) ?_, below_drewN HBr.out _⟩
          rw [HF.out]
          symm
          rw [decide_eq_false_iff_not]
          intro he
          have : x = y := by rw [HX.out, HY.out]; subst he; rfl
          rw [(C.same_iff x y).2 this] at hsame
          cases hsame
        · have f4 : eqC (S x.nm) x.k x.nd (S y.nm) y.k y.nd = true := heq.trans hsame
          have hxy := (C.same_iff x y).1 hsame
          have HT2 : Hid (xs.take (i + 1) = ys.take (i + 1)) := by
            refine hidm ?_
            rw [List.take_succ_eq_append_getElem hia, List.take_succ_eq_append_getElem hib, HT.out, ← HX.out, ← HY.out, hxy]
          have HXY := hidm hxy
          clear heq hxy
          go_wp2_with fail
          go_quiet (fail)
          go_wp2_with fail
          go_roundw
          case rel => exact ⟨i + 1, by go_num, by omega, HT2, hidm (below_drewN HBr.out _)⟩
          case measure => simp [intOf]; omega
  · have HNM := hidm hnm
    have f0 : ((n : Int) != (m : Int)) = true := by simp; omega
    clear hnm
    go_enter Try.func59, Try.ntmps59
    go_wp2_with fail
    go_ret
    refine ⟨congrArg (fun q => Ending.returned (.bool q)) ?_, Below.refl _ _⟩
    rw [HF.out]
    symm
    rw [decide_eq_false_iff_not]
    intro he
    have h1 := HN.out
    rw [he, ← HM.out] at h1
    exact HNM.out h1
theorem same_cases (a b : T) : (a.nm = b.nm → a.keys = b.keys → decide (a.cols = b.cols) = sameB a b) ∧ ((a.nm ≠ b.nm ∨ a.keys ≠ b.keys) → sameB a b = false) := by
  obtain ⟨n, c, k⟩ := a
  obtain ⟨n', c', k'⟩ := b
  unfold sameB
  constructor
  · intro h1 h2; simp only at h1 h2; subst h1 h2; simp [T.mk.injEq]
  · intro h; rw [decide_eq_false_iff_not]; intro he; cases he; simp at h
set_option maxHeartbeats 1000000 in
set_option maxRecDepth 100000 in
theorem same_any (a b : T) (sa sb : Value) (ha : a.cols.length ≤ 1000000) (hb : b.cols.length ≤ 1000000) (w : World) (h1 : ColsAt a.cols sa w) (h2 : ColsAt b.cols sb w) :
    Calls Try.prog 30 #[.agg #[.string (S a.nm), sa, .int .i64 a.keys], .agg #[.string (S b.nm), sb, .int .i64 b.keys]] w fun e w' => e = .returned (.bool (sameB a b)) ∧ Below w.heap.size w w' := by
  obtain ⟨ao, acap, rfl, _, _⟩ := h1.form
  obtain ⟨bo, bcap, rfl, _, _⟩ := h2.form
  have hb0 : Below w.heap.size w ((w.alloc (.cells #[.string (S a.nm), .slice ao a.cols.length acap, .int .i64 a.keys] 24)).alloc (.cells #[.string (S b.nm), .slice bo b.cols.length bcap, .int .i64 b.keys] 24)) := ((Below.refl _ _).alloc (Nat.le_refl _) _).alloc (by simp) _
  have E := equal_any a.cols b.cols (.slice ao a.cols.length acap) (.slice bo b.cols.length bcap) ha hb _ (h1.later hb0) (h2.later hb0)
  have HB0 := hidm hb0
  obtain ⟨F, hF⟩ : ∃ F, F = sameB a b := ⟨_, rfl⟩
  have hc := same_cases a b
  rw [← hF] at hc ⊢
  clear hF h1 h2 hb0 ha hb
  obtain ⟨an, ac, ak⟩ := a
  obtain ⟨bn, bc, bk⟩ := b
  by_cases hn : an = bn
  · subst hn
    by_cases hk : ak = bk
    · subst hk
      have hF := hidm (hc.1 rfl rfl)
      rw [hF.out] at E
      clear hc hF
      go_enter Try.func30, Try.ntmps30
      go_wp2_with fail
      refine E.mono ?_
      rintro e w1 ⟨rfl, hb⟩
      have HB := hidm (HB0.out.trans (hb.mono (by simp; omega)))
      clear hb E
      go_wp2_with fail
      go_ret
      exact ⟨rfl, HB.out⟩
    · have hF := hidm (hc.2 (.inr hk))
      have f2 : (ak == bk) = false := by simpa using hk
      clear hk hc E
      go_enter Try.func30, Try.ntmps30
      go_wp2_with fail
      go_ret
      exact ⟨Val.ret_bool hF.out.symm, HB0.out⟩
  · have hF := hidm (hc.2 (.inl hn))
    have f1 : (an == bn) = false := by simpa using hn
    clear hn hc E
    go_enter Try.func30, Try.ntmps30
    go_wp2_with fail
    go_ret
    exact ⟨Val.ret_bool hF.out.symm, HB0.out⟩
end Sch
end Go.Proofs.Ytopmbhpjdmcabaa
