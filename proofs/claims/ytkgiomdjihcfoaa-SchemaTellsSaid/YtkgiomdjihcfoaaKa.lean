/- The document's Same (layer 5). Condition: at most a million columns. -/
import Derived.Test.YtkgiomdjihcfoaaJm
namespace Go.Proofs.Ytkgiomdjihcfoaa
open Go.RowKit
namespace Sch
open Cod
set_option maxHeartbeats 4000000 in
set_option maxRecDepth 100000 in
theorem rsame_any (a b : T) (sa sb : Value) (ha : a.cols.length ≤ 1000000) (hb : b.cols.length ≤ 1000000) (w : World) (h1 : ColsAt a.cols sa w) (h2 : ColsAt b.cols sb w) :
    Calls Try.prog 18 #[.agg #[.string (S a.nm), sa, .int .i64 a.keys], .agg #[.string (S b.nm), sb, .int .i64 b.keys]] w fun e w' => e = .returned (.bool (sameB a b)) ∧ Below w.heap.size w w' := by
  obtain ⟨ao, ac, rfl, hac, _⟩ := h1.form
  obtain ⟨bo, bc, rfl, hbc, _⟩ := h2.form
  have HS0 := hidm (Boxed2.start a b ao ac bo bc w)
  have H1 := hidm h1
  have H2 := hidm h2
  have hc := same_cases a b
  obtain ⟨F, hF⟩ : ∃ F, F = sameB a b := ⟨_, rfl⟩
  rw [← hF] at hc ⊢
  clear hF h1 h2
  obtain ⟨an, acs, ak⟩ := a
  obtain ⟨bn, bcs, bk⟩ := b
  obtain ⟨n, hn⟩ : ∃ n, n = acs.length := ⟨_, rfl⟩
  obtain ⟨m, hm⟩ : ∃ n, n = bcs.length := ⟨_, rfl⟩
  have HN := hidm hn
  have HM := hidm hm
  simp only at ha hb hac hbc ⊢
  rw [← hn] at ha hac ⊢
  rw [← hm] at hb hbc ⊢
  clear hn hm
  by_cases hnm : an = bn
  · subst hnm
    by_cases hk : ak = bk
    · subst hk
      have HF := hidm (hc.1 rfl rfl)
      clear hc
      by_cases hl : n = m
      · subst hl
        go_enter Try.func18, Try.ntmps18
        go_wp2_with fail
        go_loopw [5] (fun ii wr => ∃ i : Nat, ii = .int .i64 i ∧ i ≤ n ∧ Hid (acs.take i = bcs.take i) ∧ Hid (Boxed2 ⟨an, acs, ak⟩ ⟨an, bcs, ak⟩ ao ac bo bc w wr)) (fun ii _ => (n - (intOf ii).toNat))
        case atStart => exact ⟨0, rfl, by omega, hidm rfl, by rw [HN.out]; have h := HS0; simp only [← HN.out, ← HM.out] at h ⊢; exact h⟩
        case round =>
          obtain ⟨i, rfl, hi, HT, HB⟩ := hrel
          have a1 := HB.out.a1
          have b1 := HB.out.b1
          simp only [← HN.out, ← HM.out] at a1 b1
          rcases Nat.lt_or_ge i n with hlt | hge
          · have f1 : (i : Int) < n := by omega
            have hia : i < acs.length := by have := HN.out; omega
            have hib : i < bcs.length := by have := HM.out; omega
            obtain ⟨b1', o1, c1, he1, _, q0, q1, q2⟩ := (H1.out.later HB.out.below).at i hia
            obtain ⟨b2', o2, c2, he2, _, r0, r1, r2⟩ := (H2.out.later HB.out.below).at i hib
            simp only [Value.slice.injEq] at he1 he2
            obtain ⟨rfl, _, rfl⟩ := he1
            obtain ⟨rfl, _, rfl⟩ := he2
            obtain ⟨x, hx⟩ : ∃ x, x = acs[i] := ⟨_, rfl⟩
            obtain ⟨y, hy⟩ : ∃ y, y = bcs[i] := ⟨_, rfl⟩
            rw [← hx] at q0 q1 q2
            rw [← hy] at r0 r1 r2
            have HX := hidm hx
            have HY := hidm hy
            clear hx hy
            have heq : eqC (S x.nm) x.k x.nd (S y.nm) y.k y.nd = x.same y := rfl
            rcases hsame : x.same y with _ | _
            · have f4 : eqC (S x.nm) x.k x.nd (S y.nm) y.k y.nd = false := heq.trans hsame
              have HNE := hidm (show F = false from by
                rw [← HF.out]
                rw [decide_eq_false_iff_not]
                intro he
                have : x = y := by rw [HX.out, HY.out]; subst he; rfl
                rw [(C.same_iff x y).2 this] at hsame
                cases hsame)
              clear heq hsame
              go_wp2_with fail
              go_quiet (fail)
              go_wp2_with fail
              go_ret
              exact ⟨Val.ret_bool HNE.out.symm, below_drewN HB.out.below _⟩
            · have f4 : eqC (S x.nm) x.k x.nd (S y.nm) y.k y.nd = true := heq.trans hsame
              have hxy := (C.same_iff x y).1 hsame
              have HT2 : Hid (acs.take (i + 1) = bcs.take (i + 1)) := by
                refine hidm ?_
                rw [List.take_succ_eq_append_getElem hia, List.take_succ_eq_append_getElem hib, HT.out, ← HX.out, ← HY.out, hxy]
              clear heq hxy hsame
              go_wp2_with fail
              go_quiet (fail)
              go_wp2_with fail
              go_roundw
              case rel => exact ⟨i + 1, by go_num, by omega, HT2, hidm (HB.out.then (below_drewN (Below.refl _ _) _))⟩
              case measure => simp [intOf]; omega
          · have f1 : ¬ (i : Int) < n := by omega
            obtain rfl : n = i := by omega
            have HTR := hidm (show F = true from by
              rw [← HF.out]; have h := HT.out
              rw [List.take_of_length_le (by have := HN.out; omega), List.take_of_length_le (by have := HM.out; omega)] at h
              exact decide_eq_true h)
            go_wp2_with fail
            go_ret
            exact ⟨Val.ret_bool HTR.out.symm, HB.out.below⟩
      · have HFF := hidm (show F = false from by
          rw [← HF.out]; exact decide_eq_false (fun e => hl (by rw [HN.out, HM.out]; exact congrArg List.length e)))
        have f0 : ((n : Int) != (m : Int)) = true := by simp; omega
        have HSB := hidm HS0.out.below
        go_enter Try.func18, Try.ntmps18
        go_wp2_with fail
        go_ret
        simp only [← HN.out, ← HM.out] at HSB
        exact ⟨Val.ret_bool HFF.out.symm, HSB.out⟩
    · have HFF := hidm (hc.2 (.inr hk))
      have f2 : (ak != bk) = true := by simpa using hk
      have HSB := hidm HS0.out.below
      clear hk hc
      go_enter Try.func18, Try.ntmps18
      go_wp2_with fail
      go_ret
      simp only [← HN.out, ← HM.out] at HSB
      exact ⟨Val.ret_bool HFF.out.symm, HSB.out⟩
  · have HFF := hidm (hc.2 (.inl hnm))
    have f1 : (an != bn) = true := by simpa using hnm
    have f2 : (an == bn) = false := by simpa using hnm
    have HSB := hidm HS0.out.below
    clear hnm hc
    go_enter Try.func18, Try.ntmps18
    go_wp2_with fail
    go_ret
    simp only [← HN.out, ← HM.out] at HSB
    exact ⟨Val.ret_bool HFF.out.symm, HSB.out⟩
end Sch
end Go.Proofs.Ytkgiomdjihcfoaa
