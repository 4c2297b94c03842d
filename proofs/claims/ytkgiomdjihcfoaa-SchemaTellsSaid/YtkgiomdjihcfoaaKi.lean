/- The document's Extends (layer 5). Condition: names are at most 2^48 bytes, and there are at most a million columns. -/
import Derived.Test.YtkgiomdjihcfoaaKf
import Derived.Test.YtkgiomdjihcfoaaKb
import Derived.Test.YtkgiomdjihcfoaaJm
namespace Go.Proofs.Ytkgiomdjihcfoaa
open Go.RowKit
namespace Sch
open Cod
def stepB (a b : T) (i : Nat) : Bool := match a.cols[i]?, b.cols[i]? with
  | some x, some y => decide (x = y)
  | none, some y => !y.nd
  | _, none => true
theorem step_in {a b : T} {i : Nat} (h1 : i < a.cols.length) (h2 : i < b.cols.length) : stepB a b i = decide (a.cols[i] = b.cols[i]) := by
  unfold stepB; rw [List.getElem?_eq_getElem h1, List.getElem?_eq_getElem h2]
theorem step_out {a b : T} {i : Nat} (h1 : a.cols.length ≤ i) (h2 : i < b.cols.length) : stepB a b i = !b.cols[i].nd := by
  unfold stepB; rw [List.getElem?_eq_none h1, List.getElem?_eq_getElem h2]
theorem ext_no {a b : T} {i : Nat} (hi : i < b.cols.length) (h : stepB a b i = false) : extB a b = false := by
  rw [Bool.eq_false_iff]
  intro he
  have he := (ext_iff _ _).1 he
  rcases Nat.lt_or_ge i a.cols.length with h1 | h1
  · rw [step_in h1 hi] at h
    have q : a.cols[i]? = (b.cols.take a.cols.length)[i]? := by rw [← he.cs]
    rw [List.getElem?_take_of_lt h1, List.getElem?_eq_getElem h1, List.getElem?_eq_getElem hi] at q
    have := of_decide_eq_false h
    exact this (Option.some.inj q)
  · rw [step_out h1 hi] at h
    have e : b.cols[i] = (b.cols.drop a.cols.length)[i - a.cols.length]'(by rw [List.length_drop]; omega) := by
      rw [List.getElem_drop]; congr 1; omega
    have := he.nd b.cols[i] (by rw [e]; exact List.getElem_mem _)
    rw [this] at h; cases h
theorem ext_yes {a b : T} (ra : rightB a = true) (rb : rightB b = true) (le : a.cols.length ≤ b.cols.length) (nm : a.nm = b.nm) (ks : a.keys = b.keys) (h : ∀ i, i < b.cols.length → stepB a b i = true) : extB a b = true := by
  refine (ext_iff _ _).2 ⟨ra, rb, le, nm, ks, ?_, ?_⟩
  · apply List.ext_getElem
    · rw [List.length_take]; omega
    · intro i h1 h2
      have q := h i (by omega)
      rw [step_in h1 (by omega)] at q
      rw [List.getElem_take]
      exact of_decide_eq_true q
  · intro c hc
    obtain ⟨j, hj, rfl⟩ := List.getElem_of_mem hc
    rw [List.length_drop] at hj
    have q := h (a.cols.length + j) (by omega)
    rw [step_out (by omega) (by omega)] at q
    rw [List.getElem_drop]
    simpa using q
theorem ext_head {a b : T} (h : rightB a = false ∨ rightB b = false ∨ a.nm ≠ b.nm ∨ a.keys ≠ b.keys ∨ b.cols.length < a.cols.length) : extB a b = false := by
  rw [Bool.eq_false_iff]
  intro he
  have he := (ext_iff _ _).1 he
  rcases h with h | h | h | h | h
  · rw [he.ra] at h; cases h
  · rw [he.rb] at h; cases h
  · exact h he.nm
  · exact h he.ks
  · have := he.le; omega
set_option maxHeartbeats 8000000 in
set_option maxRecDepth 100000 in
theorem rextends_any (a b : T) (la : Lim a) (lb : Lim b) (sa sb : Value) (w : World) (h1 : ColsAt a.cols sa w) (h2 : ColsAt b.cols sb w) :
    Calls Try.prog 16 #[.agg #[.string (S a.nm), sa, .int .i64 a.keys], .agg #[.string (S b.nm), sb, .int .i64 b.keys]] w fun e w' => e = .returned (.bool (extB a b)) ∧ Below w.heap.size w w' := by
  obtain ⟨ao, ac, rfl, hac, _⟩ := h1.form
  obtain ⟨bo, bc, rfl, hbc, _⟩ := h2.form
  have HS0 := hidm (Boxed2.start a b ao ac bo bc w)
  have H1 := hidm h1
  have H2 := hidm h2
  have LA := hidm la
  have LB := hidm lb
  obtain ⟨F, hF⟩ : ∃ F, F = extB a b := ⟨_, rfl⟩
  rw [← hF]
  have HF := hidm hF
  clear hF h1 h2 la lb
  rcases ra : rightB a with _ | _
  · have HFF := hidm (show F = false from by rw [HF.out]; exact ext_head (.inl ra))
    have R := rright_is ra LA.out _ _ (H1.out.later HS0.out.below)
    clear ra
    go_enter Try.func16, Try.ntmps16
    go_wp2_with fail
    refine R.mono ?_
    rintro e w1 ⟨rfl, hb1⟩
    have HB1 := hidm (HS0.out.then hb1)
    clear hb1 R
    go_wp2_with fail
    go_ret
    exact ⟨Val.ret_bool HFF.out.symm, HB1.out.below⟩
  · have R := rright_is ra LA.out _ _ (H1.out.later HS0.out.below)
    have RA := hidm ra
    clear ra
    rcases rb : rightB b with _ | _
    · have HFF := hidm (show F = false from by rw [HF.out]; exact ext_head (.inr (.inl rb)))
      have RB := hidm rb
      clear rb
      go_enter Try.func16, Try.ntmps16
      go_wp2_with fail
      refine R.mono ?_
      rintro e w1 ⟨rfl, hb1⟩
      have HB1 := hidm (HS0.out.then hb1)
      have R2 := rright_is RB.out LB.out _ w1 (H2.out.later HB1.out.below)
      have b0 := HB1.out.b0
      have b1 := HB1.out.b1
      have b2 := HB1.out.b2
      clear hb1 R
      go_wp2_with fail
      refine R2.mono ?_
      rintro e w2 ⟨rfl, hb2⟩
      have HB2 := hidm (HB1.out.then hb2)
      clear hb2 R2 b0 b1 b2
      go_wp2_with fail
      go_ret
      exact ⟨Val.ret_bool HFF.out.symm, HB2.out.below⟩
    · have RB := hidm rb
      clear rb
      go_enter Try.func16, Try.ntmps16
      go_wp2_with fail
      refine R.mono ?_
      rintro e w1 ⟨rfl, hb1⟩
      have HB1 := hidm (HS0.out.then hb1)
      have R2 := rright_is RB.out LB.out _ w1 (H2.out.later HB1.out.below)
      have b0 := HB1.out.b0
      have b1 := HB1.out.b1
      have b2 := HB1.out.b2
      clear hb1 R
      go_wp2_with fail
      refine R2.mono ?_
      rintro e w2 ⟨rfl, hb2⟩
      have HB2 := hidm (HB1.out.then hb2)
      clear hb2 R2 b0 b1 b2
      have a0 := HB2.out.a0
      have a1 := HB2.out.a1
      have a2 := HB2.out.a2
      have b0 := HB2.out.b0
      have b1 := HB2.out.b1
      have b2 := HB2.out.b2
      obtain ⟨an, acs, ak⟩ := a
      obtain ⟨bn, bcs, bk⟩ := b
      simp only at a0 a1 a2 b0 b1 b2 hac hbc
      by_cases hnm : an = bn
      · subst hnm
        by_cases hk : ak = bk
        · subst hk
          obtain ⟨n, hn⟩ : ∃ n, n = acs.length := ⟨_, rfl⟩
          obtain ⟨m, hm⟩ : ∃ n, n = bcs.length := ⟨_, rfl⟩
          have HN := hidm hn
          have HM := hidm hm
          have hn6 : n ≤ 1000000 := by have h := LA.out.n; simp only at h; omega
          have hm6 : m ≤ 1000000 := by have h := LB.out.n; simp only at h; omega
          simp only [← hn] at a1
          simp only [← hm] at b1
          clear hn hm hac hbc
          rcases Nat.lt_or_ge m n with hmn | hmn
          · have HFF := hidm (show F = false from by rw [HF.out]; exact ext_head (.inr (.inr (.inr (.inr (by simp only; have := HN.out; have := HM.out; omega))))))
            go_wp2_with fail
            go_ret
            exact ⟨Val.ret_bool HFF.out.symm, HB2.out.below⟩
          · have hmn2 : decide (m < n) = false := decide_eq_false (by omega)
            go_wp2_with fail
            clear a0 a1 a2 b0 b1 b2
            go_loopw [5] (fun ii wr => ∃ i : Nat, ii = .int .i64 i ∧ i ≤ m ∧ Hid (Boxed2 ⟨an, acs, ak⟩ ⟨an, bcs, ak⟩ ao ac bo bc w wr) ∧ Hid (∀ j, j < i → stepB ⟨an, acs, ak⟩ ⟨an, bcs, ak⟩ j = true)) (fun ii _ => (m - (intOf ii).toNat))
            case atStart => exact ⟨0, rfl, by omega, HB2, hidm (fun j hj => by omega)⟩
            case round =>
              clear HB2
              obtain ⟨i, rfl, hi, HB, HP⟩ := hrel
              have a1 := HB.out.a1
              have b1 := HB.out.b1
              simp only [← HN.out] at a1
              simp only [← HM.out] at b1
              rcases Nat.lt_or_ge i m with hlt | hge
              · have f1 : (i : Int) < m := by omega
                have hib : i < bcs.length := by have := HM.out; omega
                obtain ⟨b2', o2, c2, he2, _, r0, r1, r2⟩ := (H2.out.later HB.out.below).at i hib
                simp only [Value.slice.injEq] at he2
                obtain ⟨rfl, _, rfl⟩ := he2
                obtain ⟨y, hy⟩ : ∃ y, y = bcs[i] := ⟨_, rfl⟩
                rw [← hy] at r0 r1 r2
                have HY := hidm hy
                clear hy
                rcases Nat.lt_or_ge i n with hin | hin
                · have g1 : (i : Int) < n := by omega
                  have g2 : decide ((n : Int) ≤ i) = false := decide_eq_false (by omega)
                  have g3 : decide (n ≤ i) = false := decide_eq_false (by omega)
                  have hia : i < acs.length := by have := HN.out; omega
                  obtain ⟨b1', o1, c1, he1, _, q0, q1, q2⟩ := (H1.out.later HB.out.below).at i hia
                  simp only [Value.slice.injEq] at he1
                  obtain ⟨rfl, _, rfl⟩ := he1
                  obtain ⟨x, hx⟩ : ∃ x, x = acs[i] := ⟨_, rfl⟩
                  rw [← hx] at q0 q1 q2
                  have HX := hidm hx
                  clear hx
                  have heq : eqC (S x.nm) x.k x.nd (S y.nm) y.k y.nd = x.same y := rfl
                  have hst := step_in (a := ⟨an, acs, ak⟩) (b := ⟨an, bcs, ak⟩) hia hib
                  simp only [← HX.out, ← HY.out] at hst
                  rcases hsame : x.same y with _ | _
                  · have f4 : eqC (S x.nm) x.k x.nd (S y.nm) y.k y.nd = false := heq.trans hsame
                    have HFF := hidm (show F = false from by
                      rw [HF.out]
                      refine ext_no (i := i) hib ?_
                      rw [hst]
                      refine decide_eq_false (fun e => ?_)
                      rw [(C.same_iff x y).2 e] at hsame; cases hsame)
                    clear heq hsame hst
                    go_wp2_with fail
                    go_quiet (fail)
                    go_wp2_with fail
                    go_ret
                    exact ⟨Val.ret_bool HFF.out.symm, below_drewN HB.out.below _⟩
                  · have f4 : eqC (S x.nm) x.k x.nd (S y.nm) y.k y.nd = true := heq.trans hsame
                    have HP2 := hidm (show ∀ j, j < i + 1 → stepB ⟨an, acs, ak⟩ ⟨an, bcs, ak⟩ j = true from fun j hj => by
                      rcases Nat.lt_or_ge j i with h | h
                      · exact HP.out j h
                      · obtain rfl : j = i := by omega
                        rw [hst]; exact decide_eq_true ((C.same_iff x y).1 hsame))
                    clear heq hsame hst
                    go_wp2_with fail
                    go_quiet (fail)
                    go_wp2_with fail
                    go_roundw
                    case rel => exact ⟨i + 1, by go_num, by omega, hidm (HB.out.then (below_drewN (Below.refl _ _) _)), HP2⟩
                    case measure => simp [intOf]; omega
                · have g1 : ¬ (i : Int) < n := by omega
                  have g2 : (n : Int) ≤ i := by omega
                  have g3 : decide (i < n) = false := decide_eq_false (by omega)
                  have hst := step_out (a := ⟨an, acs, ak⟩) (b := ⟨an, bcs, ak⟩) (show acs.length ≤ i by have := HN.out; omega) hib
                  simp only [← HY.out] at hst
                  obtain ⟨dd, hdd⟩ : ∃ d, d = y.nd := ⟨_, rfl⟩
                  rw [← hdd] at hst r2
                  clear hdd
                  rcases dd with _ | _
                  · have HP2 := hidm (show ∀ j, j < i + 1 → stepB ⟨an, acs, ak⟩ ⟨an, bcs, ak⟩ j = true from fun j hj => by
                      rcases Nat.lt_or_ge j i with h | h
                      · exact HP.out j h
                      · obtain rfl : j = i := by omega
                        rw [hst]; rfl)
                    clear hst
                    go_wp2_with fail
                    go_quiet (fail)
                    go_wp2_with fail
                    go_roundw
                    case rel => exact ⟨i + 1, by go_num, by omega, hidm (HB.out.then (below_drewN (Below.refl _ _) _)), HP2⟩
                    case measure => simp [intOf]; omega
                  · have HFF := hidm (show F = false from by rw [HF.out]; exact ext_no (i := i) hib (by rw [hst]; rfl))
                    clear hst
                    go_wp2_with fail
                    go_quiet (fail)
                    go_wp2_with fail
                    go_ret
                    exact ⟨Val.ret_bool HFF.out.symm, below_drewN HB.out.below _⟩
              · have f1 : ¬ (i : Int) < m := by omega
                obtain rfl : m = i := by omega
                have HFF := hidm (show F = true from by
                  rw [HF.out]
                  exact ext_yes RA.out RB.out (by simp only; have := HN.out; have := HM.out; omega) rfl rfl (fun j hj => HP.out j (by simp only at hj; rw [HM.out]; exact hj)))
                go_wp2_with fail
                go_ret
                exact ⟨Val.ret_bool HFF.out.symm, HB.out.below⟩
        · have HFF := hidm (show F = false from by rw [HF.out]; exact ext_head (.inr (.inr (.inr (.inl hk)))))
          have f2 : (ak != bk) = true := by simpa using hk
          clear hk
          go_wp2_with fail
          go_ret
          exact ⟨Val.ret_bool HFF.out.symm, HB2.out.below⟩
      · have HFF := hidm (show F = false from by rw [HF.out]; exact ext_head (.inr (.inr (.inl hnm))))
        have f1 : (an != bn) = true := by simpa using hnm
        have f2 : (an == bn) = false := by simpa using hnm
        clear hnm
        go_wp2_with fail
        go_ret
        exact ⟨Val.ret_bool HFF.out.symm, HB2.out.below⟩
end Sch
end Go.Proofs.Ytkgiomdjihcfoaa
