/- The law's light: do a schema and a row ask little? Condition: the lengths are below 2^63. -/
import Derived.Test.YtopmbhpjdmcabaaJp
import Derived.Test.YtopmbhpjdmcabaaJf
namespace Go.Proofs.Ytopmbhpjdmcabaa
open Go.RowKit
namespace Sch
open Cod
def lightB (s : T) (r : List V) : Bool := (decide (s.cols.length ≤ 20) && (decide (s.nm.length ≤ 100) && decide (r.length ≤ 30))) && (s.cols.all (fun c => decide (c.nm.length ≤ 100)) && r.all (fun v => decide (v.s.length ≤ 4200)))
theorem light_parts {s : T} {r : List V} (h : lightB s r = true) : s.cols.length ≤ 20 ∧ s.nm.length ≤ 100 ∧ r.length ≤ 30 ∧ (∀ c ∈ s.cols, c.nm.length ≤ 100) ∧ (∀ v ∈ r, v.s.length ≤ 4200) := by
  unfold lightB at h
  simp only [Bool.and_eq_true, decide_eq_true_eq, List.all_eq_true] at h
  exact ⟨h.1.1, h.1.2.1, h.1.2.2, h.2.1, h.2.2⟩
theorem all_take_succ {α : Type} {cs : List α} {p : α → Bool} {i : Nat} (hi : i < cs.length) : (cs.take (i + 1)).all p = ((cs.take i).all p && p cs[i]) := by
  rw [List.take_succ_eq_append_getElem hi, List.all_append]; simp
theorem all_not {α : Type} {cs : List α} {p : α → Bool} {i : Nat} (hi : i < cs.length) (h : p cs[i] = false) : cs.all p = false := by
  rw [List.all_eq_false]; exact ⟨_, List.getElem_mem hi, by simp [h]⟩
set_option maxHeartbeats 4000000 in
set_option maxRecDepth 100000 in
theorem light_any (s : T) (sl : Value) (r : List V) (rl : Value) (hcn : s.cols.length ≤ 9223372036854775807) (hrn : r.length ≤ 9223372036854775807) (w : World) (h : ColsAt s.cols sl w) (hr : RowAt r rl w) :
    Calls Try.prog 8 #[.agg #[.string (S s.nm), sl, .int .i64 s.keys], rl] w fun e w' => e = .returned (.bool (lightB s r)) ∧ Below w.heap.size w w' := by
  obtain ⟨ao, cap, rfl, _, _⟩ := h.form
  have H := hidm h
  have HRW := hidm hr
  obtain ⟨ro, rc, rfl, _⟩ := hr
  have HS0 := hidm (Boxed.start s ao cap w)
  obtain ⟨F, hF⟩ : ∃ F, F = lightB s r := ⟨_, rfl⟩
  rw [← hF]
  unfold lightB at hF
  have HF := hidm hF
  obtain ⟨n, hn⟩ : ∃ n, n = s.cols.length := ⟨_, rfl⟩
  obtain ⟨m, hm⟩ : ∃ m, m = r.length := ⟨_, rfl⟩
  obtain ⟨q, hq⟩ : ∃ q, q = (S s.nm).size := ⟨_, rfl⟩
  have HN := hidm hn
  have HM := hidm hm
  have HQ := hidm (show q = s.nm.length from by rw [hq, S_size])
  by_cases hg : n ≤ 20 ∧ q ≤ 100 ∧ m ≤ 30
  · obtain ⟨h1, h2, h3⟩ := hg
    have HFF := hidm (show F = (s.cols.all (fun c => decide (c.nm.length ≤ 100)) && r.all (fun v => decide (v.s.length ≤ 4200))) from by
      rw [HF.out, decide_eq_true (by omega), decide_eq_true (by have := HQ.out; omega), decide_eq_true (by omega)]; rfl)
    have hqs : s.nm.toArray.size = q := by have := HQ.out; simp [this]
    rw [← hn, ← hm]
    clear h hF hn hm hq hcn hrn
    go_enter Try.func8, Try.ntmps8
    go_wp2_with fail
    go_loopw [5] (fun ii wr => ∃ i : Nat, ii = .int .i64 i ∧ i ≤ n ∧ Hid (Boxed s ao cap w wr) ∧ Hid ((s.cols.take i).all (fun c => decide (c.nm.length ≤ 100)) = true)) (fun ii _ => (n - (intOf ii).toNat))
    case atStart => exact ⟨0, rfl, by omega, by rw [HN.out]; exact HS0, hidm (by simp)⟩
    case round =>
      obtain ⟨i, rfl, hi, HB, HP⟩ := hrel
      have c1 := HB.out.c1
      rw [← HN.out] at c1
      rcases Nat.lt_or_ge i n with hlt | hge
      · have f1 : (i : Int) < n := by omega
        have hia : i < s.cols.length := by have := HN.out; omega
        obtain ⟨b1, o1, cp, he1, _, q0, q1, q2⟩ := (H.out.later HB.out.below).at i hia
        simp only [Value.slice.injEq] at he1
        obtain ⟨rfl, _, rfl⟩ := he1
        obtain ⟨x, hx⟩ : ∃ x, x = s.cols[i] := ⟨_, rfl⟩
        rw [← hx] at q0
        have HX := hidm hx
        clear hx q1 q2
        obtain ⟨xl, hxl⟩ : ∃ l, l = x.nm.length := ⟨_, rfl⟩
        have hxs : x.nm.toArray.size = xl := by simp [hxl]
        have HXL := hidm hxl
        clear hxl
        rcases Nat.lt_or_ge 100 xl with h9 | h9
        · have HF0 := hidm (show F = false from by rw [HFF.out, all_not hia (by rw [← HX.out]; exact decide_eq_false (by have := HXL.out; omega))]; rfl)
          have f2 : (100 : Int) < xl := by omega
          go_wp2_with fail
          go_ret
          exact ⟨Val.ret_bool HF0.out.symm, HB.out.below⟩
        · have f2 : ¬ (100 : Int) < xl := by omega
          have HP2 := hidm (show (s.cols.take (i + 1)).all (fun c => decide (c.nm.length ≤ 100)) = true from by
            rw [all_take_succ hia, HP.out, ← HX.out, Bool.true_and]; exact decide_eq_true (by have := HXL.out; omega))
          go_wp2_with fail
          go_roundw
          case rel => exact ⟨i + 1, by go_num, by omega, HB, HP2⟩
          case measure => simp [intOf]; omega
      · have f1 : ¬ (i : Int) < n := by omega
        obtain rfl : n = i := by omega
        have HF1 := hidm (show F = r.all (fun v => decide (v.s.length ≤ 4200)) from by
          have h := HP.out; rw [HN.out, List.take_length] at h; rw [HFF.out, h, Bool.true_and])
        clear HFF HP HF hi hge
        go_wp2_with fail
        go_loopw [6] (fun ii wr => ∃ i : Nat, ii = .int .i64 i ∧ i ≤ m ∧ Hid (Boxed s ao cap w wr) ∧ Hid ((r.take i).all (fun v => decide (v.s.length ≤ 4200)) = true)) (fun ii _ => (m - (intOf ii).toNat))
        case atStart => exact ⟨0, rfl, by omega, HB, hidm (by simp)⟩
        case round =>
          clear HB c1
          obtain ⟨i, rfl, hi, HB, HP⟩ := hrel
          rcases Nat.lt_or_ge i m with hlt | hge
          · have f1 : (i : Int) < m := by omega
            have hia : i < r.length := by have := HM.out; omega
            obtain ⟨b1, o1, cp, he1, _, q0, q1, q2, q3⟩ := (HRW.out.later HB.out.below).at i hia
            simp only [Value.slice.injEq] at he1
            obtain ⟨rfl, _, rfl⟩ := he1
            obtain ⟨x, hx⟩ : ∃ x, x = r[i] := ⟨_, rfl⟩
            rw [← hx] at q3
            have HX := hidm hx
            clear hx q0 q1 q2
            obtain ⟨xl, hxl⟩ : ∃ l, l = x.s.length := ⟨_, rfl⟩
            have hxs : x.s.toArray.size = xl := by simp [hxl]
            have HXL := hidm hxl
            clear hxl
            rcases Nat.lt_or_ge 4200 xl with h9 | h9
            · have HF0 := hidm (show F = false from by rw [HF1.out, all_not hia (by rw [← HX.out]; exact decide_eq_false (by have := HXL.out; omega))])
              have f2 : (4200 : Int) < xl := by omega
              go_wp2_with fail
              go_ret
              exact ⟨Val.ret_bool HF0.out.symm, HB.out.below⟩
            · have f2 : ¬ (4200 : Int) < xl := by omega
              have HP2 := hidm (show (r.take (i + 1)).all (fun v => decide (v.s.length ≤ 4200)) = true from by
                rw [all_take_succ hia, HP.out, ← HX.out, Bool.true_and]; exact decide_eq_true (by have := HXL.out; omega))
              go_wp2_with fail
              go_roundw
              case rel => exact ⟨i + 1, by go_num, by omega, HB, HP2⟩
              case measure => simp [intOf]; omega
          · have f1 : ¬ (i : Int) < m := by omega
            obtain rfl : m = i := by omega
            have HF2 := hidm (show F = true from by have h := HP.out; rw [HM.out, List.take_length] at h; rw [HF1.out, h])
            go_wp2_with fail
            go_ret
            exact ⟨Val.ret_bool HF2.out.symm, HB.out.below⟩
  · have HFF := hidm (show F = false from by
      rw [HF.out]
      have : (decide (s.cols.length ≤ 20) && (decide (s.nm.length ≤ 100) && decide (r.length ≤ 30))) = false := by
        rw [Bool.eq_false_iff]; intro hh; simp only [Bool.and_eq_true, decide_eq_true_eq] at hh
        exact hg ⟨by omega, by have := HQ.out; omega, by omega⟩
      rw [this]; rfl)
    have hcase : 20 < n ∨ (n ≤ 20 ∧ 100 < q) ∨ (n ≤ 20 ∧ q ≤ 100 ∧ 30 < m) := by omega
    have hqs : s.nm.toArray.size = q := by have := HQ.out; simp [this]
    rw [← hn, ← hm]
    have HSN := hidm (show Below w.heap.size w (w.alloc (.cells #[.string (S s.nm), .slice ao n cap, .int .i64 s.keys] 24)) from (Below.refl _ _).alloc (Nat.le_refl _) _)
    clear h hF hn hm hq hcn hrn hg
    rcases hcase with h1 | ⟨h1, h2⟩ | ⟨h1, h2, h3⟩
    all_goals
      go_enter Try.func8, Try.ntmps8
      go_wp2_with fail
      go_ret
      exact ⟨Val.ret_bool HFF.out.symm, HSN.out⟩
end Sch
end Go.Proofs.Ytopmbhpjdmcabaa
