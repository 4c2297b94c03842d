/- The program's Same of pieces. Condition: no more than a million values a row, a thousand pieces. -/
import Derived.Test.YtoacombaddknfaaR3
import Derived.Test.YtoacombaddknfaaIj0
namespace Go.Proofs.Ytoacombaddknfaa
open Go.RowKit
namespace Prd
open Spn (Sp hide At below_alloc Right)
open Cod (V RowAt S)
theorem pc_eq {x y : Pm} : x.pc = y.pc ↔ x.s = y.s ∧ x.r = y.r := by unfold Pm.pc; exact Prod.mk.injEq .. ▸ Iff.rfl
set_option maxHeartbeats 2000000 in
set_option maxRecDepth 100000 in
theorem same1_any (x y : Pm) (w : World) (hx : RowAt x.r x.sl w) (hy : RowAt y.r y.sl w) (hxl : x.r.length ≤ 1000000) (hyl : y.r.length ≤ 1000000) :
    Calls Try.prog 50 #[.agg #[.int .i64 x.s.1, .int .i64 x.s.2, .slice x.ro x.r.length x.rc], .agg #[.int .i64 y.s.1, .int .i64 y.s.2, .slice y.ro y.r.length y.rc]] w fun e w' => e = .returned (.bool (decide (x.pc = y.pc))) ∧ Below w.heap.size w w' := by
  have HB := hide ((below_alloc w (.cells #[.int .i64 x.s.1, .int .i64 x.s.2, .slice x.ro x.r.length x.rc] 56)).trans ((below_alloc (w.alloc (.cells #[.int .i64 x.s.1, .int .i64 x.s.2, .slice x.ro x.r.length x.rc] 56)) (.cells #[.int .i64 y.s.1, .int .i64 y.s.2, .slice y.ro y.r.length y.rc] 56)).mono (by simp)))
  by_cases hs : x.s = y.s
  · have f0 : Spn.neS x.s.1 x.s.2 y.s.1 y.s.2 = false := by rw [hs]; exact Spn.neS_no _
    have C1 := hide (Cod.equal_any x.r y.r x.sl y.sl hxl hyl _ (hx.later HB.out) (hy.later HB.out))
    have HE := hide (show decide (x.pc = y.pc) = decide (x.r = y.r) from decide_eq_decide.2 (by rw [pc_eq]; exact ⟨fun h => h.2, fun h => ⟨hs, h⟩⟩))
    obtain ⟨F, hF⟩ : ∃ F, F = decide (x.r = y.r) := ⟨_, rfl⟩
    rw [← hF] at C1 HE
    rw [HE.out]
    clear hs hx hy hF
    go_enter Try.func50, Try.ntmps50
    go_wp2_with fail
    refine C1.out.mono ?_
    rintro e w1 ⟨rfl, hb⟩
    have HB1 := hide (HB.out.trans (hb.mono HB.out.size))
    clear hb C1
    go_wp2_with fail
    go_ret
    exact ⟨rfl, HB1.out⟩
  · have f0 : Spn.neS x.s.1 x.s.2 y.s.1 y.s.2 = true := Spn.neS_yes hs
    have HE := hide (show decide (x.pc = y.pc) = false from decide_eq_false (fun h => hs (pc_eq.1 h).1))
    rw [HE.out]
    clear hs hx hy
    go_enter Try.func50, Try.ntmps50
    go_wp2_with fail
    go_ret
    exact ⟨rfl, HB.out⟩
theorem same1_is {x y : Pm} {b : Bool} (he : decide (x.pc = y.pc) = b) (w : World) (hx : RowAt x.r x.sl w) (hy : RowAt y.r y.sl w) (hxl : x.r.length ≤ 1000000) (hyl : y.r.length ≤ 1000000) :
    Calls Try.prog 50 #[.agg #[.int .i64 x.s.1, .int .i64 x.s.2, .slice x.ro x.r.length x.rc], .agg #[.int .i64 y.s.1, .int .i64 y.s.2, .slice y.ro y.r.length y.rc]] w fun e w' => e = .returned (.bool b) ∧ Below w.heap.size w w' := he ▸ same1_any x y w hx hy hxl hyl
set_option maxHeartbeats 8000000 in
set_option maxRecDepth 100000 in
theorem eqfunc_any {l m : List Pm} {sl sm : Value} {w : World} (h : PcsAt l sl w) (hr : Rows3 l w) (hs : Small l) (h' : PcsAt m sm w) (hr' : Rows3 m w) (hs' : Small m) :
    Calls Try.prog 49 #[sl, sm, .func (.func 50) #[] #[]] w fun e w' => e = .returned (.bool (decide (pcs l = pcs m))) ∧ Below w.heap.size w w' := by
  obtain ⟨ao, acap, rfl, _, _⟩ := h.form
  obtain ⟨bo, bcap, rfl, _, _⟩ := h'.form
  have HA := hide h
  have HB := hide h'
  have HRA := hide hr
  have HRB := hide hr'
  have HSA := hide hs
  have HSB := hide hs'
  obtain ⟨n, hn⟩ : ∃ n, n = l.length := ⟨_, rfl⟩
  obtain ⟨k, hk⟩ : ∃ k, k = m.length := ⟨_, rfl⟩
  obtain ⟨F, hF⟩ : ∃ F, F = decide (pcs l = pcs m) := ⟨_, rfl⟩
  have hl : n ≤ 1000 := by rw [hn]; exact hs.n
  rw [← hn, ← hk, ← hF]
  have HN := hide hn
  have HM := hide hk
  have HF := hide hF
  clear h h' hr hr' hs hs' hn hk hF
  by_cases hnm : n = k
  · have HNM := hide hnm
    have f0 : ((n : Int) != (k : Int)) = false := by simp; omega
    clear hnm
    go_enter Try.func49, Try.ntmps49
    go_wp2_with fail
    go_loopw [17] (fun ii wr => ∃ i : Nat, ii = .int .i64 i ∧ i ≤ n ∧ Hid ((pcs l).take i = (pcs m).take i) ∧ Hid (Below w.heap.size w wr)) (fun ii _ => (n - (intOf ii).toNat))
    case atStart => exact ⟨0, rfl, by omega, hide rfl, hide (Below.refl _ _)⟩
    case round =>
      rename World => wr
      obtain ⟨i, rfl, hi, HT, HBr⟩ := hrel
      rcases Nat.eq_or_lt_of_le hi with hie | hie
      · have f1 : ¬ (i : Int) < n := by omega
        have HE := hide hie
        clear hie
        go_wp2_with fail
        go_ret
        refine ⟨congrArg (fun q => Ending.returned (.bool q)) ?_, HBr.out⟩
        rw [HF.out]
        have h := HT.out
        rw [List.take_of_length_le (by rw [pcs_len]; have := HE.out; have := HN.out; omega), List.take_of_length_le (by rw [pcs_len]; have := HE.out; have := HM.out; have := HNM.out; omega)] at h
        simp [h]
      · have f1 : (i : Int) < n := by omega
        have f2 : (i : Int) < k := by have := HNM.out; omega
        have hia : i < l.length := by have := HN.out; omega
        have hib : i < m.length := by have := HM.out; have := HNM.out; omega
        obtain ⟨b1, o1, c1, he1, _, q0, q1, q2⟩ := (HA.out.later HBr.out (Nat.le_refl _)).at i hia
        obtain ⟨b2, o2, c2, he2, hlt2, r0, r1, r2⟩ := (HB.out.later HBr.out (Nat.le_refl _)).at i hib
        rw [← HN.out] at he1
        rw [← HM.out] at he2
        simp only [Value.slice.injEq, true_and] at he1 he2
        obtain ⟨rfl, rfl⟩ := he1
        obtain ⟨rfl, rfl⟩ := he2
        have ha9 := List.getElem_mem hia
        have hb9 := List.getElem_mem hib
        have HT9 := hide (show decide ((l[i]).pc = (m[i]).pc) = true → (pcs l).take (i + 1) = (pcs m).take (i + 1) from fun he => by
          have hil2 : i < (pcs l).length := by rw [pcs_len]; exact hia
          have him2 : i < (pcs m).length := by rw [pcs_len]; exact hib
          rw [List.take_succ_eq_append_getElem hil2, List.take_succ_eq_append_getElem him2, HT.out, pcs_at l i hia, pcs_at m i hib, of_decide_eq_true he])
        have HF9 := hide (show decide ((l[i]).pc = (m[i]).pc) = false → F = false from fun he => by
          rw [HF.out, decide_eq_false_iff_not]
          intro h9
          refine of_decide_eq_false he ?_
          rw [← pcs_at l i hia, ← pcs_at m i hib]
          simp only [h9])
        obtain ⟨x, hx⟩ : ∃ x, x = l[i] := ⟨_, rfl⟩
        obtain ⟨y, hy⟩ : ∃ y, y = m[i] := ⟨_, rfl⟩
        rw [← hx] at q0 q1 q2 ha9 HT9 HF9
        rw [← hy] at r0 r1 r2 hb9 HT9 HF9
        have HXL := hide (HSA.out.r _ ha9)
        have HYL := hide (HSB.out.r _ hb9)
        have HXR := hide (show ∀ u : World, Below w.heap.size w u → RowAt x.r x.sl u from fun u hu => (HRA.out.later hu) _ ha9)
        have HYR := hide (show ∀ u : World, Below w.heap.size w u → RowAt y.r y.sl u from fun u hu => (HRB.out.later hu) _ hb9)
        have hb0 := below_alloc wr (.cells #[.int .i64 x.s.1, .int .i64 x.s.2, .slice x.ro x.r.length x.rc] 56)
        have HBA := hide (HBr.out.trans ((hb0.trans ((below_alloc (wr.alloc (.cells #[.int .i64 x.s.1, .int .i64 x.s.2, .slice x.ro x.r.length x.rc] 56)) (.cells #[.int .i64 y.s.1, .int .i64 y.s.2, .slice y.ro y.r.length y.rc] 56)).mono (by simp))).mono HBr.out.size))
        clear hx hy ha9 hb9 hb0
        cases he : decide (x.pc = y.pc) with
        | true =>
          have HE := hide he
          have HT2 := hide (HT9.out he)
          clear he
          go_wp2_with (go_at_call 50; refine (same1_is HE.out _ (HXR.out _ HBA.out) (HYR.out _ HBA.out) HXL.out HYL.out).mono ?_; rintro e w1 ⟨rfl, hb1⟩)
          have HB2 := hide (HBA.out.trans (hb1.mono HBA.out.size))
          clear hb1
          go_wp2_with fail
          go_roundw
          case rel => exact ⟨i + 1, by go_num, by omega, HT2, HB2⟩
          case measure => simp [intOf]; omega
        | false =>
          have HE := hide he
          have HT2 := hide (HF9.out he)
          clear he
          go_wp2_with (go_at_call 50; refine (same1_is HE.out _ (HXR.out _ HBA.out) (HYR.out _ HBA.out) HXL.out HYL.out).mono ?_; rintro e w1 ⟨rfl, hb1⟩)
          have HB2 := hide (HBA.out.trans (hb1.mono HBA.out.size))
          clear hb1
          go_wp2_with fail
          go_ret
          exact ⟨Spn.ret_bool HT2.out.symm, HB2.out⟩
  · have f0 : ((n : Int) != (k : Int)) = true := by simp; omega
    have HE := hide (show F = false from by
      rw [HF.out, decide_eq_false_iff_not]
      intro h9
      have := congrArg List.length h9
      rw [pcs_len, pcs_len, ← HN.out, ← HM.out] at this
      exact hnm this)
    clear hnm
    go_enter Try.func49, Try.ntmps49
    go_wp2_with fail
    go_ret
    exact ⟨Spn.ret_bool HE.out.symm, Below.refl _ _⟩
set_option maxRecDepth 100000 in
theorem same_any {l m : List Pm} {sl sm : Value} {w : World} (h : PcsAt l sl w) (hr : Rows3 l w) (hs : Small l) (h' : PcsAt m sm w) (hr' : Rows3 m w) (hs' : Small m) :
    Calls Try.prog 27 #[sl, sm] w fun e w' => e = .returned (.bool (decide (pcs l = pcs m))) ∧ Below w.heap.size w w' := by
  have C1 := hide (eqfunc_any h hr hs h' hr' hs')
  obtain ⟨F, hF⟩ : ∃ F, F = decide (pcs l = pcs m) := ⟨_, rfl⟩
  rw [← hF] at C1 ⊢
  clear h hr hs h' hr' hs' hF
  go_enter Try.func27, Try.ntmps27
  go_wp2_with fail
  refine C1.out.mono ?_
  rintro e w1 ⟨rfl, hb⟩
  have HB := hide hb
  clear hb C1
  go_wp2_with fail
  go_ret
  exact ⟨rfl, HB.out⟩
end Prd
end Go.Proofs.Ytoacombaddknfaa
