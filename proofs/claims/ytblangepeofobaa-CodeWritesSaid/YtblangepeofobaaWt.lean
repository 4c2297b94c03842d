/- The document's own Row (layer 2). Conditions: the slice holds at most a million values, whose fields are within their kinds' ranges. -/
import Derived.Test.YtblangepeofobaaWs
namespace Go.Proofs.Ytblangepeofobaa
open Go.RowKit
namespace Wr
open Cod
set_option maxHeartbeats 4000000 in
set_option maxRecDepth 100000 in
theorem rrow_any (vs : List V) (sl : Value) (hw : ∀ v ∈ vs, v.wf) (hn : vs.length ≤ 1000000) (w : World) (h : RowAt vs sl w) :
    Calls Try.prog 22 #[sl] w fun e w' => e = .returned (.string (S (rB vs))) ∧ Below w.heap.size w w' := by
  obtain ⟨ao, cap, rfl, hrow⟩ := h
  have HRow : Hid (RowAt vs (.slice ao vs.length cap) w) := hidm ⟨ao, cap, rfl, hrow⟩
  clear hrow
  have HW := hidm hw
  obtain ⟨n, hnn⟩ : ∃ n, n = vs.length := ⟨_, rfl⟩
  obtain ⟨F, hF⟩ : ∃ F, F = S (rB vs) := ⟨_, rfl⟩
  rw [← hF, ← hnn]
  have HFF := hidm hF
  have HN := hidm hnn
  have hn' : n ≤ 1000000 := by omega
  clear hF hnn hw
  go_enter Try.func22, Try.ntmps22
  go_wp2_with fail
  refine (ruint_any n (by omega) _).mono ?_
  rintro e w1 ⟨rfl, hb1⟩
  have HB1 := hidm hb1
  clear hb1
  go_wp2_with fail
  go_loopw [3, 4] (fun ss ii wr => ∃ (i : Nat) (t : ByteArray), ss = .string t ∧ ii = .int .i64 i ∧ i ≤ n ∧ t.size ≤ 10 + i * 4107 ∧ Hid ((vs.take i).all V.right = true) ∧ Hid (t = S (rTo vs i)) ∧ Hid (Below w.heap.size w wr)) (fun _ ii _ => (n - (intOf ii).toNat))
  case atStart => exact ⟨0, S (uB n), rfl, rfl, by omega, by rw [S_size]; have := uB_ten n (by omega); omega, hidm (by simp), hidm (by unfold rTo; rw [HN.out]; simp), HB1⟩
  case round =>
    obtain ⟨i, t, rfl, rfl, hi, hts, HA, HT, HBr⟩ := hrel
    rcases Nat.eq_or_lt_of_le hi with hie | hie
    · have f1 : ¬ (i : Int) < n := by omega
      have HE := hidm hie
      clear hie
      go_wp2_with fail
      go_ret
      refine ⟨congrArg (fun q => Ending.returned (.string q)) ?_, HBr.out⟩
      rw [HFF.out, HT.out]
      have h1 := HA.out
      rw [HE.out, HN.out, List.take_length] at h1
      unfold rB
      rw [if_pos h1, HE.out, HN.out]
    · have f1 : (i : Int) < n := by omega
      have hiv : i < vs.length := by have := HN.out; omega
      obtain ⟨b, off, cap', he, hbl, q0, q1, q2, q3⟩ := (HRow.out.later HBr.out).at i hiv
      simp only [Value.slice.injEq, true_and] at he
      obtain ⟨rfl, rfl⟩ := he
      obtain ⟨v, hv⟩ : ∃ v, v = vs[i] := ⟨_, rfl⟩
      rw [← hv] at q0 q1 q2 q3
      have hva := rvalue_any v (by rw [hv]; exact HW.out _ (List.getElem_mem hiv)) wr
      simp only [V.agg] at hva
      have HVV := hidm hv
      obtain ⟨y, hy⟩ : ∃ y, y = S v.bytes := ⟨_, rfl⟩
      rw [← hy] at hva
      have HY := hidm hy
      clear hv hy
      rcases hr : v.right with _ | _
      · have hy0 : y = ⟨#[]⟩ := by rw [HY.out]; unfold V.bytes; rw [hr]; rfl
        subst hy0
        go_wp2_with fail
        refine hva.mono ?_
        rintro e w3 ⟨rfl, hb3⟩
        have HB3 := hidm (HBr.out.trans (hb3.mono HBr.out.size))
        clear hb3
        go_wp2_with fail
        go_ret
        refine ⟨congrArg (fun q => Ending.returned (.string q)) ?_, HB3.out⟩
        rw [HFF.out]
        unfold rB
        rw [if_neg]
        intro hall
        have := List.all_eq_true.1 hall v (by rw [HVV.out]; exact List.getElem_mem hiv)
        rw [hr] at this; cases this
      · have hy2 : y.size ≤ 4107 := by rw [HY.out, S_size]; exact bytes_len v (by rw [HVV.out]; exact HW.out _ (List.getElem_mem hiv))
        have hy1 : y.toList.isEmpty = false := by
          rw [HY.out, ByteArray.toList_eq, S_list]; unfold V.bytes; rw [if_pos hr]; rfl
        have HT2 : Hid (t ++ y = S (rTo vs (i + 1))) := by
          refine hidm ?_
          rw [rTo_succ vs i hiv, ← HVV.out, HT.out, HY.out, S_append]
        have HA2 : Hid ((vs.take (i + 1)).all V.right = true) := by
          refine hidm ?_
          rw [List.take_succ_eq_append_getElem hiv, List.all_append, HA.out, ← HVV.out]
          simp [hr]
        have hsum : (t ++ y).size ≤ 10 + (i + 1) * 4107 := by rw [ByteArray.size_append]; omega
        have HSUM := hidm hsum
        clear hsum
        go_wp2_with fail
        refine hva.mono ?_
        rintro e w3 ⟨rfl, hb3⟩
        have HB3 := hidm (HBr.out.trans (hb3.mono HBr.out.size))
        clear hb3
        have hcc : ¬ 9223372036854775807 < t.size + y.size := by omega
        go_wp2_with fail
        go_roundw
        case rel => exact ⟨i + 1, t ++ y, rfl, by go_num, by omega, HSUM.out, HA2, HT2, HB3⟩
        case measure => simp [intOf]; omega
end Wr
end Go.Proofs.Ytblangepeofobaa
