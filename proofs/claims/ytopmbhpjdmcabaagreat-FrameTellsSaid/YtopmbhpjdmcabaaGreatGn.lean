/- Light transactions: what the calls come to; frames that are cut off or spoilt. Condition: as each theorem says. -/
import Derived.Test.YtopmbhpjdmcabaaGreatGe
import Derived.Test.YtopmbhpjdmcabaaGreatGk
namespace Go.Proofs.YtopmbhpjdmcabaaGreat
open Go.RowKit
namespace Frm
open Cod Sch
set_option maxHeartbeats 4000000 in
set_option maxRecDepth 100000 in
theorem light_any (x : X) (w : World) (hin : x.In w) (hi : InnX x) :
    Calls Tryz.prog 5 #[.agg #[.int .i64 x.seq, .int .i64 x.tm, .slice x.co x.l.length x.cc]] w fun e w' => e = .returned (.bool (litB x.l)) ∧ Below w.heap.size w w' := by
  have HIN := hidm hin
  have HI := hidm hi
  have HS0 := hidm (BoxX.start x w)
  obtain ⟨b, hb0⟩ : ∃ b, b = litB x.l := ⟨_, rfl⟩
  rw [← hb0]
  have HBB := hidm hb0
  clear hin hi hb0
  go_enter Tryz.func5, Tryz.ntmps5
  go_wp2_with fail
  refine (weight_any x _ (HIN.out.later HS0.out.below) HI.out).mono ?_
  rintro e w1 ⟨k, rfl, hk, hb⟩
  have HS1 := hidm (HS0.out.then hb)
  have hk2 : decide (k ≤ 20000) = b := by rw [hk, HBB.out]
  have HK := hidm hk2
  clear hb hk hk2
  go_wp2_with fail
  go_ret
  exact ⟨Val.ret_bool (by first | exact HK.out | (rw [← HK.out])), HS1.out.below⟩
structure LitX (x : X) : Prop where
  n : x.l.length ≤ 1000000
  lm : ∀ c ∈ x.l, ChLim c.c
  wf : txB x.tx = true → x.tx.wf
theorem lit_x {x : X} (h : litB x.l = true) (hi : InnX x) : LitX x := by
  obtain ⟨h1, h2⟩ := lit_parts h
  refine ⟨by omega, fun c hc => (h2 c hc).lim, fun ht c hc => ?_⟩
  obtain ⟨m, hm, rfl⟩ := List.mem_map.1 hc
  exact (h2 m hm).wf ((tx_parts ht).2.2.2.2.2 _ hc) (hi.l m hm).row
theorem enc_form {t : Tx} (h : encT t ≠ []) : ∃ b, b = bodyR t ∧ b ≠ [] ∧ b.length ≤ 100000 ∧ encT t = four4 b.length ++ Crc.put b ∧ (encT t).length = b.length + 8 ∧ txB t = true := by
  unfold encT at h ⊢
  split at h
  · exact absurd rfl h
  · rename_i hb
    refine ⟨_, rfl, hb, bodyR_len t, by rw [if_neg hb], ?_, (bodyR_ok hb).1⟩
    rw [if_neg hb, List.length_append, Crc.put_len]
    show 4 + _ = _
    omega
theorem enc_nil {t : Tx} (h : encT t = []) : bodyR t = [] := by
  unfold encT at h
  split at h
  · assumption
  · have := congrArg List.length h
    rw [List.length_append, Crc.put_len] at this
    simp at this
theorem take4 (b : List UInt8) : (four4 b.length ++ Crc.put b).take 4 = four4 b.length := by
  rw [List.take_append_of_le_length (Nat.le_refl 4)]; rfl
theorem frame_len (b : List UInt8) : (four4 b.length ++ Crc.put b).length = b.length + 8 := by
  rw [List.length_append, Crc.put_len]; show 4 + _ = _; omega
theorem next_cut {b : List UInt8} {k : Nat} (hb : b.length ≤ 100000) (h4 : 4 ≤ k) (hk : k < b.length + 8) : nextB ((four4 b.length ++ Crc.put b).take k) = ([], 0, 8) := by
  have e1 : ((four4 b.length ++ Crc.put b).take k).take 4 = four4 b.length := by rw [List.take_take, Nat.min_eq_left h4, take4]
  have e2 : ((four4 b.length ++ Crc.put b).take k).length = k := by rw [List.length_take, frame_len]; omega
  unfold nextB
  rw [e1, e2, num4_four4 _ (by omega), if_neg (by omega), if_neg (by omega), if_pos (by omega)]
theorem next_bad {b : List UInt8} {k : Nat} {y : UInt8} (hb : b.length ≤ 100000) (h4 : 4 ≤ k) (hk : k < (four4 b.length ++ Crc.put b).length) (hy : y ≠ (four4 b.length ++ Crc.put b)[k]) : nextB ((four4 b.length ++ Crc.put b).set k y) = ([], 0, 9) := by
  have e1 : ((four4 b.length ++ Crc.put b).set k y).take 4 = four4 b.length := by rw [List.take_set_of_le h4, take4]
  have e2 : ((four4 b.length ++ Crc.put b).set k y).length = b.length + 8 := by rw [List.length_set, frame_len]
  have hk2 : k < b.length + 8 := by rw [frame_len] at hk; exact hk
  have e3 : ((four4 b.length ++ Crc.put b).set k y).drop 4 = (Crc.put b).set (k - 4) y := by
    rw [List.set_append_right _ _ (show (four4 b.length).length ≤ k from h4)]
    rfl
  have e4 : ((Crc.put b).set (k - 4) y).take (b.length + 4) = (Crc.put b).set (k - 4) y := List.take_of_length_le (by rw [List.length_set, Crc.put_len]; omega)
  have hk3 : k - 4 < (Crc.put b).length := by rw [Crc.put_len]; omega
  have hg : (four4 b.length ++ Crc.put b)[k] = (Crc.put b)[k - 4] := List.getElem_append_right (show (four4 b.length).length ≤ k from h4)
  have hb2 := Crc.good_set b (k - 4) y hk3 (by rw [← hg]; exact hy)
  unfold nextB
  rw [e1, e2, e3, num4_four4 _ (by omega), if_neg (by omega), if_neg (by omega), if_neg (by omega), e4, if_neg (by rw [hb2]; simp)]
end Frm
end Go.Proofs.YtopmbhpjdmcabaaGreat
