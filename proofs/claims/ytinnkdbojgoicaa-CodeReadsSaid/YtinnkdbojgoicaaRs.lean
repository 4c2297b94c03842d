/- The document's reader: its number. Conditions: the pointer is to such a reader whose place is within its bytes. -/
import Derived.Test.YtinnkdbojgoicaaRr
namespace Go.Proofs.Ytinnkdbojgoicaa
open Go.RowKit
namespace Rr
open Cod
set_option maxHeartbeats 8000000 in
set_option maxRecDepth 100000 in
theorem uint_part (r : Nat) (s : ByteArray) (p : Nat) (w : World) (h : Rrd r s p 0 w) (hp : p ≤ s.size) (hs : s.size ≤ 9223372036854775807) :
    Calls Try.prog 44 #[.pointer (some ⟨r, 0, none⟩)] w fun en w' => Out r s w VNat (.int .u64 0) (num 0 0 (s.data.toList.drop p)) en w' := by
  have Hs := hidm hs
  obtain ⟨R, hR⟩ : ∃ R, R = num 0 0 (s.data.toList.drop p) := ⟨_, rfl⟩
  rw [← hR]
  have HP := hidm hR
  clear hR hs
  go_enter Try.func44, Try.ntmps44
  go_wp2_with fail
  go_loopw [3, 4, 5] (fun nn sc kk wr => ∃ (k n q z : Nat), nn = .int .u64 n ∧ sc = .int .u64 z ∧ kk = .int .i64 k ∧ k ≤ 9 ∧ q ≤ s.size ∧ z < 18446744073709551616 ∧ n < 18446744073709551616 ∧ Hid (z = 128 ^ k) ∧ Hid (n < 128 ^ k) ∧ Hid (R = num k n (s.data.toList.drop q)) ∧ Hid (Rrd r s q 0 wr) ∧ Hid (But r w wr)) (fun _ _ kk _ => (10 - intOf kk).toNat)
  case atStart => exact ⟨0, 0, p, 1, rfl, rfl, rfl, by omega, hp, by omega, by omega, hidm (by simp), hidm (by simp), HP, hidm h, hidm (But.refl _ _)⟩
  case round =>
    obtain ⟨k, n, q, z, rfl, rfl, rfl, hk, hq, hz, hn64, HZ, HN, HM, HR, HB⟩ := hrel
    have f0 : (k : Int) < 10 := by omega
    rcases Nat.eq_or_lt_of_le hq with hqe | hqe
    · have HQ := hidm hqe
      clear hqe
      go_wp2_with fail
      refine (next_short r s wr (by rw [← HQ.out]; exact HR.out)).mono ?_
      rintro en w1 ⟨rfl, hr1, hb1⟩
      have e1 := hr1.c2
      have HR1 := hidm hr1
      have HB1 := hidm (HB.out.trans hb1)
      clear hr1 hb1
      go_wp2_with fail
      go_ret
      rw [HM.out, HQ.out, drop_end]
      exact ⟨_, rfl, HR1.out, HB1.out⟩
    · obtain ⟨c, hc⟩ : ∃ c : UInt8, s[q] = c := ⟨_, rfl⟩
      have hcl := c.toNat_lt
      have hnx := next_ok r s q wr HR.out hqe Hs.out
      rw [hc] at hnx
      have HC := hidm hc
      clear hc
      obtain ⟨x, hx⟩ : ∃ x, x = c.toNat % 128 := ⟨_, rfl⟩
      obtain ⟨y, hy⟩ : ∃ y, y = x * z := ⟨_, rfl⟩
      have hx1 : (c.toNat : Int).tmod 128 = (x : Int) := by rw [Int.tmod_eq_emod_of_nonneg (by omega)]; omega
      have hx2 : (c.toNat : Int) % 128 = (x : Int) := by omega
      have hxl : x < 128 := by omega
      have hyy : (x : Int) * (z : Int) = (y : Int) := by rw [hy]; push_cast; rfl
      have HY : Hid (y = c.toNat % 128 * 128 ^ k) := hidm (by rw [hy, hx, HZ.out])
      clear hx hy
      rcases (show ((k = 9) ∧ (1 < c.toNat)) ∨ ((k = 9) ∧ (c.toNat = 0)) ∨ ((k = 9) ∧ (c.toNat = 1)) ∨ ((k = 0) ∧ (c.toNat < 128)) ∨ ((k = 0) ∧ (128 ≤ c.toNat)) ∨ ((0 < k ∧ k < 9) ∧ (c.toNat = 0)) ∨ ((0 < k ∧ k < 9) ∧ (0 < c.toNat ∧ c.toNat < 128)) ∨ ((0 < k ∧ k < 9) ∧ (128 ≤ c.toNat)) by omega) with ⟨hk1, hc1⟩ | ⟨hk1, hc1⟩ | ⟨hk1, hc1⟩ | ⟨hk1, hc1⟩ | ⟨hk1, hc1⟩ | ⟨hk1, hc1⟩ | ⟨hk1, hc1⟩ | ⟨hk1, hc1⟩
      · have g1 : ((k : Int) == 9) = true := by simp; omega
        have g2 : (1 : Int) < (c.toNat : Int) := by omega
        have HX := hidm (num_bad (n := n) hqe HC.out (k := k) (by omega))
        have HK1 := hidm hk1
        have HC1 := hidm hc1
        clear hk1 hc1
        go_wp2_with fail
        refine hnx.mono ?_
        rintro en w1 ⟨rfl, hr1, hb1⟩
        have e1 := hr1.c2
        have HR1 := hidm hr1
        have HB1 := hidm (HB.out.trans hb1)
        clear hr1 hb1
        go_wp2_with fail
        refine (fail_any r s _ 7 w1 HR1.out).mono ?_
        rintro en w2 ⟨rfl, hr2, hb2⟩
        have HR2 := hidm hr2
        have HB2 := hidm (HB1.out.trans hb2)
        clear hr2 hb2 e1
        go_wp2_with fail
        go_ret
        rw [HM.out, HX.out]
        exact ⟨_, rfl, HR2.out, HB2.out⟩
      · have g1 : ((k : Int) == 9) = true := by simp; omega
        have g2 : ¬ (1 : Int) < (c.toNat : Int) := by omega
        have g3 : ((c.toNat : Int) == 0) = true := by simp; omega
        have g4 : (0 : Int) < (k : Int) := by omega
        have g4' : 0 < k := by omega
        have HX := hidm (num_bad (n := n) hqe HC.out (k := k) (by omega))
        have HK1 := hidm hk1
        have HC1 := hidm hc1
        clear hk1 hc1
        go_wp2_with fail
        refine hnx.mono ?_
        rintro en w1 ⟨rfl, hr1, hb1⟩
        have e1 := hr1.c2
        have HR1 := hidm hr1
        have HB1 := hidm (HB.out.trans hb1)
        clear hr1 hb1
        go_wp2_with fail
        refine (fail_any r s _ 7 w1 HR1.out).mono ?_
        rintro en w2 ⟨rfl, hr2, hb2⟩
        have HR2 := hidm hr2
        have HB2 := hidm (HB1.out.trans hb2)
        clear hr2 hb2 e1
        go_wp2_with fail
        go_ret
        rw [HM.out, HX.out]
        exact ⟨_, rfl, HR2.out, HB2.out⟩
      · have g1 : ((k : Int) == 9) = true := by simp; omega
        have g2 : ¬ (1 : Int) < (c.toNat : Int) := by omega
        have g3 : ((c.toNat : Int) == 0) = false := by simp; omega
        have g5 : (c.toNat : Int) < 128 := by omega
        have HSUM := hidm (sum_step k n c hk HN.out (by omega))
        have HL := hidm (step_lt k n c HN.out)
        have hsm : n + y < 18446744073709551616 := by have h1 := HSUM.out; have h2 := HY.out; omega
        have HX := hidm (num_end (n := n) hqe HC.out (k := k) (by omega) (by omega))
        have HK1 := hidm hk1
        have HC1 := hidm hc1
        clear hk1 hc1
        go_wp2_with fail
        refine hnx.mono ?_
        rintro en w1 ⟨rfl, hr1, hb1⟩
        have e1 := hr1.c2
        have HR1 := hidm hr1
        have HB1 := hidm (HB.out.trans hb1)
        clear hr1 hb1
        go_wp2_with fail
        go_ret
        rw [HM.out, HX.out]
        exact ⟨_, rfl, congrArg (Value.int .u64) (by have := HY.out; omega), by rw [back_at s (q + 1) hqe]; exact HR1.out, HB1.out⟩
      · have g1 : ((k : Int) == 9) = false := by simp; omega
        have g4 : ¬ (0 : Int) < (k : Int) := by omega
        have g4' : ¬ 0 < k := by omega
        have g5 : (c.toNat : Int) < 128 := by omega
        by_cases hcz : c.toNat = 0
        · have g3 : ((c.toNat : Int) == 0) = true := by simp; omega
          have HZ0 := hidm hcz
          clear hcz
          have HSUM := hidm (sum_step k n c hk HN.out (by omega))
          have HL := hidm (step_lt k n c HN.out)
          have hsm : n + y < 18446744073709551616 := by have h1 := HSUM.out; have h2 := HY.out; omega
          have HX := hidm (num_end (n := n) hqe HC.out (k := k) (by omega) (by omega))
          have HK1 := hidm hk1
          have HC1 := hidm hc1
          clear hk1 hc1
          go_wp2_with fail
          refine hnx.mono ?_
          rintro en w1 ⟨rfl, hr1, hb1⟩
          have e1 := hr1.c2
          have HR1 := hidm hr1
          have HB1 := hidm (HB.out.trans hb1)
          clear hr1 hb1
          go_wp2_with fail
          go_ret
          rw [HM.out, HX.out]
          exact ⟨_, rfl, congrArg (Value.int .u64) (by have := HY.out; omega), by rw [back_at s (q + 1) hqe]; exact HR1.out, HB1.out⟩
        · have g3 : ((c.toNat : Int) == 0) = false := by simp; omega
          have HZ0 := hidm hcz
          clear hcz
          have HSUM := hidm (sum_step k n c hk HN.out (by omega))
          have HL := hidm (step_lt k n c HN.out)
          have hsm : n + y < 18446744073709551616 := by have h1 := HSUM.out; have h2 := HY.out; omega
          have HX := hidm (num_end (n := n) hqe HC.out (k := k) (by omega) (by omega))
          have HK1 := hidm hk1
          have HC1 := hidm hc1
          clear hk1 hc1
          go_wp2_with fail
          refine hnx.mono ?_
          rintro en w1 ⟨rfl, hr1, hb1⟩
          have e1 := hr1.c2
          have HR1 := hidm hr1
          have HB1 := hidm (HB.out.trans hb1)
          clear hr1 hb1
          go_wp2_with fail
          go_ret
          rw [HM.out, HX.out]
          exact ⟨_, rfl, congrArg (Value.int .u64) (by have := HY.out; omega), by rw [back_at s (q + 1) hqe]; exact HR1.out, HB1.out⟩
      · have g1 : ((k : Int) == 9) = false := by simp; omega
        have g3 : ((c.toNat : Int) == 0) = false := by simp; omega
        have g5 : ¬ (c.toNat : Int) < 128 := by omega
        have HSUM := hidm (sum_step k n c hk HN.out (by omega))
        have HL := hidm (step_lt k n c HN.out)
        have hsm : n + y < 18446744073709551616 := by have h1 := HSUM.out; have h2 := HY.out; omega
        obtain ⟨z2, hz2⟩ : ∃ z2, z2 = 128 * z := ⟨_, rfl⟩
        have hz3 : (128 : Int) * (z : Int) = (z2 : Int) := by omega
        have HZ2 : Hid (z2 = 128 ^ (k + 1)) := hidm (by rw [hz2, HZ.out, Nat.pow_succ, Nat.mul_comm])
        have hz4 : z2 < 18446744073709551616 := by have h1 : (128 : Nat) ^ (k + 1) ≤ 128 ^ 9 := Nat.pow_le_pow_right (by omega) (by omega); rw [nine] at h1; have := HZ2.out; omega
        clear hz2
        have HX := hidm (num_more (n := n) hqe HC.out (k := k) (by omega) (by omega))
        have HK1 := hidm hk1
        have HC1 := hidm hc1
        clear hk1 hc1
        go_wp2_with fail
        refine hnx.mono ?_
        rintro en w1 ⟨rfl, hr1, hb1⟩
        have e1 := hr1.c2
        have HR1 := hidm hr1
        have HB1 := hidm (HB.out.trans hb1)
        clear hr1 hb1
        go_wp2_with fail
        go_roundw
        case rel => exact ⟨k + 1, n + y, q + 1, z2, by go_num, rfl, by go_num, by have := HK1.out; omega, hqe, hz4, hsm, HZ2, hidm (by have h1 := HL.out; have h2 := HY.out; omega), hidm (by rw [HM.out, HX.out, HY.out]), HR1, HB1⟩
        case measure => have := HK1.out; simp [intOf]; omega
      · have g1 : ((k : Int) == 9) = false := by simp; omega
        have g3 : ((c.toNat : Int) == 0) = true := by simp; omega
        have g4 : (0 : Int) < (k : Int) := by omega
        have g4' : 0 < k := by omega
        have HX := hidm (num_bad (n := n) hqe HC.out (k := k) (by omega))
        have HK1 := hidm hk1
        have HC1 := hidm hc1
        clear hk1 hc1
        go_wp2_with fail
        refine hnx.mono ?_
        rintro en w1 ⟨rfl, hr1, hb1⟩
        have e1 := hr1.c2
        have HR1 := hidm hr1
        have HB1 := hidm (HB.out.trans hb1)
        clear hr1 hb1
        go_wp2_with fail
        refine (fail_any r s _ 7 w1 HR1.out).mono ?_
        rintro en w2 ⟨rfl, hr2, hb2⟩
        have HR2 := hidm hr2
        have HB2 := hidm (HB1.out.trans hb2)
        clear hr2 hb2 e1
        go_wp2_with fail
        go_ret
        rw [HM.out, HX.out]
        exact ⟨_, rfl, HR2.out, HB2.out⟩
      · have g1 : ((k : Int) == 9) = false := by simp; omega
        have g3 : ((c.toNat : Int) == 0) = false := by simp; omega
        have g5 : (c.toNat : Int) < 128 := by omega
        have HSUM := hidm (sum_step k n c hk HN.out (by omega))
        have HL := hidm (step_lt k n c HN.out)
        have hsm : n + y < 18446744073709551616 := by have h1 := HSUM.out; have h2 := HY.out; omega
        have HX := hidm (num_end (n := n) hqe HC.out (k := k) (by omega) (by omega))
        have HK1 := hidm hk1
        have HC1 := hidm hc1
        clear hk1 hc1
        go_wp2_with fail
        refine hnx.mono ?_
        rintro en w1 ⟨rfl, hr1, hb1⟩
        have e1 := hr1.c2
        have HR1 := hidm hr1
        have HB1 := hidm (HB.out.trans hb1)
        clear hr1 hb1
        go_wp2_with fail
        go_ret
        rw [HM.out, HX.out]
        exact ⟨_, rfl, congrArg (Value.int .u64) (by have := HY.out; omega), by rw [back_at s (q + 1) hqe]; exact HR1.out, HB1.out⟩
      · have g1 : ((k : Int) == 9) = false := by simp; omega
        have g3 : ((c.toNat : Int) == 0) = false := by simp; omega
        have g5 : ¬ (c.toNat : Int) < 128 := by omega
        have HSUM := hidm (sum_step k n c hk HN.out (by omega))
        have HL := hidm (step_lt k n c HN.out)
        have hsm : n + y < 18446744073709551616 := by have h1 := HSUM.out; have h2 := HY.out; omega
        obtain ⟨z2, hz2⟩ : ∃ z2, z2 = 128 * z := ⟨_, rfl⟩
        have hz3 : (128 : Int) * (z : Int) = (z2 : Int) := by omega
        have HZ2 : Hid (z2 = 128 ^ (k + 1)) := hidm (by rw [hz2, HZ.out, Nat.pow_succ, Nat.mul_comm])
        have hz4 : z2 < 18446744073709551616 := by have h1 : (128 : Nat) ^ (k + 1) ≤ 128 ^ 9 := Nat.pow_le_pow_right (by omega) (by omega); rw [nine] at h1; have := HZ2.out; omega
        clear hz2
        have HX := hidm (num_more (n := n) hqe HC.out (k := k) (by omega) (by omega))
        have HK1 := hidm hk1
        have HC1 := hidm hc1
        clear hk1 hc1
        go_wp2_with fail
        refine hnx.mono ?_
        rintro en w1 ⟨rfl, hr1, hb1⟩
        have e1 := hr1.c2
        have HR1 := hidm hr1
        have HB1 := hidm (HB.out.trans hb1)
        clear hr1 hb1
        go_wp2_with fail
        go_roundw
        case rel => exact ⟨k + 1, n + y, q + 1, z2, by go_num, rfl, by go_num, by have := HK1.out; omega, hqe, hz4, hsm, HZ2, hidm (by have h1 := HL.out; have h2 := HY.out; omega), hidm (by rw [HM.out, HX.out, HY.out]), HR1, HB1⟩
        case measure => have := HK1.out; simp [intOf]; omega
set_option maxHeartbeats 1000000 in
theorem whole_part (r : Nat) (s : ByteArray) (p : Nat) (w : World) (h : Rrd r s p 0 w) (hp : p ≤ s.size) (hs : s.size ≤ 281474976710656) :
    Calls Try.prog 48 #[.pointer (some ⟨r, 0, none⟩)] w fun en w' => Out r s w VInt (.int .i64 0) (sig (s.data.toList.drop p)) en w' := by
  have hn := uint_part r s p w h hp (by omega)
  obtain ⟨R, hR⟩ : ∃ R, R = num 0 0 (s.data.toList.drop p) := ⟨_, rfl⟩
  unfold sig
  rw [← hR] at hn ⊢
  have HR := hidm hR
  clear hR
  go_enter Try.func48, Try.ntmps48
  go_wp2_with fail
  refine hn.mono ?_
  cases R with
  | error x =>
    rintro en w1 ⟨q, rfl, hv⟩
    have HV := hidm hv
    clear hv
    go_wp2_with fail
    go_ret
    exact ⟨q, rfl, HV.out⟩
  | ok at' =>
    obtain ⟨n, t⟩ := at'
    rintro en w1 ⟨v, rfl, rfl, hv⟩
    have HV := hidm hv
    have hb := (read_ok HR.out.symm).2
    clear hv
    rcases Nat.mod_two_eq_zero_or_one n with h2 | h2
    · have h3 : ((n : Int) % 2 == 0) = true := by simp; omega
      have h4 : zag n = (n : Int) / 2 := by unfold zag; rw [if_neg (by omega)]; omega
      have H4 := hidm h4
      clear h4
      go_wp2_with fail
      go_ret
      exact ⟨_, rfl, congrArg (Value.int .i64) H4.out.symm, HV.out⟩
    · have h3 : ((n : Int) % 2 == 0) = false := by simp; omega
      have h4 : zag n = -((n : Int) / 2) - 1 := by unfold zag; rw [if_pos h2]; omega
      have H4 := hidm h4
      clear h4
      go_wp2_with fail
      go_ret
      exact ⟨_, rfl, congrArg (Value.int .i64) H4.out.symm, HV.out⟩
end Rr
end Go.Proofs.Ytinnkdbojgoicaa
