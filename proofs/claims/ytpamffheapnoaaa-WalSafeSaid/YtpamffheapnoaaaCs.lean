/- The reader's number. Conditions: the pointer is to a reader whose place is within its bytes. -/
import Derived.Test.YtpamffheapnoaaaCr
import Derived.Test.YtpamffheapnoaaaCa
namespace Go.Proofs.Ytpamffheapnoaaa
open Go.RowKit
namespace Cod
theorem drop_at (s : ByteArray) (p : Nat) (hp : p < s.size) : s.data.toList.drop p = s[p] :: s.data.toList.drop (p + 1) := by
  have h : p < s.data.toList.length := by rw [Array.length_toList]; exact hp
  rw [List.drop_eq_getElem_cons h]; rfl
theorem drop_end (s : ByteArray) : s.data.toList.drop s.size = [] := by
  apply List.drop_eq_nil_of_le; rw [Array.length_toList]; exact Nat.le_refl _
/-- What a part of a reader comes to: the answer a, and the place behind; or an error. -/
def Part {α : Type} (r : Nat) (s : ByteArray) (e : Int) (w : World) (V : α → Value → World → Prop) : Except Nat (α × List UInt8) → Ending → World → Prop
  | .ok (a, t), en, w' => ∃ v, en = .returned v ∧ V a v w' ∧ Rdr r s (s.size - t.length : Nat) e w' ∧ But r w w'
  | .error x, en, w' => ∃ q : Int, en = .panicked (pan x) ∧ Rdr r s q e w' ∧ But r w w'
def VNat (n : Nat) (v : Value) (_ : World) : Prop := v = .int .u64 n
theorem step_or (k n : Nat) (c : UInt8) (hk : k ≤ 9) (hn : n < 128 ^ k) (h9 : k = 9 → c.toNat ≤ 1) :
    bits .or .u64 (n : Int) (IntKind.u64.wrap (IntKind.u64.wrap (bits .and .u8 (c.toNat : Int) 127) * 2 ^ (7 * k))) = ((n + c.toNat % 128 * 128 ^ k : Nat) : Int) := by
  have hc := c.toNat_lt
  have e1 : bits .and .u8 (c.toNat : Int) 127 = ((c.toNat % 128 : Nat) : Int) := by
    have := u8_and_nat c.toNat 127 (by omega) (by omega)
    rw [show ((127 : Nat) : Int) = 127 from rfl] at this
    rw [this, show (127 : Nat) = 2 ^ 7 - 1 from rfl, Nat.and_two_pow_sub_one_eq_mod]
  have e2 : (128 : Nat) ^ k = 2 ^ (7 * k) := by rw [Nat.pow_mul]
  have hb : c.toNat % 128 * 128 ^ k < 18446744073709551616 := by
    rcases Nat.lt_or_ge k 9 with h8 | h8
    · have h1 : (128 : Nat) ^ k ≤ 128 ^ 8 := Nat.pow_le_pow_right (by omega) (by omega)
      have h2 : c.toNat % 128 * 128 ^ k ≤ 127 * 128 ^ 8 := Nat.mul_le_mul (by omega) h1
      have h3 : (127 : Nat) * 128 ^ 8 < 18446744073709551616 := by decide
      omega
    · have hk9 : k = 9 := by omega
      have := h9 hk9
      subst hk9
      rw [nine]; omega
  have hn2 : n < 18446744073709551616 := by
    have h1 : (128 : Nat) ^ k ≤ 128 ^ 9 := Nat.pow_le_pow_right (by omega) hk
    rw [nine] at h1; omega
  have e3 : IntKind.u64.wrap ((c.toNat % 128 : Nat) : Int) = ((c.toNat % 128 : Nat) : Int) := by simp only [IntKind.wrap_u64]; omega
  have e4 : ((c.toNat % 128 : Nat) : Int) * 2 ^ (7 * k) = ((c.toNat % 128 * 128 ^ k : Nat) : Int) := by rw [e2]; push_cast; rfl
  have e5 : IntKind.u64.wrap ((c.toNat % 128 * 128 ^ k : Nat) : Int) = ((c.toNat % 128 * 128 ^ k : Nat) : Int) := by simp only [IntKind.wrap_u64]; omega
  rw [e1, e3, e4, e5, u64_or_nat _ _ hn2 hb]
  have := Nat.two_pow_add_eq_or_of_lt (b := n) (i := 7 * k) (by rw [← e2]; exact hn) (c.toNat % 128)
  rw [e2, Nat.mul_comm (c.toNat % 128), Nat.or_comm, ← this, Nat.add_comm]
theorem step_lt (k n : Nat) (c : UInt8) (hn : n < 128 ^ k) : n + c.toNat % 128 * 128 ^ k < 128 ^ (k + 1) := by
  have h1 : c.toNat % 128 * 128 ^ k ≤ 127 * 128 ^ k := Nat.mul_le_mul_right _ (by omega)
  rw [Nat.pow_succ]; omega
/-- The three ways of a round. -/
theorem num_bad {s : ByteArray} {q k n : Nat} {c : UInt8} (hq : q < s.size) (hc : s[q] = c) (h : (k = 9 ∧ 1 < c.toNat) ∨ (0 < k ∧ c.toNat = 0)) : num k n (s.data.toList.drop q) = .error 7 := by
  rw [drop_at s q hq, hc, num_cons, if_pos h]
theorem num_end {s : ByteArray} {q k n : Nat} {c : UInt8} (hq : q < s.size) (hc : s[q] = c) (h : ¬ ((k = 9 ∧ 1 < c.toNat) ∨ (0 < k ∧ c.toNat = 0))) (h2 : c.toNat < 128) : num k n (s.data.toList.drop q) = .ok (n + c.toNat % 128 * 128 ^ k, s.data.toList.drop (q + 1)) := by
  rw [drop_at s q hq, hc, num_cons, if_neg h, if_pos h2]
theorem num_more {s : ByteArray} {q k n : Nat} {c : UInt8} (hq : q < s.size) (hc : s[q] = c) (h : ¬ ((k = 9 ∧ 1 < c.toNat) ∨ (0 < k ∧ c.toNat = 0))) (h2 : 128 ≤ c.toNat) : num k n (s.data.toList.drop q) = num (k + 1) (n + c.toNat % 128 * 128 ^ k) (s.data.toList.drop (q + 1)) := by
  rw [drop_at s q hq, hc, num_cons, if_neg h, if_neg (by omega)]
theorem back_at (s : ByteArray) (q : Nat) (hq : q ≤ s.size) : s.size - (s.data.toList.drop q).length = q := by
  rw [List.length_drop, Array.length_toList]; show s.size - (s.size - q) = q; omega
set_option maxHeartbeats 8000000 in
set_option maxRecDepth 100000 in
theorem number_any (r : Nat) (s : ByteArray) (p : Nat) (e : Int) (w : World) (h : Rdr r s p e w) (hp : p ≤ s.size) (hs : s.size ≤ 9223372036854775807) :
    Calls Try.prog 73 #[.pointer (some ⟨r, 0, none⟩)] w fun en w' => Part r s e w VNat (num 0 0 (s.data.toList.drop p)) en w' := by
  have Hs := hidm hs
  obtain ⟨R, hR⟩ : ∃ R, R = num 0 0 (s.data.toList.drop p) := ⟨_, rfl⟩
  rw [← hR]
  have HP := hidm hR
  clear hR hs
  go_enter Try.func73, Try.ntmps73
  go_wp2_with fail
  go_loopw [3, 4, 5] (fun nn sh _ wr => ∃ (k n q : Nat), nn = .int .u64 n ∧ sh = .int .i64 (7 * (k : Int)) ∧ k ≤ 9 ∧ q ≤ s.size ∧ Hid (n < 128 ^ k) ∧ Hid (R = num k n (s.data.toList.drop q)) ∧ Hid (Rdr r s q e wr) ∧ Hid (But r w wr)) (fun _ sh _ _ => (70 - intOf sh).toNat)
  case atStart => exact ⟨0, 0, p, rfl, rfl, by omega, hp, hidm (by simp), HP, hidm h, hidm (But.refl _ _)⟩
  case round =>
    obtain ⟨k, n, q, rfl, rfl, hk, hq, HN, HM, HR, HB⟩ := hrel
    rcases Nat.eq_or_lt_of_le hq with hqe | hqe
    · have HQ := hidm hqe
      clear hqe
      go_wp2_with fail
      refine (octet_short r s e wr (by rw [← HQ.out]; exact HR.out)).mono ?_
      rintro en w1 ⟨rfl, hb1⟩
      have HR1 := hidm (HR.out.later hb1)
      have HB1 := hidm (HB.out.trans (.of hb1))
      clear hb1
      go_wp2_with fail
      refine ⟨rfl, ?_⟩
      rw [HM.out, HQ.out, drop_end]
      exact ⟨_, rfl, HR1.out, HB1.out⟩
    · obtain ⟨c, hc⟩ : ∃ c : UInt8, s[q] = c := ⟨_, rfl⟩
      have hcl := c.toNat_lt
      have hoct := octet_ok r s q e wr HR.out hqe Hs.out
      rw [hc] at hoct
      have HC := hidm hc
      clear hc
      rcases (show (k = 9 ∧ 1 < c.toNat) ∨ (k = 9 ∧ c.toNat = 0) ∨ (k = 9 ∧ c.toNat = 1) ∨ (k = 0 ∧ c.toNat < 128) ∨ (k = 0 ∧ 128 ≤ c.toNat) ∨ ((0 < k ∧ k < 9) ∧ c.toNat = 0) ∨ ((0 < k ∧ k < 9) ∧ (0 < c.toNat ∧ c.toNat < 128)) ∨ ((0 < k ∧ k < 9) ∧ 128 ≤ c.toNat) by omega) with ⟨hk1, hc1⟩ | ⟨hk1, hc1⟩ | ⟨hk1, hc1⟩ | ⟨hk1, hc1⟩ | ⟨hk1, hc1⟩ | ⟨hk1, hc1⟩ | ⟨hk1, hc1⟩ | ⟨hk1, hc1⟩
      · -- k9bad
        have f1 : (1 : Int) < (c.toNat : Int) := by omega
        have HX := hidm (num_bad (n := n) hqe HC.out (k := k) (by omega))
        have HK := hidm hk1
        have f9 : (7 * (k : Int) == 63) = true := by simp; omega
        have f8 : (0 : Int) < 7 * (k : Int) := by omega
        have hk2 : k ≤ 8 ∨ k = 9 := by omega
        have HK1 := hidm hk1
        have HC1 := hidm hc1
        clear hk1 hc1
        go_wp2_with fail
        refine hoct.mono ?_
        rintro en w1 ⟨rfl, hr1, hb1⟩
        have HR1 := hidm hr1
        have HB1 := hidm (HB.out.trans hb1)
        clear hr1 hb1
        go_wp2_with fail
        refine ⟨rfl, ?_⟩
        rw [HM.out, HX.out]
        exact ⟨_, rfl, HR1.out, HB1.out⟩
      · -- k9zero
        have f1 : ((c.toNat : Int) == 0) = true := by simp; omega
        have f2 : ¬ (1 : Int) < (c.toNat : Int) := by omega
        have HX := hidm (num_bad (n := n) hqe HC.out (k := k) (by omega))
        have HK := hidm hk1
        have f9 : (7 * (k : Int) == 63) = true := by simp; omega
        have f8 : (0 : Int) < 7 * (k : Int) := by omega
        have hk2 : k ≤ 8 ∨ k = 9 := by omega
        have HK1 := hidm hk1
        have HC1 := hidm hc1
        clear hk1 hc1
        go_wp2_with fail
        refine hoct.mono ?_
        rintro en w1 ⟨rfl, hr1, hb1⟩
        have HR1 := hidm hr1
        have HB1 := hidm (HB.out.trans hb1)
        clear hr1 hb1
        go_wp2_with fail
        refine ⟨rfl, ?_⟩
        rw [HM.out, HX.out]
        exact ⟨_, rfl, HR1.out, HB1.out⟩
      · -- k9end
        have f1 : ((c.toNat : Int) == 0) = false := by simp; omega
        have f2 : ¬ (1 : Int) < (c.toNat : Int) := by omega
        have f3 : (c.toNat : Int) < 128 := by omega
        have HO := hidm (step_or k n c hk HN.out (by omega))
        have HL := hidm (step_lt k n c HN.out)
        have HX := hidm (num_end (n := n) hqe HC.out (k := k) (by omega) (by omega))
        have HK := hidm hk1
        have f9 : (7 * (k : Int) == 63) = true := by simp; omega
        have f8 : (0 : Int) < 7 * (k : Int) := by omega
        have hk2 : k ≤ 8 ∨ k = 9 := by omega
        have HK1 := hidm hk1
        have HC1 := hidm hc1
        clear hk1 hc1
        go_wp2_with fail
        refine hoct.mono ?_
        rintro en w1 ⟨rfl, hr1, hb1⟩
        have HR1 := hidm hr1
        have HB1 := hidm (HB.out.trans hb1)
        clear hr1 hb1
        go_wp2_with fail
        go_ret
        rw [HM.out, HX.out]
        exact ⟨_, rfl, congrArg (Value.int .u64) HO.out, by rw [back_at s (q + 1) hqe]; exact HR1.out, HB1.out⟩
      · -- zend
        have f3 : (c.toNat : Int) < 128 := by omega
        have HO := hidm (step_or k n c hk HN.out (by omega))
        have HL := hidm (step_lt k n c HN.out)
        have HX := hidm (num_end (n := n) hqe HC.out (k := k) (by omega) (by omega))
        have HK := hidm hk1
        have f9 : (7 * (k : Int) == 63) = false := by simp; omega
        have f8 : ¬ (0 : Int) < 7 * (k : Int) := by omega
        have hk2 : k ≤ 8 ∨ k = 9 := by omega
        have HK1 := hidm hk1
        have HC1 := hidm hc1
        clear hk1 hc1
        go_wp2_with fail
        refine hoct.mono ?_
        rintro en w1 ⟨rfl, hr1, hb1⟩
        have HR1 := hidm hr1
        have HB1 := hidm (HB.out.trans hb1)
        clear hr1 hb1
        go_wp2_with fail
        go_ret
        rw [HM.out, HX.out]
        exact ⟨_, rfl, congrArg (Value.int .u64) HO.out, by rw [back_at s (q + 1) hqe]; exact HR1.out, HB1.out⟩
      · -- zmore
        have f3 : ¬ (c.toNat : Int) < 128 := by omega
        have HO := hidm (step_or k n c hk HN.out (by omega))
        have HL := hidm (step_lt k n c HN.out)
        have HX := hidm (num_more (n := n) hqe HC.out (k := k) (by omega) (by omega))
        have HK := hidm hk1
        have f9 : (7 * (k : Int) == 63) = false := by simp; omega
        have f8 : ¬ (0 : Int) < 7 * (k : Int) := by omega
        have hk2 : k ≤ 8 ∨ k = 9 := by omega
        have HK1 := hidm hk1
        have HC1 := hidm hc1
        clear hk1 hc1
        go_wp2_with fail
        refine hoct.mono ?_
        rintro en w1 ⟨rfl, hr1, hb1⟩
        have HR1 := hidm hr1
        have HB1 := hidm (HB.out.trans hb1)
        clear hr1 hb1
        go_wp2_with fail
        go_roundw
        case rel => exact ⟨k + 1, n + c.toNat % 128 * 128 ^ k, q + 1, congrArg (Value.int .u64) HO.out, by go_num, by have := HK1.out; omega, hqe, HL, hidm (HM.out.trans HX.out), HR1, HB1⟩
        case measure => have := HK1.out; simp [intOf]; omega
      · -- kzero
        have f0 : (7 * (k : Int) == 63) = false := by simp; omega
        have f1 : ((c.toNat : Int) == 0) = true := by simp; omega
        have f2 : (0 : Int) < 7 * (k : Int) := by omega
        have HX := hidm (num_bad (n := n) hqe HC.out (k := k) (by omega))
        have hk2 : k ≤ 8 ∨ k = 9 := by omega
        have HK1 := hidm hk1
        have HC1 := hidm hc1
        clear hk1 hc1
        go_wp2_with fail
        refine hoct.mono ?_
        rintro en w1 ⟨rfl, hr1, hb1⟩
        have HR1 := hidm hr1
        have HB1 := hidm (HB.out.trans hb1)
        clear hr1 hb1
        go_wp2_with fail
        refine ⟨rfl, ?_⟩
        rw [HM.out, HX.out]
        exact ⟨_, rfl, HR1.out, HB1.out⟩
      · -- kend
        have f0 : (7 * (k : Int) == 63) = false := by simp; omega
        have f1 : ((c.toNat : Int) == 0) = false := by simp; omega
        have f2 : (0 : Int) < 7 * (k : Int) := by omega
        have f3 : (c.toNat : Int) < 128 := by omega
        have HO := hidm (step_or k n c hk HN.out (by omega))
        have HL := hidm (step_lt k n c HN.out)
        have HX := hidm (num_end (n := n) hqe HC.out (k := k) (by omega) (by omega))
        have hk2 : k ≤ 8 ∨ k = 9 := by omega
        have HK1 := hidm hk1
        have HC1 := hidm hc1
        clear hk1 hc1
        go_wp2_with fail
        refine hoct.mono ?_
        rintro en w1 ⟨rfl, hr1, hb1⟩
        have HR1 := hidm hr1
        have HB1 := hidm (HB.out.trans hb1)
        clear hr1 hb1
        go_wp2_with fail
        go_ret
        rw [HM.out, HX.out]
        exact ⟨_, rfl, congrArg (Value.int .u64) HO.out, by rw [back_at s (q + 1) hqe]; exact HR1.out, HB1.out⟩
      · -- kmore
        have f0 : (7 * (k : Int) == 63) = false := by simp; omega
        have f1 : ((c.toNat : Int) == 0) = false := by simp; omega
        have f2 : (0 : Int) < 7 * (k : Int) := by omega
        have f3 : ¬ (c.toNat : Int) < 128 := by omega
        have HO := hidm (step_or k n c hk HN.out (by omega))
        have HL := hidm (step_lt k n c HN.out)
        have HX := hidm (num_more (n := n) hqe HC.out (k := k) (by omega) (by omega))
        have hk2 : k ≤ 8 ∨ k = 9 := by omega
        have HK1 := hidm hk1
        have HC1 := hidm hc1
        clear hk1 hc1
        go_wp2_with fail
        refine hoct.mono ?_
        rintro en w1 ⟨rfl, hr1, hb1⟩
        have HR1 := hidm hr1
        have HB1 := hidm (HB.out.trans hb1)
        clear hr1 hb1
        go_wp2_with fail
        go_roundw
        case rel => exact ⟨k + 1, n + c.toNat % 128 * 128 ^ k, q + 1, congrArg (Value.int .u64) HO.out, by go_num, by have := HK1.out; omega, hqe, HL, hidm (HM.out.trans HX.out), HR1, HB1⟩
        case measure => have := HK1.out; simp [intOf]; omega
end Cod
end Go.Proofs.Ytpamffheapnoaaa
