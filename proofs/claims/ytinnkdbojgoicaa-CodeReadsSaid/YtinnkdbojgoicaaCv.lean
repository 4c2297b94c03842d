/- The reader's parts: text, bits. Conditions: the pointer is to a reader whose place is within its bytes; the bytes are at most 2^48. -/
import Derived.Test.YtinnkdbojgoicaaCt
namespace Go.Proofs.Ytinnkdbojgoicaa
open Go.RowKit
namespace Cod
theorem len_ok {m : Nat} {l t : List UInt8} {n : Nat} (h : len m l = .ok (n, t)) : num 0 0 l = .ok (n, t) ∧ n ≤ m := by
  unfold len lenR at h
  split at h
  · rename_i n' t' hn
    split at h
    · cases h
    · simp only [Except.ok.injEq, Prod.mk.injEq] at h
      obtain ⟨rfl, rfl⟩ := h
      exact ⟨hn, by omega⟩
  · cases h
theorem cut_size (s : ByteArray) (a b : Nat) : (s.extract a b).size = min b s.size - a := by simp [ByteArray.size_extract]
theorem cut_bytes (s : ByteArray) (q n : Nat) : s.extract q (q + n) = S ((s.data.toList.drop q).take n) := by
  apply ByteArray.ext
  rw [ByteArray.data_extract]
  apply Array.toList_inj.1
  simp only [Array.toList_extract, List.extract]
  rw [show q + n - q = n by omega]
set_option maxHeartbeats 2000000 in
set_option maxRecDepth 100000 in
theorem text_part (r : Nat) (s : ByteArray) (p : Nat) (e : Int) (most : Nat) (hm : most ≤ 9223372036854775807) (w : World) (h : Rdr r s p e w) (hp : p ≤ s.size) (hs : s.size ≤ 281474976710656) :
    Calls Try.prog 51 #[.pointer (some ⟨r, 0, none⟩), .int .i64 most] w fun en w' => Part r s e w VStr (txt most (s.data.toList.drop p)) en w' := by
  have hn := length_any r s p e most hm w h hp hs
  obtain ⟨R, hR⟩ : ∃ R, R = len most (s.data.toList.drop p) := ⟨_, rfl⟩
  unfold txt
  rw [← hR] at hn ⊢
  have HR := hidm hR
  clear hR
  go_enter Try.func51, Try.ntmps51
  go_wp2_with fail
  refine hn.mono ?_
  cases R with
  | error x =>
    rintro en w1 ⟨q, rfl, hv⟩
    have HV := hidm hv
    clear hv
    go_wp2_with fail
    exact ⟨rfl, q, rfl, HV.out⟩
  | ok at' =>
    obtain ⟨n, t⟩ := at'
    rintro en w1 ⟨v, rfl, rfl, hv, hbt⟩
    have hlen := (len_ok HR.out.symm)
    have hrest := rest_at (read_ok hlen.1).1
    obtain ⟨q, hq⟩ : ∃ q, q = s.size - t.length := ⟨_, rfl⟩
    rw [← hq] at hrest hv
    have htq : s.size - q = t.length := by have := hrest.2.2; omega
    have HV := hidm hv
    have HT := hidm hbt
    have HH := hidm hrest
    have hl := left_any r s q e w1 HV.out hrest.2.1 (by omega)
    rw [htq] at hl
    have hn9 : n ≤ 9223372036854775807 := by have := hlen.2; omega
    have hq9 : q ≤ s.size := hrest.2.1
    have HQ := hidm hq
    have HTQ := hidm htq
    clear hv hbt hrest hlen hq htq
    go_wp2_with fail
    refine hl.mono ?_
    rintro en w2 ⟨rfl, hb2⟩
    have HV2 := hidm (HV.out.later hb2)
    have HT2 := hidm (HT.out.trans (.of hb2))
    clear hb2
    rcases Nat.lt_or_ge t.length n with h2 | h2
    · have h3 : (t.length : Int) < n := by omega
      have H4 := hidm (if_pos h2 : (if t.length < n then (.error 8 : Except Nat (List UInt8 × List UInt8)) else .ok (t.take n, t.drop n)) = .error 8)
      go_wp2_with fail
      refine ⟨rfl, ?_⟩
      simp only [txtR]
      rw [H4.out]
      exact ⟨_, rfl, HV2.out, HT2.out⟩
    · have h3 : ¬ (t.length : Int) < n := by omega
      have H4 := hidm (if_neg (by omega) : (if t.length < n then (.error 8 : Except Nat (List UInt8 × List UInt8)) else .ok (t.take n, t.drop n)) = .ok (t.take n, t.drop n))
      have k1 := HV2.out.c1
      have z1 := HV2.out.z1
      have hqn : q + n ≤ s.size := by have := HTQ.out; omega
      go_wp2_with fail
      have hw : Rdr r s ((q : Int) + n) e (w2.setCell ⟨r, 1, none⟩ (.int .i64 ((q : Int) + n))) := HV2.out.set1 _
      have hbw : But r w (w2.setCell ⟨r, 1, none⟩ (.int .i64 ((q : Int) + n))) := HT2.out.set _ _
      have HW := hidm (And.intro hw hbw)
      clear hw hbw k1 z1
      have b1 : (q : Int) ≤ (q : Int) + n := by omega
      have b2 : (q : Int) + n ≤ (s.size : Int) := by omega
      go_region_held3 (fun w' => w'.cell? ⟨r, 0, none⟩ = some (.string s) ∧ w'.cell? ⟨r, 1, none⟩ = some (.int .i64 ((q : Int) + n)) ∧ Hid (Rdr r s ((q : Int) + n) e w' ∧ But r w w'))
        (first | (exact rs_step (by assumption) hb) | (exact rs_of HW.out.1 HW.out.2) | (exact rs_of (HW.out.1.later (below_drewN (Below.refl _ _) 1)) (HW.out.2.drew)) | go_keep)
        (first | (go_at_call 41; (with_reducible refine (clone_any _ _ (by rw [cut_size]; omega)).mono ?_); rintro e w' ⟨rfl, hb⟩))
      rename_i hS
      have HS := hidm hS.2.2.out
      clear hS
      go_wp2_with fail
      go_ret
      simp only [txtR]
      rw [H4.out]
      refine ⟨_, rfl, congrArg Value.string ?_, ?_, HS.out.2⟩
      · rw [show ((q : Int) + (n : Int)).toNat = q + n by omega, cut_bytes, HH.out.1]
      · have e1 : s.size - (t.drop n).length = q + n := by rw [List.length_drop]; have := HTQ.out; omega
        rw [e1]
        exact HS.out.1
theorem text_any_part (r : Nat) (s : ByteArray) (p : Nat) (e : Int) (w : World) (h : Rdr r s p e w) (hp : p ≤ s.size) (hs : s.size ≤ 281474976710656) :
    Calls Try.prog 50 #[.pointer (some ⟨r, 0, none⟩)] w fun en w' => Part r s e w VStr (txt 1000000 (s.data.toList.drop p)) en w' := by
  have hn := text_part r s p e 1000000 (by omega) w h hp hs
  obtain ⟨R, hR⟩ : ∃ R, R = txt 1000000 (s.data.toList.drop p) := ⟨_, rfl⟩
  rw [← hR] at hn ⊢
  clear hR
  go_enter Try.func50, Try.ntmps50
  go_wp2_with fail
  refine hn.mono ?_
  cases R with
  | error x =>
    rintro en w1 ⟨q, rfl, hv⟩
    have HV := hidm hv
    clear hv
    go_wp2_with fail
    exact ⟨rfl, q, rfl, HV.out⟩
  | ok at' =>
    obtain ⟨n, t⟩ := at'
    rintro en w1 ⟨v, rfl, rfl, hv⟩
    have HV := hidm hv
    clear hv
    go_wp2_with fail
    go_ret
    exact ⟨_, rfl, rfl, HV.out⟩
/-- i bytes, the highest first, behind the number n. -/
def oct : Nat → Nat → List UInt8 → Except Nat (Nat × List UInt8)
  | 0, n, l => .ok (n, l)
  | _ + 1, _, [] => .error 8
  | i + 1, n, c :: l => oct i (n * 256 + c.toNat) l
theorem oct_or (n : Nat) (c : UInt8) (i : Nat) (hi : i ≤ 7) (hn : n < 256 ^ i) : bits .or .u64 (IntKind.u64.wrap ((n : Int) * 256)) (c.toNat : Int) = ((n * 256 + c.toNat : Nat) : Int) := by
  have hc := c.toNat_lt
  have h1 : (256 : Nat) ^ i ≤ 256 ^ 7 := Nat.pow_le_pow_right (by omega) hi
  have h2 : (256 : Nat) ^ 7 = 72057594037927936 := by decide
  have e1 : IntKind.u64.wrap ((n : Int) * 256) = ((n * 256 : Nat) : Int) := by simp only [IntKind.wrap_u64]; omega
  rw [e1, u64_or_nat _ _ (by omega) (by omega)]
  have := Nat.two_pow_add_eq_or_of_lt (b := c.toNat) (i := 8) (by omega) n
  rw [show (2 : Nat) ^ 8 = 256 from rfl] at this
  rw [Nat.mul_comm n, ← this]
set_option maxHeartbeats 4000000 in
set_option maxRecDepth 100000 in
theorem bits_part (r : Nat) (s : ByteArray) (p : Nat) (e : Int) (w : World) (h : Rdr r s p e w) (hp : p ≤ s.size) (hs : s.size ≤ 281474976710656) :
    Calls Try.prog 74 #[.pointer (some ⟨r, 0, none⟩)] w fun en w' => Part r s e w VNat (oct 8 0 (s.data.toList.drop p)) en w' := by
  have Hs := hidm hs
  obtain ⟨R, hR⟩ : ∃ R, R = oct 8 0 (s.data.toList.drop p) := ⟨_, rfl⟩
  rw [← hR]
  have HP := hidm hR
  clear hR hs
  go_enter Try.func74, Try.ntmps74
  go_wp2_with fail
  go_loopw [3, 4] (fun nn ii wr => ∃ (i n q : Nat), nn = .int .u64 n ∧ ii = .int .i64 i ∧ i ≤ 8 ∧ q ≤ s.size ∧ Hid (n < 256 ^ i) ∧ Hid (R = oct (8 - i) n (s.data.toList.drop q)) ∧ Hid (Rdr r s q e wr) ∧ Hid (But r w wr)) (fun _ ii _ => (8 - intOf ii).toNat)
  case atStart => exact ⟨0, 0, p, rfl, rfl, by omega, hp, hidm (by simp), HP, hidm h, hidm (But.refl _ _)⟩
  case round =>
    obtain ⟨i, n, q, rfl, rfl, hi, hq, HN, HM, HR, HB⟩ := hrel
    rcases Nat.eq_or_lt_of_le hi with hi8 | hi8
    · have f1 : ¬ (i : Int) < 8 := by omega
      have HI := hidm hi8
      clear hi8
      go_wp2_with fail
      go_ret
      rw [HM.out, HI.out]
      exact ⟨_, rfl, rfl, by rw [back_at s q hq]; exact HR.out, HB.out⟩
    · have f1 : (i : Int) < 8 := by omega
      rcases Nat.eq_or_lt_of_le hq with hqe | hqe
      · have HQ := hidm hqe
        clear hqe
        go_wp2_with fail
        refine (octet_short r s e wr (by rw [← HQ.out]; exact HR.out)).mono ?_
        rintro en w1 ⟨rfl, hb1⟩
        have HR1 := hidm (HR.out.later hb1)
        have HB1 := hidm (HB.out.trans (.of hb1))
        clear hb1
        go_wp2_with fail
        refine ⟨rfl, ?_⟩
        rw [HM.out, HQ.out, drop_end, show 8 - i = (7 - i) + 1 by omega]
        exact ⟨_, rfl, HR1.out, HB1.out⟩
      · obtain ⟨c, hc⟩ : ∃ c : UInt8, s[q] = c := ⟨_, rfl⟩
        have hcl := c.toNat_lt
        have hoct := octet_ok r s q e wr HR.out hqe (by have := Hs.out; omega)
        rw [hc] at hoct
        have HX : Hid (oct (8 - i) n (s.data.toList.drop q) = oct (8 - (i + 1)) (n * 256 + c.toNat) (s.data.toList.drop (q + 1))) := by
          rw [drop_at s q hqe, hc, show 8 - i = (8 - (i + 1)) + 1 by omega]; exact rfl
        have HO := hidm (oct_or n c i (by omega) HN.out)
        have HL : Hid (n * 256 + c.toNat < 256 ^ (i + 1)) := by have := HN.out; show _ < _; rw [Nat.pow_succ]; omega
        clear hc
        go_wp2_with fail
        refine hoct.mono ?_
        rintro en w1 ⟨rfl, hr1, hb1⟩
        have HR1 := hidm hr1
        have HB1 := hidm (HB.out.trans hb1)
        clear hr1 hb1
        go_wp2_with fail
        go_roundw
        case rel => exact ⟨i + 1, n * 256 + c.toNat, q + 1, congrArg (Value.int .u64) HO.out, by go_num, by omega, hqe, HL, hidm (HM.out.trans HX.out), HR1, HB1⟩
        case measure => simp [intOf]; omega
end Cod
end Go.Proofs.Ytinnkdbojgoicaa
