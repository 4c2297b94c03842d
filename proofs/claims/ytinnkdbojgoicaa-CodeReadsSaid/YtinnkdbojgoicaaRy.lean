/- The document's reader: its value, of truths. Conditions: the pointer is to such a reader whose place is within its bytes; the bytes are at most 2^48. -/
import Derived.Test.YtinnkdbojgoicaaRx
namespace Go.Proofs.Ytinnkdbojgoicaa
open Go.RowKit
namespace Rr
open Cod
set_option maxHeartbeats 4000000 in
set_option maxRecDepth 100000 in
theorem value_bool (r : Nat) (s : ByteArray) (p : Nat) (w : World) (h : Rrd r s p 0 w) (hp : p < s.size) (hs : s.size ≤ 281474976710656) (c : UInt8) (hc : s[p] = c) (hk : c.toNat = 1) :
    Calls Try.prog 55 #[.pointer (some ⟨r, 0, none⟩)] w fun en w' => OutV r s w (val (s.data.toList.drop p)) en w' := by
  rw [val_at s p hp c hc]
  have hrlt := h.lt
  have H0 := hidm (h.past (.cells #[.int .i64 0, .int .i64 0, .int .u64 0, .string ⟨#[]⟩] 33))
  have B0 := hidm ((But.refl r w).alloc (.cells #[.int .i64 0, .int .i64 0, .int .u64 0, .string ⟨#[]⟩] 33))
  have A0 := hidm (Vb.new w 0 0 0 ⟨#[]⟩)
  have hoct := next_ok r s p _ H0.out hp (by omega)
  rw [hc] at hoct
  rw [hk] at hoct ⊢
  obtain ⟨R, hR⟩ : ∃ R, R = chk (body 1 (s.data.toList.drop (p + 1))) := ⟨_, rfl⟩
  rw [← hR]
  have HT := hidm hR
  clear hc h hR
  go_enter Try.func55, Try.ntmps55
  go_wp2_with fail
  refine hoct.mono ?_
  rintro en w1 ⟨rfl, hr1, hb1⟩
  have HR1 := hidm (hr1.past (.cells #[.int .i64 1, .int .i64 0, .int .u64 0, .string ⟨#[]⟩] 33))
  have HB1 := hidm ((B0.out.trans hb1).alloc (.cells #[.int .i64 1, .int .i64 0, .int .u64 0, .string ⟨#[]⟩] 33))
  have HA1 := hidm ((A0.out.but (by omega) hb1).past (.cells #[.int .i64 1, .int .i64 0, .int .u64 0, .string ⟨#[]⟩] 33))
  have hV1 := Vb.new w1 1 0 0 ⟨#[]⟩
  have sz1 : w.heap.size < w1.heap.size := by have := hb1.size; simp at this; omega
  have HV1 := hidm hV1
  clear hr1 hb1 hoct
  have kk0 := hV1.c0
  clear hV1
  rcases Nat.eq_or_lt_of_le (show p + 1 ≤ s.size from hp) with hpe | hpe
  · have hsh := next_short r s _ (by have := HR1.out; rw [hpe] at this; exact this)
    have HRR := hidm (show R = .error 8 by rw [HT.out, hpe, drop_end]; rfl)
    clear hpe
    go_wp2_with fail
    refine hsh.mono ?_
    rintro en w2 ⟨rfl, hr2, hb2⟩
    have HV2 := hidm (HV1.out.but (by omega) hb2)
    have HA2 := hidm (HA1.out.but (by omega) hb2)
    have HR2 := hidm hr2
    have HB2 := hidm (HB1.out.trans hb2)
    clear hr2 hb2 hsh
    have v0 := HV2.out.c1
    have vz := HV2.out.z
    have HRf := hidm (HR2.out.other (a := ⟨w1.heap.size, 1, none⟩) (show r ≠ w1.heap.size by omega) (.int .i64 0))
    have HBf := hidm (HB2.out.setNew (p := ⟨w1.heap.size, 1, none⟩) (Nat.le_of_lt sz1) (.int .i64 0))
    have HAf := hidm (HA2.out.other (a := ⟨w1.heap.size, 1, none⟩) (show w.heap.size ≠ w1.heap.size by omega) (.int .i64 0))
    have HVf := hidm (HV2.out.set1 0)
    have q0 := HVf.out.c0
    have q1 := HVf.out.c1
    have q2 := HVf.out.c2
    have q3 := HVf.out.c3
    have a0 := HAf.out.c0
    have a1 := HAf.out.c1
    have a2 := HAf.out.c2
    have a3 := HAf.out.c3
    have az := HAf.out.z
    have HP := hidm (put4_vb (k := 1) (n := 0) (x := 0) (t := ⟨#[]⟩) HAf.out)
    go_wp2_with fail
    have p0 := HP.out.c0
    have p1 := HP.out.c1
    have p2 := HP.out.c2
    have p3 := HP.out.c3
    show bodyPost _ _ _ _ _ (put4 (w2.setCell ⟨w1.heap.size, 1, none⟩ (.int .i64 0)) w.heap.size (.int .i64 1) (.int .i64 0) (.int .u64 0) (.string ⟨#[]⟩))
    refine bodyPost_ret (v := .agg #[.int .i64 1, .int .i64 0, .int .u64 0, .string ⟨#[]⟩]) (by simp [results, Try.results55, go_sem, p0, p1, p2, p3]) rfl ?_
    rw [HRR.out]
    exact ⟨_, ⟨1, 0, 0, []⟩, rfl, put4_rrd HRf.out (by omega), put4_but HBf.out (Nat.le_refl _)⟩
  · obtain ⟨d, hd⟩ : ∃ d : UInt8, s[p + 1] = d := ⟨_, rfl⟩
    have hdl := d.toNat_lt
    have hoct2 := next_ok r s (p + 1) _ HR1.out hpe (by omega)
    rw [hd] at hoct2
    obtain ⟨tl, htl⟩ : ∃ tl, tl = s.data.toList.drop (p + 2) := ⟨_, rfl⟩
    have HE : Hid (s.size - tl.length = p + 1 + 1) := by refine hidm ?_; rw [htl]; exact back_at s (p + 2) hpe
    obtain ⟨b, hb⟩ : ∃ b, b = d.toNat := ⟨_, rfl⟩
    have hbody : body 1 (s.data.toList.drop (p + 1)) = .ok (⟨1, (b : Int), 0, []⟩, tl) := by rw [drop_at s (p + 1) hpe, hd, htl, hb]; rfl
    have hT := HT.out
    rw [hbody] at hT
    have hr1 := right_1 b
    rw [← hb] at hoct2
    clear htl hd hbody hb
    by_cases hb1 : b ≤ 1
    · have HRR := hidm (hT.trans (chk_yes (t := tl) (hr1.trans (decide_eq_true hb1))))
      have hb1i : ¬ (1 : Int) < (b : Int) := by omega
      clear hr1 hb1 hT
      go_wp2_with fail
      refine hoct2.mono ?_
      rintro en w2 ⟨rfl, hr2, hb2⟩
      have HV2 := hidm (HV1.out.but (by omega) hb2)
      have HA2 := hidm (HA1.out.but (by omega) hb2)
      have HR2 := hidm hr2
      have HB2 := hidm (HB1.out.trans hb2)
      clear hr2 hb2 hoct2
      have v0 := HV2.out.c1
      have vz := HV2.out.z
      have HRf := hidm (HR2.out.other (a := ⟨w1.heap.size, 1, none⟩) (show r ≠ w1.heap.size by omega) (.int .i64 (b : Int)))
      have HBf := hidm (HB2.out.setNew (p := ⟨w1.heap.size, 1, none⟩) (Nat.le_of_lt sz1) (.int .i64 (b : Int)))
      have HAf := hidm (HA2.out.other (a := ⟨w1.heap.size, 1, none⟩) (show w.heap.size ≠ w1.heap.size by omega) (.int .i64 (b : Int)))
      have HVf := hidm (HV2.out.set1 (b : Int))
      have q0 := HVf.out.c0
      have q1 := HVf.out.c1
      have q2 := HVf.out.c2
      have q3 := HVf.out.c3
      have a0 := HAf.out.c0
      have a1 := HAf.out.c1
      have a2 := HAf.out.c2
      have a3 := HAf.out.c3
      have az := HAf.out.z
      have HP := hidm (put4_vb (k := 1) (n := (b : Int)) (x := 0) (t := ⟨#[]⟩) HAf.out)
      go_wp2_with fail
      have p0 := HP.out.c0
      have p1 := HP.out.c1
      have p2 := HP.out.c2
      have p3 := HP.out.c3
      show bodyPost _ _ _ _ _ (put4 (w2.setCell ⟨w1.heap.size, 1, none⟩ (.int .i64 (b : Int))) w.heap.size (.int .i64 1) (.int .i64 (b : Int)) (.int .u64 0) (.string ⟨#[]⟩))
      refine bodyPost_ret (v := .agg #[.int .i64 1, .int .i64 (b : Int), .int .u64 0, .string ⟨#[]⟩]) (by simp [results, Try.results55, go_sem, p0, p1, p2, p3]) rfl ?_
      rw [HRR.out]
      exact ⟨rfl, put4_rrd (by rw [HE.out]; exact HRf.out) (by omega), put4_but HBf.out (Nat.le_refl _)⟩
    · have HRR := hidm (hT.trans (chk_no (t := tl) (hr1.trans (decide_eq_false hb1))))
      have hb1i : (1 : Int) < (b : Int) := by omega
      clear hr1 hb1 hT
      go_wp2_with fail
      refine hoct2.mono ?_
      rintro en w2 ⟨rfl, hr2, hb2⟩
      have HV2 := hidm (HV1.out.but (by omega) hb2)
      have HA2 := hidm (HA1.out.but (by omega) hb2)
      have HR2 := hidm hr2
      have HB2 := hidm (HB1.out.trans hb2)
      clear hr2 hb2 hoct2
      have v0 := HV2.out.c1
      have vz := HV2.out.z
      have HRg := hidm (HR2.out.other (a := ⟨w1.heap.size, 1, none⟩) (show r ≠ w1.heap.size by omega) (.int .i64 (b : Int)))
      have HBg := hidm (HB2.out.setNew (p := ⟨w1.heap.size, 1, none⟩) (Nat.le_of_lt sz1) (.int .i64 (b : Int)))
      have HAg := hidm (HA2.out.other (a := ⟨w1.heap.size, 1, none⟩) (show w.heap.size ≠ w1.heap.size by omega) (.int .i64 (b : Int)))
      have HVg := hidm (HV2.out.set1 (b : Int))
      have g1 := HVg.out.c1
      go_wp2_with fail
      refine (fail_any r s _ 7 _ HRg.out).mono ?_
      rintro en w3 ⟨rfl, hr3, hb3⟩
      have HRf := hidm hr3
      have HBf := hidm (HBg.out.trans hb3)
      have HAf := hidm (HAg.out.but (by omega) hb3)
      have HVf := hidm (HVg.out.but (by omega) hb3)
      clear hr3 hb3 g1
      have q0 := HVf.out.c0
      have q1 := HVf.out.c1
      have q2 := HVf.out.c2
      have q3 := HVf.out.c3
      have a0 := HAf.out.c0
      have a1 := HAf.out.c1
      have a2 := HAf.out.c2
      have a3 := HAf.out.c3
      have az := HAf.out.z
      have HP := hidm (put4_vb (k := 1) (n := (b : Int)) (x := 0) (t := ⟨#[]⟩) HAf.out)
      go_wp2_with fail
      have p0 := HP.out.c0
      have p1 := HP.out.c1
      have p2 := HP.out.c2
      have p3 := HP.out.c3
      show bodyPost _ _ _ _ _ (put4 w3 w.heap.size (.int .i64 1) (.int .i64 (b : Int)) (.int .u64 0) (.string ⟨#[]⟩))
      refine bodyPost_ret (v := .agg #[.int .i64 1, .int .i64 (b : Int), .int .u64 0, .string ⟨#[]⟩]) (by simp [results, Try.results55, go_sem, p0, p1, p2, p3]) rfl ?_
      rw [HRR.out]
      exact ⟨_, ⟨1, (b : Int), 0, []⟩, rfl, put4_rrd HRf.out (by omega), put4_but HBf.out (Nat.le_refl _)⟩
end Rr
end Go.Proofs.Ytinnkdbojgoicaa
