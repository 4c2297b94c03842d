/- The document's reader: its value, of numbers and texts. Conditions: the pointer is to such a reader whose place is within its bytes; the bytes are at most 2^48. -/
import Derived.Test.YtinnkdbojgoicaaRw
namespace Go.Proofs.Ytinnkdbojgoicaa
open Go.RowKit
namespace Rr
open Cod
set_option maxHeartbeats 4000000 in
set_option maxRecDepth 100000 in
theorem value_int (r : Nat) (s : ByteArray) (p : Nat) (w : World) (h : Rrd r s p 0 w) (hp : p < s.size) (hs : s.size ≤ 281474976710656) (c : UInt8) (hc : s[p] = c) (hk : c.toNat = 2) :
    Calls Try.prog 55 #[.pointer (some ⟨r, 0, none⟩)] w fun en w' => OutV r s w (val (s.data.toList.drop p)) en w' := by
  rw [val_at s p hp c hc]
  have hrlt := h.lt
  have H0 := hidm (h.past (.cells #[.int .i64 0, .int .i64 0, .int .u64 0, .string ⟨#[]⟩] 33))
  have B0 := hidm ((But.refl r w).alloc (.cells #[.int .i64 0, .int .i64 0, .int .u64 0, .string ⟨#[]⟩] 33))
  have A0 := hidm (Vb.new w 0 0 0 ⟨#[]⟩)
  have hoct := next_ok r s p _ H0.out hp (by omega)
  rw [hc] at hoct
  rw [hk] at hoct ⊢
  obtain ⟨R, hR⟩ : ∃ R, R = sig (s.data.toList.drop (p + 1)) := ⟨_, rfl⟩
  have hbody : chk (body 2 (s.data.toList.drop (p + 1))) = chk (toV (fun n => ⟨2, n, 0, []⟩) R) := by rw [hR]; rfl
  rw [hbody]
  have HT := hidm hR
  clear hbody hR hc h
  go_enter Try.func55, Try.ntmps55
  go_wp2_with fail
  refine hoct.mono ?_
  rintro en w1 ⟨rfl, hr1, hb1⟩
  have HR1 := hidm (hr1.past (.cells #[.int .i64 2, .int .i64 0, .int .u64 0, .string ⟨#[]⟩] 33))
  have HB1 := hidm ((B0.out.trans hb1).alloc (.cells #[.int .i64 2, .int .i64 0, .int .u64 0, .string ⟨#[]⟩] 33))
  have HA1 := hidm ((A0.out.but (by omega) hb1).past (.cells #[.int .i64 2, .int .i64 0, .int .u64 0, .string ⟨#[]⟩] 33))
  have hV1 := Vb.new w1 2 0 0 ⟨#[]⟩
  have sz1 : w.heap.size < w1.heap.size := by have := hb1.size; simp at this; omega
  have HV1 := hidm hV1
  clear hr1 hb1 hoct
  have kk0 := hV1.c0
  clear hV1
  have hpart := whole_part r s (p + 1) _ HR1.out hp hs
  rw [← HT.out] at hpart
  cases R with
  | error y =>
    go_wp2_with fail
    refine hpart.mono ?_
    rintro en w2 ⟨q, rfl, hr2, hb2⟩
    have HV2 := hidm (HV1.out.but (by omega) hb2)
    have HA2 := hidm (HA1.out.but (by omega) hb2)
    have HR2 := hidm hr2
    have HB2 := hidm (HB1.out.trans hb2)
    clear hr2 hb2
    have v0 := HV2.out.c1
    have vz := HV2.out.z
    have HRf := hidm (HR2.out.other (a := ⟨w1.heap.size, 1, none⟩) (show r ≠ w1.heap.size by omega) (.int .i64 0))
    have HBf := hidm (HB2.out.setNew (p := ⟨w1.heap.size, 1, none⟩) (Nat.le_of_lt sz1) (.int .i64 0))
    have HAf := hidm (HA2.out.other (a := ⟨w1.heap.size, 1, none⟩) (show w.heap.size ≠ w1.heap.size by omega) (.int .i64 0))
    have HVf := hidm (HV2.out.set1 0)
    have q0 := HVf.out.c0
    have q1 := HVf.out.c1
    have q2 := HVf.out.c2
    have q3 := HVf.out.c3
    have a0 := HAf.out.c0
    have a1 := HAf.out.c1
    have a2 := HAf.out.c2
    have a3 := HAf.out.c3
    have az := HAf.out.z
    have HP := hidm (put4_vb (k := 2) (n := 0) (x := 0) (t := ⟨#[]⟩) HAf.out)
    go_wp2_with fail
    have p0 := HP.out.c0
    have p1 := HP.out.c1
    have p2 := HP.out.c2
    have p3 := HP.out.c3
    show bodyPost _ _ _ _ _ (put4 (w2.setCell ⟨w1.heap.size, 1, none⟩ (.int .i64 0)) w.heap.size (.int .i64 2) (.int .i64 0) (.int .u64 0) (.string ⟨#[]⟩))
    refine bodyPost_ret (v := .agg #[.int .i64 2, .int .i64 0, .int .u64 0, .string ⟨#[]⟩]) (by simp [results, Try.results55, go_sem, p0, p1, p2, p3]) rfl ?_
    exact ⟨_, ⟨2, 0, 0, []⟩, rfl, put4_rrd HRf.out (by omega), put4_but HBf.out (Nat.le_refl _)⟩
  | ok at' =>
    obtain ⟨m, tl⟩ := at'
    have HRR : Hid (chk (toV (fun n => ⟨2, n, 0, []⟩) (.ok (m, tl))) = .ok (⟨2, m, 0, []⟩, tl)) := hidm (chk_yes (right_2 m))
    go_wp2_with fail
    refine hpart.mono ?_
    rintro en w2 ⟨_, rfl, rfl, hr2, hb2⟩
    have HV2 := hidm (HV1.out.but (by omega) hb2)
    have HA2 := hidm (HA1.out.but (by omega) hb2)
    have HR2 := hidm hr2
    have HB2 := hidm (HB1.out.trans hb2)
    clear hr2 hb2
    have v0 := HV2.out.c1
    have vz := HV2.out.z
    have HRf := hidm (HR2.out.other (a := ⟨w1.heap.size, 1, none⟩) (show r ≠ w1.heap.size by omega) (.int .i64 m))
    have HBf := hidm (HB2.out.setNew (p := ⟨w1.heap.size, 1, none⟩) (Nat.le_of_lt sz1) (.int .i64 m))
    have HAf := hidm (HA2.out.other (a := ⟨w1.heap.size, 1, none⟩) (show w.heap.size ≠ w1.heap.size by omega) (.int .i64 m))
    have HVf := hidm (HV2.out.set1 m)
    have q0 := HVf.out.c0
    have q1 := HVf.out.c1
    have q2 := HVf.out.c2
    have q3 := HVf.out.c3
    have a0 := HAf.out.c0
    have a1 := HAf.out.c1
    have a2 := HAf.out.c2
    have a3 := HAf.out.c3
    have az := HAf.out.z
    have HP := hidm (put4_vb (k := 2) (n := m) (x := 0) (t := ⟨#[]⟩) HAf.out)
    go_wp2_with fail
    have p0 := HP.out.c0
    have p1 := HP.out.c1
    have p2 := HP.out.c2
    have p3 := HP.out.c3
    show bodyPost _ _ _ _ _ (put4 (w2.setCell ⟨w1.heap.size, 1, none⟩ (.int .i64 m)) w.heap.size (.int .i64 2) (.int .i64 m) (.int .u64 0) (.string ⟨#[]⟩))
    refine bodyPost_ret (v := .agg #[.int .i64 2, .int .i64 m, .int .u64 0, .string ⟨#[]⟩]) (by simp [results, Try.results55, go_sem, p0, p1, p2, p3]) rfl ?_
    rw [HRR.out]
    exact ⟨rfl, put4_rrd HRf.out (by omega), put4_but HBf.out (Nat.le_refl _)⟩
set_option maxHeartbeats 4000000 in
set_option maxRecDepth 100000 in
theorem value_bytes (r : Nat) (s : ByteArray) (p : Nat) (w : World) (h : Rrd r s p 0 w) (hp : p < s.size) (hs : s.size ≤ 281474976710656) (c : UInt8) (hc : s[p] = c) (hk : c.toNat = 4) :
    Calls Try.prog 55 #[.pointer (some ⟨r, 0, none⟩)] w fun en w' => OutV r s w (val (s.data.toList.drop p)) en w' := by
  rw [val_at s p hp c hc]
  have hrlt := h.lt
  have H0 := hidm (h.past (.cells #[.int .i64 0, .int .i64 0, .int .u64 0, .string ⟨#[]⟩] 33))
  have B0 := hidm ((But.refl r w).alloc (.cells #[.int .i64 0, .int .i64 0, .int .u64 0, .string ⟨#[]⟩] 33))
  have A0 := hidm (Vb.new w 0 0 0 ⟨#[]⟩)
  have hoct := next_ok r s p _ H0.out hp (by omega)
  rw [hc] at hoct
  rw [hk] at hoct ⊢
  obtain ⟨R, hR⟩ : ∃ R, R = txt 4096 (s.data.toList.drop (p + 1)) := ⟨_, rfl⟩
  have hbody : chk (body 4 (s.data.toList.drop (p + 1))) = chk (toV (fun t => ⟨4, 0, 0, t⟩) R) := by rw [hR]; rfl
  rw [hbody]
  have HT := hidm hR
  clear hbody hR hc h
  go_enter Try.func55, Try.ntmps55
  go_wp2_with fail
  refine hoct.mono ?_
  rintro en w1 ⟨rfl, hr1, hb1⟩
  have HR1 := hidm (hr1.past (.cells #[.int .i64 4, .int .i64 0, .int .u64 0, .string ⟨#[]⟩] 33))
  have HB1 := hidm ((B0.out.trans hb1).alloc (.cells #[.int .i64 4, .int .i64 0, .int .u64 0, .string ⟨#[]⟩] 33))
  have HA1 := hidm ((A0.out.but (by omega) hb1).past (.cells #[.int .i64 4, .int .i64 0, .int .u64 0, .string ⟨#[]⟩] 33))
  have hV1 := Vb.new w1 4 0 0 ⟨#[]⟩
  have sz1 : w.heap.size < w1.heap.size := by have := hb1.size; simp at this; omega
  have HV1 := hidm hV1
  clear hr1 hb1 hoct
  have kk0 := hV1.c0
  clear hV1
  have hpart := text_part r s (p + 1) 4096 (by omega) _ HR1.out hp hs
  rw [← HT.out] at hpart
  cases R with
  | error y =>
    go_wp2_with fail
    refine hpart.mono ?_
    rintro en w2 ⟨q, rfl, hr2, hb2⟩
    have HV2 := hidm (HV1.out.but (by omega) hb2)
    have HA2 := hidm (HA1.out.but (by omega) hb2)
    have HR2 := hidm hr2
    have HB2 := hidm (HB1.out.trans hb2)
    clear hr2 hb2
    have v0 := HV2.out.c3
    have vz := HV2.out.z
    have HRf := hidm (HR2.out.other (a := ⟨w1.heap.size, 3, none⟩) (show r ≠ w1.heap.size by omega) (.string ⟨#[]⟩))
    have HBf := hidm (HB2.out.setNew (p := ⟨w1.heap.size, 3, none⟩) (Nat.le_of_lt sz1) (.string ⟨#[]⟩))
    have HAf := hidm (HA2.out.other (a := ⟨w1.heap.size, 3, none⟩) (show w.heap.size ≠ w1.heap.size by omega) (.string ⟨#[]⟩))
    have HVf := hidm (HV2.out.set3 ⟨#[]⟩)
    have q0 := HVf.out.c0
    have q1 := HVf.out.c1
    have q2 := HVf.out.c2
    have q3 := HVf.out.c3
    have a0 := HAf.out.c0
    have a1 := HAf.out.c1
    have a2 := HAf.out.c2
    have a3 := HAf.out.c3
    have az := HAf.out.z
    have HP := hidm (put4_vb (k := 4) (n := 0) (x := 0) (t := ⟨#[]⟩) HAf.out)
    go_wp2_with fail
    have p0 := HP.out.c0
    have p1 := HP.out.c1
    have p2 := HP.out.c2
    have p3 := HP.out.c3
    show bodyPost _ _ _ _ _ (put4 (w2.setCell ⟨w1.heap.size, 3, none⟩ (.string ⟨#[]⟩)) w.heap.size (.int .i64 4) (.int .i64 0) (.int .u64 0) (.string ⟨#[]⟩))
    refine bodyPost_ret (v := .agg #[.int .i64 4, .int .i64 0, .int .u64 0, .string ⟨#[]⟩]) (by simp [results, Try.results55, go_sem, p0, p1, p2, p3]) rfl ?_
    exact ⟨_, ⟨4, 0, 0, []⟩, rfl, put4_rrd HRf.out (by omega), put4_but HBf.out (Nat.le_refl _)⟩
  | ok at' =>
    obtain ⟨m, tl⟩ := at'
    have HRR : Hid (chk (toV (fun t => ⟨4, 0, 0, t⟩) (.ok (m, tl))) = .ok (⟨4, 0, 0, m⟩, tl)) := hidm (chk_yes (right_4 m (txt_ok HT.out.symm).2))
    go_wp2_with fail
    refine hpart.mono ?_
    rintro en w2 ⟨_, rfl, rfl, hr2, hb2⟩
    have HV2 := hidm (HV1.out.but (by omega) hb2)
    have HA2 := hidm (HA1.out.but (by omega) hb2)
    have HR2 := hidm hr2
    have HB2 := hidm (HB1.out.trans hb2)
    clear hr2 hb2
    have v0 := HV2.out.c3
    have vz := HV2.out.z
    have HRf := hidm (HR2.out.other (a := ⟨w1.heap.size, 3, none⟩) (show r ≠ w1.heap.size by omega) (.string (S m)))
    have HBf := hidm (HB2.out.setNew (p := ⟨w1.heap.size, 3, none⟩) (Nat.le_of_lt sz1) (.string (S m)))
    have HAf := hidm (HA2.out.other (a := ⟨w1.heap.size, 3, none⟩) (show w.heap.size ≠ w1.heap.size by omega) (.string (S m)))
    have HVf := hidm (HV2.out.set3 (S m))
    have q0 := HVf.out.c0
    have q1 := HVf.out.c1
    have q2 := HVf.out.c2
    have q3 := HVf.out.c3
    have a0 := HAf.out.c0
    have a1 := HAf.out.c1
    have a2 := HAf.out.c2
    have a3 := HAf.out.c3
    have az := HAf.out.z
    have HP := hidm (put4_vb (k := 4) (n := 0) (x := 0) (t := (S m)) HAf.out)
    go_wp2_with fail
    have p0 := HP.out.c0
    have p1 := HP.out.c1
    have p2 := HP.out.c2
    have p3 := HP.out.c3
    show bodyPost _ _ _ _ _ (put4 (w2.setCell ⟨w1.heap.size, 3, none⟩ (.string (S m))) w.heap.size (.int .i64 4) (.int .i64 0) (.int .u64 0) (.string (S m)))
    refine bodyPost_ret (v := .agg #[.int .i64 4, .int .i64 0, .int .u64 0, .string (S m)]) (by simp [results, Try.results55, go_sem, p0, p1, p2, p3]) rfl ?_
    rw [HRR.out]
    exact ⟨rfl, put4_rrd HRf.out (by omega), put4_but HBf.out (Nat.le_refl _)⟩
set_option maxHeartbeats 4000000 in
set_option maxRecDepth 100000 in
theorem value_text (r : Nat) (s : ByteArray) (p : Nat) (w : World) (h : Rrd r s p 0 w) (hp : p < s.size) (hs : s.size ≤ 281474976710656) (c : UInt8) (hc : s[p] = c) (hk : c.toNat = 5) :
    Calls Try.prog 55 #[.pointer (some ⟨r, 0, none⟩)] w fun en w' => OutV r s w (val (s.data.toList.drop p)) en w' := by
  rw [val_at s p hp c hc]
  have hrlt := h.lt
  have H0 := hidm (h.past (.cells #[.int .i64 0, .int .i64 0, .int .u64 0, .string ⟨#[]⟩] 33))
  have B0 := hidm ((But.refl r w).alloc (.cells #[.int .i64 0, .int .i64 0, .int .u64 0, .string ⟨#[]⟩] 33))
  have A0 := hidm (Vb.new w 0 0 0 ⟨#[]⟩)
  have hoct := next_ok r s p _ H0.out hp (by omega)
  rw [hc] at hoct
  rw [hk] at hoct ⊢
  obtain ⟨R, hR⟩ : ∃ R, R = txt 4096 (s.data.toList.drop (p + 1)) := ⟨_, rfl⟩
  have hbody : chk (body 5 (s.data.toList.drop (p + 1))) = chk (toV (fun t => ⟨5, 0, 0, t⟩) R) := by rw [hR]; rfl
  rw [hbody]
  have HT := hidm hR
  clear hbody hR hc h
  go_enter Try.func55, Try.ntmps55
  go_wp2_with fail
  refine hoct.mono ?_
  rintro en w1 ⟨rfl, hr1, hb1⟩
  have HR1 := hidm (hr1.past (.cells #[.int .i64 5, .int .i64 0, .int .u64 0, .string ⟨#[]⟩] 33))
  have HB1 := hidm ((B0.out.trans hb1).alloc (.cells #[.int .i64 5, .int .i64 0, .int .u64 0, .string ⟨#[]⟩] 33))
  have HA1 := hidm ((A0.out.but (by omega) hb1).past (.cells #[.int .i64 5, .int .i64 0, .int .u64 0, .string ⟨#[]⟩] 33))
  have hV1 := Vb.new w1 5 0 0 ⟨#[]⟩
  have sz1 : w.heap.size < w1.heap.size := by have := hb1.size; simp at this; omega
  have HV1 := hidm hV1
  clear hr1 hb1 hoct
  have kk0 := hV1.c0
  clear hV1
  have hpart := text_part r s (p + 1) 4096 (by omega) _ HR1.out hp hs
  rw [← HT.out] at hpart
  cases R with
  | error y =>
    go_wp2_with fail
    refine hpart.mono ?_
    rintro en w2 ⟨q, rfl, hr2, hb2⟩
    have HV2 := hidm (HV1.out.but (by omega) hb2)
    have HA2 := hidm (HA1.out.but (by omega) hb2)
    have HR2 := hidm hr2
    have HB2 := hidm (HB1.out.trans hb2)
    clear hr2 hb2
    have v0 := HV2.out.c3
    have vz := HV2.out.z
    have HRf := hidm (HR2.out.other (a := ⟨w1.heap.size, 3, none⟩) (show r ≠ w1.heap.size by omega) (.string ⟨#[]⟩))
    have HBf := hidm (HB2.out.setNew (p := ⟨w1.heap.size, 3, none⟩) (Nat.le_of_lt sz1) (.string ⟨#[]⟩))
    have HAf := hidm (HA2.out.other (a := ⟨w1.heap.size, 3, none⟩) (show w.heap.size ≠ w1.heap.size by omega) (.string ⟨#[]⟩))
    have HVf := hidm (HV2.out.set3 ⟨#[]⟩)
    have q0 := HVf.out.c0
    have q1 := HVf.out.c1
    have q2 := HVf.out.c2
    have q3 := HVf.out.c3
    have a0 := HAf.out.c0
    have a1 := HAf.out.c1
    have a2 := HAf.out.c2
    have a3 := HAf.out.c3
    have az := HAf.out.z
    have HP := hidm (put4_vb (k := 5) (n := 0) (x := 0) (t := ⟨#[]⟩) HAf.out)
    go_wp2_with fail
    have p0 := HP.out.c0
    have p1 := HP.out.c1
    have p2 := HP.out.c2
    have p3 := HP.out.c3
    show bodyPost _ _ _ _ _ (put4 (w2.setCell ⟨w1.heap.size, 3, none⟩ (.string ⟨#[]⟩)) w.heap.size (.int .i64 5) (.int .i64 0) (.int .u64 0) (.string ⟨#[]⟩))
    refine bodyPost_ret (v := .agg #[.int .i64 5, .int .i64 0, .int .u64 0, .string ⟨#[]⟩]) (by simp [results, Try.results55, go_sem, p0, p1, p2, p3]) rfl ?_
    exact ⟨_, ⟨5, 0, 0, []⟩, rfl, put4_rrd HRf.out (by omega), put4_but HBf.out (Nat.le_refl _)⟩
  | ok at' =>
    obtain ⟨m, tl⟩ := at'
    have HRR : Hid (chk (toV (fun t => ⟨5, 0, 0, t⟩) (.ok (m, tl))) = .ok (⟨5, 0, 0, m⟩, tl)) := hidm (chk_yes (right_5 m (txt_ok HT.out.symm).2))
    go_wp2_with fail
    refine hpart.mono ?_
    rintro en w2 ⟨_, rfl, rfl, hr2, hb2⟩
    have HV2 := hidm (HV1.out.but (by omega) hb2)
    have HA2 := hidm (HA1.out.but (by omega) hb2)
    have HR2 := hidm hr2
    have HB2 := hidm (HB1.out.trans hb2)
    clear hr2 hb2
    have v0 := HV2.out.c3
    have vz := HV2.out.z
    have HRf := hidm (HR2.out.other (a := ⟨w1.heap.size, 3, none⟩) (show r ≠ w1.heap.size by omega) (.string (S m)))
    have HBf := hidm (HB2.out.setNew (p := ⟨w1.heap.size, 3, none⟩) (Nat.le_of_lt sz1) (.string (S m)))
    have HAf := hidm (HA2.out.other (a := ⟨w1.heap.size, 3, none⟩) (show w.heap.size ≠ w1.heap.size by omega) (.string (S m)))
    have HVf := hidm (HV2.out.set3 (S m))
    have q0 := HVf.out.c0
    have q1 := HVf.out.c1
    have q2 := HVf.out.c2
    have q3 := HVf.out.c3
    have a0 := HAf.out.c0
    have a1 := HAf.out.c1
    have a2 := HAf.out.c2
    have a3 := HAf.out.c3
    have az := HAf.out.z
    have HP := hidm (put4_vb (k := 5) (n := 0) (x := 0) (t := (S m)) HAf.out)
    go_wp2_with fail
    have p0 := HP.out.c0
    have p1 := HP.out.c1
    have p2 := HP.out.c2
    have p3 := HP.out.c3
    show bodyPost _ _ _ _ _ (put4 (w2.setCell ⟨w1.heap.size, 3, none⟩ (.string (S m))) w.heap.size (.int .i64 5) (.int .i64 0) (.int .u64 0) (.string (S m)))
    refine bodyPost_ret (v := .agg #[.int .i64 5, .int .i64 0, .int .u64 0, .string (S m)]) (by simp [results, Try.results55, go_sem, p0, p1, p2, p3]) rfl ?_
    rw [HRR.out]
    exact ⟨rfl, put4_rrd HRf.out (by omega), put4_but HBf.out (Nat.le_refl _)⟩
end Rr
end Go.Proofs.Ytinnkdbojgoicaa
