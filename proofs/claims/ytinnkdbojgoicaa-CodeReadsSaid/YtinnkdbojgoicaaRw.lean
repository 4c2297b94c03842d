/- The document's reader: its value. Conditions: the pointer is to such a reader whose place is within its bytes; the bytes are at most 2^48. -/
import Derived.Test.YtinnkdbojgoicaaRv
import Derived.Test.YtinnkdbojgoicaaCx
import Derived.Test.YtinnkdbojgoicaaCpl
import Derived.Test.YtinnkdbojgoicaaRfc
namespace Go.Proofs.Ytinnkdbojgoicaa
open Go.RowKit
namespace Rr
open Cod
/-- What the document's value comes to: the answer, or some value, and an error that stays. -/
def OutV (r : Nat) (s : ByteArray) (w : World) : Except Nat (V × List UInt8) → Ending → World → Prop
  | .ok (v, t), en, w' => en = .returned v.agg ∧ Rrd r s (s.size - t.length : Nat) 0 w' ∧ But r w w'
  | .error x, en, w' => ∃ (q : Int) (z : V), en = .returned z.agg ∧ Rrd r s q x w' ∧ But r w w'
theorem put4_rrd {w1 : World} {B r : Nat} {s : ByteArray} {q e : Int} {x0 x1 x2 x3 : Value} (h : Rrd r s q e w1) (hn : r ≠ B) : Rrd r s q e (put4 w1 B x0 x1 x2 x3) :=
  (((h.other (a := ⟨B, 0, none⟩) hn _).other (a := ⟨B, 1, none⟩) hn _).other (a := ⟨B, 2, none⟩) hn _).other (a := ⟨B, 3, none⟩) hn _
theorem right_0 : V.right ⟨0, 0, 0, []⟩ = true := by
  simp [V.right, Val.rightB, Val.eqV, ByteArray.toList_eq]
theorem right_1 (d : Nat) : V.right ⟨1, (d : Int), 0, []⟩ = decide (d ≤ 1) := by
  rw [Bool.eq_iff_iff]
  simp [V.right, Val.rightB, Val.eqV, ByteArray.toList_eq]
  omega
theorem right_2 (n : Int) : V.right ⟨2, n, 0, []⟩ = true := by
  simp [V.right, Val.rightB, Val.eqV, ByteArray.toList_eq]
theorem right_3 (m : Nat) : V.right ⟨3, 0, m, []⟩ = decide (m = Flo.canon m) := by
  rw [Bool.eq_iff_iff]
  simp [V.right, Val.rightB, Val.eqV, ByteArray.toList_eq]
  omega
theorem right_4 (t : List UInt8) (h : t.length ≤ 4096) : V.right ⟨4, 0, 0, t⟩ = true := by
  simp [V.right, Val.rightB, Val.eqV, ByteArray.toList_eq, S_size]; omega
theorem right_5 (t : List UInt8) (h : t.length ≤ 4096) : V.right ⟨5, 0, 0, t⟩ = true := by
  simp [V.right, Val.rightB, Val.eqV, ByteArray.toList_eq, S_size]; omega
theorem right_6 (k : Nat) (h : 5 < k) : V.right ⟨(k : Int), 0, 0, []⟩ = false := by
  simp only [V.right, Val.rightB]
  rw [if_neg (by omega), if_neg (by omega), if_neg (by omega), if_neg (by omega), if_neg (by omega)]
theorem chk_yes {v : V} {t : List UInt8} (h : v.right = true) : chk (.ok (v, t)) = .ok (v, t) := by simp [chk, h]
theorem chk_no {v : V} {t : List UInt8} (h : v.right = false) : chk (.ok (v, t)) = .error 7 := by simp [chk, h]
set_option maxHeartbeats 4000000 in
set_option maxRecDepth 100000 in
theorem value_short (r : Nat) (s : ByteArray) (w : World) (h : Rrd r s s.size 0 w) :
    Calls Try.prog 55 #[.pointer (some ⟨r, 0, none⟩)] w fun en w' => OutV r s w (val (s.data.toList.drop s.size)) en w' := by
  rw [val_short]
  have hrlt := h.lt
  have H0 := hidm (h.past (.cells #[.int .i64 0, .int .i64 0, .int .u64 0, .string ⟨#[]⟩] 33))
  have B0 := hidm ((But.refl r w).alloc (.cells #[.int .i64 0, .int .i64 0, .int .u64 0, .string ⟨#[]⟩] 33))
  have A0 := hidm (Vb.new w 0 0 0 ⟨#[]⟩)
  have hoct := next_short r s _ H0.out
  clear h
  go_enter Try.func55, Try.ntmps55
  go_wp2_with fail
  refine hoct.mono ?_
  rintro en w1 ⟨rfl, hr1, hb1⟩
  have HR1 := hidm (hr1.past (.cells #[.int .i64 0, .int .i64 0, .int .u64 0, .string ⟨#[]⟩] 33))
  have HB1 := hidm ((B0.out.trans hb1).alloc (.cells #[.int .i64 0, .int .i64 0, .int .u64 0, .string ⟨#[]⟩] 33))
  have HA1 := hidm ((A0.out.but (by omega) hb1).past (.cells #[.int .i64 0, .int .i64 0, .int .u64 0, .string ⟨#[]⟩] 33))
  have hV1 := Vb.new w1 0 0 0 ⟨#[]⟩
  have sz1 : w.heap.size < w1.heap.size := by have := hb1.size; simp at this; omega
  have HV1 := hidm hV1
  have ha1 := A0.out.but (by omega) hb1
  have b0 := ha1.c0
  have b1 := ha1.c1
  have b2 := ha1.c2
  have b3 := ha1.c3
  have bz := ha1.z
  have HAw := hidm ha1
  have HRw := hidm hr1
  have HBw := hidm (B0.out.trans hb1)
  clear hr1 hb1 hoct ha1
  have kk0 := hV1.c0
  clear hV1
  have HP := hidm ((put4_vb (k := 0) (n := 0) (x := 0) (t := ⟨#[]⟩) HAw.out).past (.cells #[.int .i64 0, .int .i64 0, .int .u64 0, .string ⟨#[]⟩] 33))
  go_wp2_with fail
  have p0 := HP.out.c0
  have p1 := HP.out.c1
  have p2 := HP.out.c2
  have p3 := HP.out.c3
  show bodyPost _ _ _ _ _ ((put4 w1 w.heap.size (.int .i64 0) (.int .i64 0) (.int .u64 0) (.string ⟨#[]⟩)).alloc (.cells #[.int .i64 0, .int .i64 0, .int .u64 0, .string ⟨#[]⟩] 33))
  refine bodyPost_ret (v := .agg #[.int .i64 0, .int .i64 0, .int .u64 0, .string ⟨#[]⟩]) (by simp [results, Try.results55, go_sem, p0, p1, p2, p3]) rfl ?_
  exact ⟨_, ⟨0, 0, 0, []⟩, rfl, (put4_rrd HRw.out (by omega)).past _, (put4_but HBw.out (Nat.le_refl _)).alloc _⟩
set_option maxHeartbeats 4000000 in
set_option maxRecDepth 100000 in
theorem value_null (r : Nat) (s : ByteArray) (p : Nat) (w : World) (h : Rrd r s p 0 w) (hp : p < s.size) (hs : s.size ≤ 281474976710656) (c : UInt8) (hc : s[p] = c) (hk : c.toNat = 0) :
    Calls Try.prog 55 #[.pointer (some ⟨r, 0, none⟩)] w fun en w' => OutV r s w (val (s.data.toList.drop p)) en w' := by
  rw [val_at s p hp c hc]
  have hrlt := h.lt
  have H0 := hidm (h.past (.cells #[.int .i64 0, .int .i64 0, .int .u64 0, .string ⟨#[]⟩] 33))
  have B0 := hidm ((But.refl r w).alloc (.cells #[.int .i64 0, .int .i64 0, .int .u64 0, .string ⟨#[]⟩] 33))
  have A0 := hidm (Vb.new w 0 0 0 ⟨#[]⟩)
  have hoct := next_ok r s p _ H0.out hp (by omega)
  rw [hc] at hoct
  rw [hk] at hoct ⊢
  obtain ⟨R, hR⟩ : ∃ R, R = chk (body 0 (s.data.toList.drop (p + 1))) := ⟨_, rfl⟩
  rw [← hR]
  obtain ⟨tl, htl⟩ : ∃ tl, tl = s.data.toList.drop (p + 1) := ⟨_, rfl⟩
  have HRR : Hid (R = .ok (⟨0, 0, 0, []⟩, tl)) := hidm (by rw [hR, ← htl]; exact chk_yes right_0)
  have HE : Hid (s.size - tl.length = p + 1) := by refine hidm ?_; rw [htl]; exact back_at s (p + 1) hp
  clear htl hR hc h
  go_enter Try.func55, Try.ntmps55
  go_wp2_with fail
  refine hoct.mono ?_
  rintro en w1 ⟨rfl, hr1, hb1⟩
  have HR1 := hidm (hr1.past (.cells #[.int .i64 0, .int .i64 0, .int .u64 0, .string ⟨#[]⟩] 33))
  have HB1 := hidm ((B0.out.trans hb1).alloc (.cells #[.int .i64 0, .int .i64 0, .int .u64 0, .string ⟨#[]⟩] 33))
  have HA1 := hidm ((A0.out.but (by omega) hb1).past (.cells #[.int .i64 0, .int .i64 0, .int .u64 0, .string ⟨#[]⟩] 33))
  have hV1 := Vb.new w1 0 0 0 ⟨#[]⟩
  have sz1 : w.heap.size < w1.heap.size := by have := hb1.size; simp at this; omega
  have HV1 := hidm hV1
  have ha1 := A0.out.but (by omega) hb1
  have b0 := ha1.c0
  have b1 := ha1.c1
  have b2 := ha1.c2
  have b3 := ha1.c3
  have bz := ha1.z
  have HAw := hidm ha1
  have HRw := hidm hr1
  have HBw := hidm (B0.out.trans hb1)
  clear hr1 hb1 hoct ha1
  have kk0 := hV1.c0
  clear hV1
  have HP := hidm ((put4_vb (k := 0) (n := 0) (x := 0) (t := ⟨#[]⟩) HAw.out).past (.cells #[.int .i64 0, .int .i64 0, .int .u64 0, .string ⟨#[]⟩] 33))
  go_wp2_with fail
  have p0 := HP.out.c0
  have p1 := HP.out.c1
  have p2 := HP.out.c2
  have p3 := HP.out.c3
  show bodyPost _ _ _ _ _ ((put4 w1 w.heap.size (.int .i64 0) (.int .i64 0) (.int .u64 0) (.string ⟨#[]⟩)).alloc (.cells #[.int .i64 0, .int .i64 0, .int .u64 0, .string ⟨#[]⟩] 33))
  refine bodyPost_ret (v := .agg #[.int .i64 0, .int .i64 0, .int .u64 0, .string ⟨#[]⟩]) (by simp [results, Try.results55, go_sem, p0, p1, p2, p3]) rfl ?_
  rw [HRR.out]
  exact ⟨rfl, (put4_rrd (by rw [HE.out]; exact HRw.out) (by omega)).past _, (put4_but HBw.out (Nat.le_refl _)).alloc _⟩
set_option maxHeartbeats 4000000 in
set_option maxRecDepth 100000 in
theorem value_else (r : Nat) (s : ByteArray) (p : Nat) (w : World) (h : Rrd r s p 0 w) (hp : p < s.size) (hs : s.size ≤ 281474976710656) (c : UInt8) (hc : s[p] = c) (hk : 5 < c.toNat) :
    Calls Try.prog 55 #[.pointer (some ⟨r, 0, none⟩)] w fun en w' => OutV r s w (val (s.data.toList.drop p)) en w' := by
  rw [val_at s p hp c hc]
  have hrlt := h.lt
  have H0 := hidm (h.past (.cells #[.int .i64 0, .int .i64 0, .int .u64 0, .string ⟨#[]⟩] 33))
  have B0 := hidm ((But.refl r w).alloc (.cells #[.int .i64 0, .int .i64 0, .int .u64 0, .string ⟨#[]⟩] 33))
  have A0 := hidm (Vb.new w 0 0 0 ⟨#[]⟩)
  have hoct := next_ok r s p _ H0.out hp (by omega)
  rw [hc] at hoct
  have hk5 : (5 : Int) < (c.toNat : Int) := by omega
  obtain ⟨k, hkk⟩ : ∃ k, k = c.toNat := ⟨_, rfl⟩
  rw [← hkk] at hk hoct hk5 ⊢
  have j1 : ((k : Int) == 1) = false := by simp; omega
  have j2 : ((k : Int) == 2) = false := by simp; omega
  have j3 : ((k : Int) == 3) = false := by simp; omega
  have j4 : ((k : Int) == 4) = false := by simp; omega
  have j5 : ((k : Int) == 5) = false := by simp; omega
  obtain ⟨R, hR⟩ : ∃ R, R = chk (body k (s.data.toList.drop (p + 1))) := ⟨_, rfl⟩
  rw [← hR]
  have HRR : Hid (R = .error 7) := by
    refine hidm ?_
    rw [hR]
    unfold body
    rw [if_neg (by omega), if_neg (by omega), if_neg (by omega), if_neg (by omega)]
    exact chk_no (right_6 k hk)
  clear hR hc h hkk
  go_enter Try.func55, Try.ntmps55
  go_wp2_with fail
  refine hoct.mono ?_
  rintro en w1 ⟨rfl, hr1, hb1⟩
  have HR1 := hidm (hr1.past (.cells #[.int .i64 (k : Int), .int .i64 0, .int .u64 0, .string ⟨#[]⟩] 33))
  have HB1 := hidm ((B0.out.trans hb1).alloc (.cells #[.int .i64 (k : Int), .int .i64 0, .int .u64 0, .string ⟨#[]⟩] 33))
  have HA1 := hidm ((A0.out.but (by omega) hb1).past (.cells #[.int .i64 (k : Int), .int .i64 0, .int .u64 0, .string ⟨#[]⟩] 33))
  have hV1 := Vb.new w1 (k : Int) 0 0 ⟨#[]⟩
  have sz1 : w.heap.size < w1.heap.size := by have := hb1.size; simp at this; omega
  have HV1 := hidm hV1
  clear hr1 hb1 hoct
  have kk0 := hV1.c0
  clear hV1
  go_wp2_with fail
  refine (fail_any r s _ 7 _ HR1.out).mono ?_
  rintro en w2 ⟨rfl, hr2, hb2⟩
  have HRf := hidm hr2
  have HBf := hidm (HB1.out.trans hb2)
  have HAf := hidm (HA1.out.but (by omega) hb2)
  have HVf := hidm (HV1.out.but (by omega) hb2)
  clear hr2 hb2 kk0
  have q0 := HVf.out.c0
  have q1 := HVf.out.c1
  have q2 := HVf.out.c2
  have q3 := HVf.out.c3
  have a0 := HAf.out.c0
  have a1 := HAf.out.c1
  have a2 := HAf.out.c2
  have a3 := HAf.out.c3
  have az := HAf.out.z
  have HP := hidm (put4_vb (k := (k : Int)) (n := 0) (x := 0) (t := ⟨#[]⟩) HAf.out)
  go_wp2_with fail
  have p0 := HP.out.c0
  have p1 := HP.out.c1
  have p2 := HP.out.c2
  have p3 := HP.out.c3
  show bodyPost _ _ _ _ _ (put4 w2 w.heap.size (.int .i64 (k : Int)) (.int .i64 0) (.int .u64 0) (.string ⟨#[]⟩))
  refine bodyPost_ret (v := .agg #[.int .i64 (k : Int), .int .i64 0, .int .u64 0, .string ⟨#[]⟩]) (by simp [results, Try.results55, go_sem, p0, p1, p2, p3]) rfl ?_
  rw [HRR.out]
  exact ⟨_, ⟨(k : Int), 0, 0, []⟩, rfl, put4_rrd HRf.out (by omega), put4_but HBf.out (Nat.le_refl _)⟩
end Rr
end Go.Proofs.Ytinnkdbojgoicaa
