/- The document's reader: its value. Conditions: the pointer is to such a reader whose place is within its bytes; the bytes are at most 2^48. -/
/- The document's reader: its value, of numbers and texts. Conditions: the pointer is to such a reader whose place is within its bytes; the bytes are at most 2^48. -/
/- The document's reader: its value, of truths. Conditions: the pointer is to such a reader whose place is within its bytes; the bytes are at most 2^48. -/
/- The document's reader: its value, of floats; all of them. Conditions: the pointer is to such a reader whose place is within its bytes; the bytes are at most 2^48. -/
/- The document's reader: value at an error that stays; the method Value. Conditions: the pointer is to such a reader whose place is within its bytes; the bytes are at most 2^48. -/
/- The document's reader: the method Row. Conditions: the pointer is to such a reader whose place is within its bytes; the bytes are at most 2^48. -/
import Derived.Test.YtopmbhpjdmcabaaGreatMf
import Derived.Test.YtopmbhpjdmcabaaGreatQw
import Derived.Test.YtopmbhpjdmcabaaGreatQp
import Derived.Test.YtopmbhpjdmcabaaGreatMk
import Derived.Deep.LoopGhost
namespace Go.Proofs.YtopmbhpjdmcabaaGreat
open Go.RowKit
namespace Rr
open Cod
/-- What the document's value comes to: the answer, or some value, and an error that stays. -/
def OutV (r : Nat) (s : ByteArray) (w : World) : Except Nat (V × List UInt8) → Ending → World → Prop
  | .ok (v, t), en, w' => en = .returned v.agg ∧ Rrd r s (s.size - t.length : Nat) 0 w' ∧ But r w w'
  | .error x, en, w' => ∃ (q : Int) (z : V), en = .returned z.agg ∧ Rrd r s q x w' ∧ But r w w'
theorem put4_rrd {w1 : World} {B r : Nat} {s : ByteArray} {q e : Int} {x0 x1 x2 x3 : Value} (h : Rrd r s q e w1) (hn : r ≠ B) : Rrd r s q e (put4 w1 B x0 x1 x2 x3) :=
  (((h.other (a := ⟨B, 0, none⟩) hn _).other (a := ⟨B, 1, none⟩) hn _).other (a := ⟨B, 2, none⟩) hn _).other (a := ⟨B, 3, none⟩) hn _
theorem right_0 : V.right ⟨0, 0, 0, []⟩ = true := by
  simp [V.right, Val.rightB, Val.eqV, ByteArray.toList_eq]
theorem right_1 (d : Nat) : V.right ⟨1, (d : Int), 0, []⟩ = decide (d ≤ 1) := by
  rw [Bool.eq_iff_iff]
  simp [V.right, Val.rightB, Val.eqV, ByteArray.toList_eq]
  omega
theorem right_2 (n : Int) : V.right ⟨2, n, 0, []⟩ = true := by
  simp [V.right, Val.rightB, Val.eqV, ByteArray.toList_eq]
theorem right_3 (m : Nat) : V.right ⟨3, 0, m, []⟩ = decide (m = Flo.canon m) := by
  rw [Bool.eq_iff_iff]
  simp [V.right, Val.rightB, Val.eqV, ByteArray.toList_eq]
  omega
theorem right_4 (t : List UInt8) (h : t.length ≤ 4096) : V.right ⟨4, 0, 0, t⟩ = true := by
  simp [V.right, Val.rightB, Val.eqV, ByteArray.toList_eq, S_size]; omega
theorem right_5 (t : List UInt8) (h : t.length ≤ 4096) : V.right ⟨5, 0, 0, t⟩ = true := by
  simp [V.right, Val.rightB, Val.eqV, ByteArray.toList_eq, S_size]; omega
theorem right_6 (k : Nat) (h : 5 < k) : V.right ⟨(k : Int), 0, 0, []⟩ = false := by
  simp only [V.right, Val.rightB]
  rw [if_neg (by omega), if_neg (by omega), if_neg (by omega), if_neg (by omega), if_neg (by omega)]
theorem chk_yes {v : V} {t : List UInt8} (h : v.right = true) : chk (.ok (v, t)) = .ok (v, t) := by simp [chk, h]
theorem chk_no {v : V} {t : List UInt8} (h : v.right = false) : chk (.ok (v, t)) = .error 7 := by simp [chk, h]
set_option maxHeartbeats 4000000 in
set_option maxRecDepth 100000 in
theorem value_short (r : Nat) (s : ByteArray) (w : World) (h : Rrd r s s.size 0 w) :
    Calls Tryz.prog 106 #[.pointer (some ⟨r, 0, none⟩)] w fun en w' => OutV r s w (val (s.data.toList.drop s.size)) en w' := by
  rw [val_short]
  have hrlt := h.lt
  have H0 := hidm (h.past (.cells #[.int .i64 0, .int .i64 0, .int .u64 0, .string ⟨#[]⟩] 52))
  have B0 := hidm ((But.refl r w).alloc (.cells #[.int .i64 0, .int .i64 0, .int .u64 0, .string ⟨#[]⟩] 52))
  have A0 := hidm (Vb.new w 0 0 0 ⟨#[]⟩)
  have hoct := next_short r s _ H0.out
  clear h
  go_enter Tryz.func106, Tryz.ntmps106
  go_wp2_with fail
  refine hoct.mono ?_
  rintro en w1 ⟨rfl, hr1, hb1⟩
  have HR1 := hidm (hr1.past (.cells #[.int .i64 0, .int .i64 0, .int .u64 0, .string ⟨#[]⟩] 52))
  have HB1 := hidm ((B0.out.trans hb1).alloc (.cells #[.int .i64 0, .int .i64 0, .int .u64 0, .string ⟨#[]⟩] 52))
  have HA1 := hidm ((A0.out.but (by omega) hb1).past (.cells #[.int .i64 0, .int .i64 0, .int .u64 0, .string ⟨#[]⟩] 52))
  have hV1 := Vb.new w1 0 0 0 ⟨#[]⟩
  have sz1 : w.heap.size < w1.heap.size := by have := hb1.size; simp at this; omega
  have HV1 := hidm hV1
  have ha1 := A0.out.but (by omega) hb1
  have b0 := ha1.c0
  have b1 := ha1.c1
  have b2 := ha1.c2
  have b3 := ha1.c3
  have bz := ha1.z
  have HAw := hidm ha1
  have HRw := hidm hr1
  have HBw := hidm (B0.out.trans hb1)
  clear hr1 hb1 hoct ha1
  have kk0 := hV1.c0
  clear hV1
  have HP := hidm ((put4_vb (k := 0) (n := 0) (x := 0) (t := ⟨#[]⟩) HAw.out).past (.cells #[.int .i64 0, .int .i64 0, .int .u64 0, .string ⟨#[]⟩] 52))
  go_wp2_with fail
  have p0 := HP.out.c0
  have p1 := HP.out.c1
  have p2 := HP.out.c2
  have p3 := HP.out.c3
  show bodyPost _ _ _ _ _ ((put4 w1 w.heap.size (.int .i64 0) (.int .i64 0) (.int .u64 0) (.string ⟨#[]⟩)).alloc (.cells #[.int .i64 0, .int .i64 0, .int .u64 0, .string ⟨#[]⟩] 52))
  refine bodyPost_ret (v := .agg #[.int .i64 0, .int .i64 0, .int .u64 0, .string ⟨#[]⟩]) (by simp [results, Tryz.results106, go_sem, p0, p1, p2, p3]) rfl ?_
  exact ⟨_, ⟨0, 0, 0, []⟩, rfl, (put4_rrd HRw.out (by omega)).past _, (put4_but HBw.out (Nat.le_refl _)).alloc _⟩
set_option maxHeartbeats 4000000 in
set_option maxRecDepth 100000 in
theorem value_null (r : Nat) (s : ByteArray) (p : Nat) (w : World) (h : Rrd r s p 0 w) (hp : p < s.size) (hs : s.size ≤ 281474976710656) (c : UInt8) (hc : s[p] = c) (hk : c.toNat = 0) :
    Calls Tryz.prog 106 #[.pointer (some ⟨r, 0, none⟩)] w fun en w' => OutV r s w (val (s.data.toList.drop p)) en w' := by
  rw [val_at s p hp c hc]
  have hrlt := h.lt
  have H0 := hidm (h.past (.cells #[.int .i64 0, .int .i64 0, .int .u64 0, .string ⟨#[]⟩] 52))
  have B0 := hidm ((But.refl r w).alloc (.cells #[.int .i64 0, .int .i64 0, .int .u64 0, .string ⟨#[]⟩] 52))
  have A0 := hidm (Vb.new w 0 0 0 ⟨#[]⟩)
  have hoct := next_ok r s p _ H0.out hp (by omega)
  rw [hc] at hoct
  rw [hk] at hoct ⊢
  obtain ⟨R, hR⟩ : ∃ R, R = chk (body 0 (s.data.toList.drop (p + 1))) := ⟨_, rfl⟩
  rw [← hR]
  obtain ⟨tl, htl⟩ : ∃ tl, tl = s.data.toList.drop (p + 1) := ⟨_, rfl⟩
  have HRR : Hid (R = .ok (⟨0, 0, 0, []⟩, tl)) := hidm (by rw [hR, ← htl]; exact chk_yes right_0)
  have HE : Hid (s.size - tl.length = p + 1) := by refine hidm ?_; rw [htl]; exact back_at s (p + 1) hp
  clear htl hR hc h
  go_enter Tryz.func106, Tryz.ntmps106
  go_wp2_with fail
  refine hoct.mono ?_
  rintro en w1 ⟨rfl, hr1, hb1⟩
  have HR1 := hidm (hr1.past (.cells #[.int .i64 0, .int .i64 0, .int .u64 0, .string ⟨#[]⟩] 52))
  have HB1 := hidm ((B0.out.trans hb1).alloc (.cells #[.int .i64 0, .int .i64 0, .int .u64 0, .string ⟨#[]⟩] 52))
  have HA1 := hidm ((A0.out.but (by omega) hb1).past (.cells #[.int .i64 0, .int .i64 0, .int .u64 0, .string ⟨#[]⟩] 52))
  have hV1 := Vb.new w1 0 0 0 ⟨#[]⟩
  have sz1 : w.heap.size < w1.heap.size := by have := hb1.size; simp at this; omega
  have HV1 := hidm hV1
  have ha1 := A0.out.but (by omega) hb1
  have b0 := ha1.c0
  have b1 := ha1.c1
  have b2 := ha1.c2
  have b3 := ha1.c3
  have bz := ha1.z
  have HAw := hidm ha1
  have HRw := hidm hr1
  have HBw := hidm (B0.out.trans hb1)
  clear hr1 hb1 hoct ha1
  have kk0 := hV1.c0
  clear hV1
  have HP := hidm ((put4_vb (k := 0) (n := 0) (x := 0) (t := ⟨#[]⟩) HAw.out).past (.cells #[.int .i64 0, .int .i64 0, .int .u64 0, .string ⟨#[]⟩] 52))
  go_wp2_with fail
  have p0 := HP.out.c0
  have p1 := HP.out.c1
  have p2 := HP.out.c2
  have p3 := HP.out.c3
  show bodyPost _ _ _ _ _ ((put4 w1 w.heap.size (.int .i64 0) (.int .i64 0) (.int .u64 0) (.string ⟨#[]⟩)).alloc (.cells #[.int .i64 0, .int .i64 0, .int .u64 0, .string ⟨#[]⟩] 52))
  refine bodyPost_ret (v := .agg #[.int .i64 0, .int .i64 0, .int .u64 0, .string ⟨#[]⟩]) (by simp [results, Tryz.results106, go_sem, p0, p1, p2, p3]) rfl ?_
  rw [HRR.out]
  exact ⟨rfl, (put4_rrd (by rw [HE.out]; exact HRw.out) (by omega)).past _, (put4_but HBw.out (Nat.le_refl _)).alloc _⟩
set_option maxHeartbeats 4000000 in
set_option maxRecDepth 100000 in
theorem value_else (r : Nat) (s : ByteArray) (p : Nat) (w : World) (h : Rrd r s p 0 w) (hp : p < s.size) (hs : s.size ≤ 281474976710656) (c : UInt8) (hc : s[p] = c) (hk : 5 < c.toNat) :
    Calls Tryz.prog 106 #[.pointer (some ⟨r, 0, none⟩)] w fun en w' => OutV r s w (val (s.data.toList.drop p)) en w' := by
  rw [val_at s p hp c hc]
  have hrlt := h.lt
  have H0 := hidm (h.past (.cells #[.int .i64 0, .int .i64 0, .int .u64 0, .string ⟨#[]⟩] 52))
  have B0 := hidm ((But.refl r w).alloc (.cells #[.int .i64 0, .int .i64 0, .int .u64 0, .string ⟨#[]⟩] 52))
  have A0 := hidm (Vb.new w 0 0 0 ⟨#[]⟩)
  have hoct := next_ok r s p _ H0.out hp (by omega)
  rw [hc] at hoct
  have hk5 : (5 : Int) < (c.toNat : Int) := by omega
  obtain ⟨k, hkk⟩ : ∃ k, k = c.toNat := ⟨_, rfl⟩
  rw [← hkk] at hk hoct hk5 ⊢
  have j1 : ((k : Int) == 1) = false := by simp; omega
  have j2 : ((k : Int) == 2) = false := by simp; omega
  have j3 : ((k : Int) == 3) = false := by simp; omega
  have j4 : ((k : Int) == 4) = false := by simp; omega
  have j5 : ((k : Int) == 5) = false := by simp; omega
  obtain ⟨R, hR⟩ : ∃ R, R = chk (body k (s.data.toList.drop (p + 1))) := ⟨_, rfl⟩
  rw [← hR]
  have HRR : Hid (R = .error 7) := by
    refine hidm ?_
    rw [hR]
    unfold body
    rw [if_neg (by omega), if_neg (by omega), if_neg (by omega), if_neg (by omega)]
    exact chk_no (right_6 k hk)
  clear hR hc h hkk
  go_enter Tryz.func106, Tryz.ntmps106
  go_wp2_with fail
  refine hoct.mono ?_
  rintro en w1 ⟨rfl, hr1, hb1⟩
  have HR1 := hidm (hr1.past (.cells #[.int .i64 (k : Int), .int .i64 0, .int .u64 0, .string ⟨#[]⟩] 52))
  have HB1 := hidm ((B0.out.trans hb1).alloc (.cells #[.int .i64 (k : Int), .int .i64 0, .int .u64 0, .string ⟨#[]⟩] 52))
  have HA1 := hidm ((A0.out.but (by omega) hb1).past (.cells #[.int .i64 (k : Int), .int .i64 0, .int .u64 0, .string ⟨#[]⟩] 52))
  have hV1 := Vb.new w1 (k : Int) 0 0 ⟨#[]⟩
  have sz1 : w.heap.size < w1.heap.size := by have := hb1.size; simp at this; omega
  have HV1 := hidm hV1
  clear hr1 hb1 hoct
  have kk0 := hV1.c0
  clear hV1
  go_wp2_with fail
  refine (fail_any r s _ 7 _ HR1.out).mono ?_
  rintro en w2 ⟨rfl, hr2, hb2⟩
  have HRf := hidm hr2
  have HBf := hidm (HB1.out.trans hb2)
  have HAf := hidm (HA1.out.but (by omega) hb2)
  have HVf := hidm (HV1.out.but (by omega) hb2)
  clear hr2 hb2 kk0
  have q0 := HVf.out.c0
  have q1 := HVf.out.c1
  have q2 := HVf.out.c2
  have q3 := HVf.out.c3
  have a0 := HAf.out.c0
  have a1 := HAf.out.c1
  have a2 := HAf.out.c2
  have a3 := HAf.out.c3
  have az := HAf.out.z
  have HP := hidm (put4_vb (k := (k : Int)) (n := 0) (x := 0) (t := ⟨#[]⟩) HAf.out)
  go_wp2_with fail
  have p0 := HP.out.c0
  have p1 := HP.out.c1
  have p2 := HP.out.c2
  have p3 := HP.out.c3
  show bodyPost _ _ _ _ _ (put4 w2 w.heap.size (.int .i64 (k : Int)) (.int .i64 0) (.int .u64 0) (.string ⟨#[]⟩))
  refine bodyPost_ret (v := .agg #[.int .i64 (k : Int), .int .i64 0, .int .u64 0, .string ⟨#[]⟩]) (by simp [results, Tryz.results106, go_sem, p0, p1, p2, p3]) rfl ?_
  rw [HRR.out]
  exact ⟨_, ⟨(k : Int), 0, 0, []⟩, rfl, put4_rrd HRf.out (by omega), put4_but HBf.out (Nat.le_refl _)⟩
end Rr
end Go.Proofs.YtopmbhpjdmcabaaGreat
namespace Go.Proofs.YtopmbhpjdmcabaaGreat
open Go.RowKit
namespace Rr
open Cod
set_option maxHeartbeats 4000000 in
set_option maxRecDepth 100000 in
theorem value_int (r : Nat) (s : ByteArray) (p : Nat) (w : World) (h : Rrd r s p 0 w) (hp : p < s.size) (hs : s.size ≤ 281474976710656) (c : UInt8) (hc : s[p] = c) (hk : c.toNat = 2) :
    Calls Tryz.prog 106 #[.pointer (some ⟨r, 0, none⟩)] w fun en w' => OutV r s w (val (s.data.toList.drop p)) en w' := by
  rw [val_at s p hp c hc]
  have hrlt := h.lt
  have H0 := hidm (h.past (.cells #[.int .i64 0, .int .i64 0, .int .u64 0, .string ⟨#[]⟩] 52))
  have B0 := hidm ((But.refl r w).alloc (.cells #[.int .i64 0, .int .i64 0, .int .u64 0, .string ⟨#[]⟩] 52))
  have A0 := hidm (Vb.new w 0 0 0 ⟨#[]⟩)
  have hoct := next_ok r s p _ H0.out hp (by omega)
  rw [hc] at hoct
  rw [hk] at hoct ⊢
  obtain ⟨R, hR⟩ : ∃ R, R = sig (s.data.toList.drop (p + 1)) := ⟨_, rfl⟩
  have hbody : chk (body 2 (s.data.toList.drop (p + 1))) = chk (toV (fun n => ⟨2, n, 0, []⟩) R) := by rw [hR]; rfl
  rw [hbody]
  have HT := hidm hR
  clear hbody hR hc h
  go_enter Tryz.func106, Tryz.ntmps106
  go_wp2_with fail
  refine hoct.mono ?_
  rintro en w1 ⟨rfl, hr1, hb1⟩
  have HR1 := hidm (hr1.past (.cells #[.int .i64 2, .int .i64 0, .int .u64 0, .string ⟨#[]⟩] 52))
  have HB1 := hidm ((B0.out.trans hb1).alloc (.cells #[.int .i64 2, .int .i64 0, .int .u64 0, .string ⟨#[]⟩] 52))
  have HA1 := hidm ((A0.out.but (by omega) hb1).past (.cells #[.int .i64 2, .int .i64 0, .int .u64 0, .string ⟨#[]⟩] 52))
  have hV1 := Vb.new w1 2 0 0 ⟨#[]⟩
  have sz1 : w.heap.size < w1.heap.size := by have := hb1.size; simp at this; omega
  have HV1 := hidm hV1
  clear hr1 hb1 hoct
  have kk0 := hV1.c0
  clear hV1
  have hpart := whole_part r s (p + 1) _ HR1.out hp hs
  rw [← HT.out] at hpart
  cases R with
  | error y =>
    go_wp2_with fail
    refine hpart.mono ?_
    rintro en w2 ⟨q, rfl, hr2, hb2⟩
    have HV2 := hidm (HV1.out.but (by omega) hb2)
    have HA2 := hidm (HA1.out.but (by omega) hb2)
    have HR2 := hidm hr2
    have HB2 := hidm (HB1.out.trans hb2)
    clear hr2 hb2
    have v0 := HV2.out.c1
    have vz := HV2.out.z
    have HRf := hidm (HR2.out.other (a := ⟨w1.heap.size, 1, none⟩) (show r ≠ w1.heap.size by omega) (.int .i64 0))
    have HBf := hidm (HB2.out.setNew (p := ⟨w1.heap.size, 1, none⟩) (Nat.le_of_lt sz1) (.int .i64 0))
    have HAf := hidm (HA2.out.other (a := ⟨w1.heap.size, 1, none⟩) (show w.heap.size ≠ w1.heap.size by omega) (.int .i64 0))
    have HVf := hidm (HV2.out.set1 0)
    have q0 := HVf.out.c0
    have q1 := HVf.out.c1
    have q2 := HVf.out.c2
    have q3 := HVf.out.c3
    have a0 := HAf.out.c0
    have a1 := HAf.out.c1
    have a2 := HAf.out.c2
    have a3 := HAf.out.c3
    have az := HAf.out.z
    have HP := hidm (put4_vb (k := 2) (n := 0) (x := 0) (t := ⟨#[]⟩) HAf.out)
    go_wp2_with fail
    have p0 := HP.out.c0
    have p1 := HP.out.c1
    have p2 := HP.out.c2
    have p3 := HP.out.c3
    show bodyPost _ _ _ _ _ (put4 (w2.setCell ⟨w1.heap.size, 1, none⟩ (.int .i64 0)) w.heap.size (.int .i64 2) (.int .i64 0) (.int .u64 0) (.string ⟨#[]⟩))
    refine bodyPost_ret (v := .agg #[.int .i64 2, .int .i64 0, .int .u64 0, .string ⟨#[]⟩]) (by simp [results, Tryz.results106, go_sem, p0, p1, p2, p3]) rfl ?_
    exact ⟨_, ⟨2, 0, 0, []⟩, rfl, put4_rrd HRf.out (by omega), put4_but HBf.out (Nat.le_refl _)⟩
  | ok at' =>
    obtain ⟨m, tl⟩ := at'
    have HRR : Hid (chk (toV (fun n => ⟨2, n, 0, []⟩) (.ok (m, tl))) = .ok (⟨2, m, 0, []⟩, tl)) := hidm (chk_yes (right_2 m))
    go_wp2_with fail
    refine hpart.mono ?_
    rintro en w2 ⟨_, rfl, rfl, hr2, hb2⟩
    have HV2 := hidm (HV1.out.but (by omega) hb2)
    have HA2 := hidm (HA1.out.but (by omega) hb2)
    have HR2 := hidm hr2
    have HB2 := hidm (HB1.out.trans hb2)
    clear hr2 hb2
    have v0 := HV2.out.c1
    have vz := HV2.out.z
    have HRf := hidm (HR2.out.other (a := ⟨w1.heap.size, 1, none⟩) (show r ≠ w1.heap.size by omega) (.int .i64 m))
    have HBf := hidm (HB2.out.setNew (p := ⟨w1.heap.size, 1, none⟩) (Nat.le_of_lt sz1) (.int .i64 m))
    have HAf := hidm (HA2.out.other (a := ⟨w1.heap.size, 1, none⟩) (show w.heap.size ≠ w1.heap.size by omega) (.int .i64 m))
    have HVf := hidm (HV2.out.set1 m)
    have q0 := HVf.out.c0
    have q1 := HVf.out.c1
    have q2 := HVf.out.c2
    have q3 := HVf.out.c3
    have a0 := HAf.out.c0
    have a1 := HAf.out.c1
    have a2 := HAf.out.c2
    have a3 := HAf.out.c3
    have az := HAf.out.z
    have HP := hidm (put4_vb (k := 2) (n := m) (x := 0) (t := ⟨#[]⟩) HAf.out)
    go_wp2_with fail
    have p0 := HP.out.c0
    have p1 := HP.out.c1
    have p2 := HP.out.c2
    have p3 := HP.out.c3
    show bodyPost _ _ _ _ _ (put4 (w2.setCell ⟨w1.heap.size, 1, none⟩ (.int .i64 m)) w.heap.size (.int .i64 2) (.int .i64 m) (.int .u64 0) (.string ⟨#[]⟩))
    refine bodyPost_ret (v := .agg #[.int .i64 2, .int .i64 m, .int .u64 0, .string ⟨#[]⟩]) (by simp [results, Tryz.results106, go_sem, p0, p1, p2, p3]) rfl ?_
    rw [HRR.out]
    exact ⟨rfl, put4_rrd HRf.out (by omega), put4_but HBf.out (Nat.le_refl _)⟩
set_option maxHeartbeats 4000000 in
set_option maxRecDepth 100000 in
theorem value_bytes (r : Nat) (s : ByteArray) (p : Nat) (w : World) (h : Rrd r s p 0 w) (hp : p < s.size) (hs : s.size ≤ 281474976710656) (c : UInt8) (hc : s[p] = c) (hk : c.toNat = 4) :
    Calls Tryz.prog 106 #[.pointer (some ⟨r, 0, none⟩)] w fun en w' => OutV r s w (val (s.data.toList.drop p)) en w' := by
  rw [val_at s p hp c hc]
  have hrlt := h.lt
  have H0 := hidm (h.past (.cells #[.int .i64 0, .int .i64 0, .int .u64 0, .string ⟨#[]⟩] 52))
  have B0 := hidm ((But.refl r w).alloc (.cells #[.int .i64 0, .int .i64 0, .int .u64 0, .string ⟨#[]⟩] 52))
  have A0 := hidm (Vb.new w 0 0 0 ⟨#[]⟩)
  have hoct := next_ok r s p _ H0.out hp (by omega)
  rw [hc] at hoct
  rw [hk] at hoct ⊢
  obtain ⟨R, hR⟩ : ∃ R, R = txt 4096 (s.data.toList.drop (p + 1)) := ⟨_, rfl⟩
  have hbody : chk (body 4 (s.data.toList.drop (p + 1))) = chk (toV (fun t => ⟨4, 0, 0, t⟩) R) := by rw [hR]; rfl
  rw [hbody]
  have HT := hidm hR
  clear hbody hR hc h
  go_enter Tryz.func106, Tryz.ntmps106
  go_wp2_with fail
  refine hoct.mono ?_
  rintro en w1 ⟨rfl, hr1, hb1⟩
  have HR1 := hidm (hr1.past (.cells #[.int .i64 4, .int .i64 0, .int .u64 0, .string ⟨#[]⟩] 52))
  have HB1 := hidm ((B0.out.trans hb1).alloc (.cells #[.int .i64 4, .int .i64 0, .int .u64 0, .string ⟨#[]⟩] 52))
  have HA1 := hidm ((A0.out.but (by omega) hb1).past (.cells #[.int .i64 4, .int .i64 0, .int .u64 0, .string ⟨#[]⟩] 52))
  have hV1 := Vb.new w1 4 0 0 ⟨#[]⟩
  have sz1 : w.heap.size < w1.heap.size := by have := hb1.size; simp at this; omega
  have HV1 := hidm hV1
  clear hr1 hb1 hoct
  have kk0 := hV1.c0
  clear hV1
  have hpart := text_part r s (p + 1) 4096 (by omega) _ HR1.out hp hs
  rw [← HT.out] at hpart
  cases R with
  | error y =>
    go_wp2_with fail
    refine hpart.mono ?_
    rintro en w2 ⟨q, rfl, hr2, hb2⟩
    have HV2 := hidm (HV1.out.but (by omega) hb2)
    have HA2 := hidm (HA1.out.but (by omega) hb2)
    have HR2 := hidm hr2
    have HB2 := hidm (HB1.out.trans hb2)
    clear hr2 hb2
    have v0 := HV2.out.c3
    have vz := HV2.out.z
    have HRf := hidm (HR2.out.other (a := ⟨w1.heap.size, 3, none⟩) (show r ≠ w1.heap.size by omega) (.string ⟨#[]⟩))
    have HBf := hidm (HB2.out.setNew (p := ⟨w1.heap.size, 3, none⟩) (Nat.le_of_lt sz1) (.string ⟨#[]⟩))
    have HAf := hidm (HA2.out.other (a := ⟨w1.heap.size, 3, none⟩) (show w.heap.size ≠ w1.heap.size by omega) (.string ⟨#[]⟩))
    have HVf := hidm (HV2.out.set3 ⟨#[]⟩)
    have q0 := HVf.out.c0
    have q1 := HVf.out.c1
    have q2 := HVf.out.c2
    have q3 := HVf.out.c3
    have a0 := HAf.out.c0
    have a1 := HAf.out.c1
    have a2 := HAf.out.c2
    have a3 := HAf.out.c3
    have az := HAf.out.z
    have HP := hidm (put4_vb (k := 4) (n := 0) (x := 0) (t := ⟨#[]⟩) HAf.out)
    go_wp2_with fail
    have p0 := HP.out.c0
    have p1 := HP.out.c1
    have p2 := HP.out.c2
    have p3 := HP.out.c3
    show bodyPost _ _ _ _ _ (put4 (w2.setCell ⟨w1.heap.size, 3, none⟩ (.string ⟨#[]⟩)) w.heap.size (.int .i64 4) (.int .i64 0) (.int .u64 0) (.string ⟨#[]⟩))
    refine bodyPost_ret (v := .agg #[.int .i64 4, .int .i64 0, .int .u64 0, .string ⟨#[]⟩]) (by simp [results, Tryz.results106, go_sem, p0, p1, p2, p3]) rfl ?_
    exact ⟨_, ⟨4, 0, 0, []⟩, rfl, put4_rrd HRf.out (by omega), put4_but HBf.out (Nat.le_refl _)⟩
  | ok at' =>
    obtain ⟨m, tl⟩ := at'
    have HRR : Hid (chk (toV (fun t => ⟨4, 0, 0, t⟩) (.ok (m, tl))) = .ok (⟨4, 0, 0, m⟩, tl)) := hidm (chk_yes (right_4 m (txt_ok HT.out.symm).2))
    go_wp2_with fail
    refine hpart.mono ?_
    rintro en w2 ⟨_, rfl, rfl, hr2, hb2⟩
    have HV2 := hidm (HV1.out.but (by omega) hb2)
    have HA2 := hidm (HA1.out.but (by omega) hb2)
    have HR2 := hidm hr2
    have HB2 := hidm (HB1.out.trans hb2)
    clear hr2 hb2
    have v0 := HV2.out.c3
    have vz := HV2.out.z
    have HRf := hidm (HR2.out.other (a := ⟨w1.heap.size, 3, none⟩) (show r ≠ w1.heap.size by omega) (.string (S m)))
    have HBf := hidm (HB2.out.setNew (p := ⟨w1.heap.size, 3, none⟩) (Nat.le_of_lt sz1) (.string (S m)))
    have HAf := hidm (HA2.out.other (a := ⟨w1.heap.size, 3, none⟩) (show w.heap.size ≠ w1.heap.size by omega) (.string (S m)))
    have HVf := hidm (HV2.out.set3 (S m))
    have q0 := HVf.out.c0
    have q1 := HVf.out.c1
    have q2 := HVf.out.c2
    have q3 := HVf.out.c3
    have a0 := HAf.out.c0
    have a1 := HAf.out.c1
    have a2 := HAf.out.c2
    have a3 := HAf.out.c3
    have az := HAf.out.z
    have HP := hidm (put4_vb (k := 4) (n := 0) (x := 0) (t := (S m)) HAf.out)
    go_wp2_with fail
    have p0 := HP.out.c0
    have p1 := HP.out.c1
    have p2 := HP.out.c2
    have p3 := HP.out.c3
    show bodyPost _ _ _ _ _ (put4 (w2.setCell ⟨w1.heap.size, 3, none⟩ (.string (S m))) w.heap.size (.int .i64 4) (.int .i64 0) (.int .u64 0) (.string (S m)))
    refine bodyPost_ret (v := .agg #[.int .i64 4, .int .i64 0, .int .u64 0, .string (S m)]) (by simp [results, Tryz.results106, go_sem, p0, p1, p2, p3]) rfl ?_
    rw [HRR.out]
    exact ⟨rfl, put4_rrd HRf.out (by omega), put4_but HBf.out (Nat.le_refl _)⟩
set_option maxHeartbeats 4000000 in
set_option maxRecDepth 100000 in
theorem value_text (r : Nat) (s : ByteArray) (p : Nat) (w : World) (h : Rrd r s p 0 w) (hp : p < s.size) (hs : s.size ≤ 281474976710656) (c : UInt8) (hc : s[p] = c) (hk : c.toNat = 5) :
    Calls Tryz.prog 106 #[.pointer (some ⟨r, 0, none⟩)] w fun en w' => OutV r s w (val (s.data.toList.drop p)) en w' := by
  rw [val_at s p hp c hc]
  have hrlt := h.lt
  have H0 := hidm (h.past (.cells #[.int .i64 0, .int .i64 0, .int .u64 0, .string ⟨#[]⟩] 52))
  have B0 := hidm ((But.refl r w).alloc (.cells #[.int .i64 0, .int .i64 0, .int .u64 0, .string ⟨#[]⟩] 52))
  have A0 := hidm (Vb.new w 0 0 0 ⟨#[]⟩)
  have hoct := next_ok r s p _ H0.out hp (by omega)
  rw [hc] at hoct
  rw [hk] at hoct ⊢
  obtain ⟨R, hR⟩ : ∃ R, R = txt 4096 (s.data.toList.drop (p + 1)) := ⟨_, rfl⟩
  have hbody : chk (body 5 (s.data.toList.drop (p + 1))) = chk (toV (fun t => ⟨5, 0, 0, t⟩) R) := by rw [hR]; rfl
  rw [hbody]
  have HT := hidm hR
  clear hbody hR hc h
  go_enter Tryz.func106, Tryz.ntmps106
  go_wp2_with fail
  refine hoct.mono ?_
  rintro en w1 ⟨rfl, hr1, hb1⟩
  have HR1 := hidm (hr1.past (.cells #[.int .i64 5, .int .i64 0, .int .u64 0, .string ⟨#[]⟩] 52))
  have HB1 := hidm ((B0.out.trans hb1).alloc (.cells #[.int .i64 5, .int .i64 0, .int .u64 0, .string ⟨#[]⟩] 52))
  have HA1 := hidm ((A0.out.but (by omega) hb1).past (.cells #[.int .i64 5, .int .i64 0, .int .u64 0, .string ⟨#[]⟩] 52))
  have hV1 := Vb.new w1 5 0 0 ⟨#[]⟩
  have sz1 : w.heap.size < w1.heap.size := by have := hb1.size; simp at this; omega
  have HV1 := hidm hV1
  clear hr1 hb1 hoct
  have kk0 := hV1.c0
  clear hV1
  have hpart := text_part r s (p + 1) 4096 (by omega) _ HR1.out hp hs
  rw [← HT.out] at hpart
  cases R with
  | error y =>
    go_wp2_with fail
    refine hpart.mono ?_
    rintro en w2 ⟨q, rfl, hr2, hb2⟩
    have HV2 := hidm (HV1.out.but (by omega) hb2)
    have HA2 := hidm (HA1.out.but (by omega) hb2)
    have HR2 := hidm hr2
    have HB2 := hidm (HB1.out.trans hb2)
    clear hr2 hb2
    have v0 := HV2.out.c3
    have vz := HV2.out.z
    have HRf := hidm (HR2.out.other (a := ⟨w1.heap.size, 3, none⟩) (show r ≠ w1.heap.size by omega) (.string ⟨#[]⟩))
    have HBf := hidm (HB2.out.setNew (p := ⟨w1.heap.size, 3, none⟩) (Nat.le_of_lt sz1) (.string ⟨#[]⟩))
    have HAf := hidm (HA2.out.other (a := ⟨w1.heap.size, 3, none⟩) (show w.heap.size ≠ w1.heap.size by omega) (.string ⟨#[]⟩))
    have HVf := hidm (HV2.out.set3 ⟨#[]⟩)
    have q0 := HVf.out.c0
    have q1 := HVf.out.c1
    have q2 := HVf.out.c2
    have q3 := HVf.out.c3
    have a0 := HAf.out.c0
    have a1 := HAf.out.c1
    have a2 := HAf.out.c2
    have a3 := HAf.out.c3
    have az := HAf.out.z
    have HP := hidm (put4_vb (k := 5) (n := 0) (x := 0) (t := ⟨#[]⟩) HAf.out)
    go_wp2_with fail
    have p0 := HP.out.c0
    have p1 := HP.out.c1
    have p2 := HP.out.c2
    have p3 := HP.out.c3
    show bodyPost _ _ _ _ _ (put4 (w2.setCell ⟨w1.heap.size, 3, none⟩ (.string ⟨#[]⟩)) w.heap.size (.int .i64 5) (.int .i64 0) (.int .u64 0) (.string ⟨#[]⟩))
    refine bodyPost_ret (v := .agg #[.int .i64 5, .int .i64 0, .int .u64 0, .string ⟨#[]⟩]) (by simp [results, Tryz.results106, go_sem, p0, p1, p2, p3]) rfl ?_
    exact ⟨_, ⟨5, 0, 0, []⟩, rfl, put4_rrd HRf.out (by omega), put4_but HBf.out (Nat.le_refl _)⟩
  | ok at' =>
    obtain ⟨m, tl⟩ := at'
    have HRR : Hid (chk (toV (fun t => ⟨5, 0, 0, t⟩) (.ok (m, tl))) = .ok (⟨5, 0, 0, m⟩, tl)) := hidm (chk_yes (right_5 m (txt_ok HT.out.symm).2))
    go_wp2_with fail
    refine hpart.mono ?_
    rintro en w2 ⟨_, rfl, rfl, hr2, hb2⟩
    have HV2 := hidm (HV1.out.but (by omega) hb2)
    have HA2 := hidm (HA1.out.but (by omega) hb2)
    have HR2 := hidm hr2
    have HB2 := hidm (HB1.out.trans hb2)
    clear hr2 hb2
    have v0 := HV2.out.c3
    have vz := HV2.out.z
    have HRf := hidm (HR2.out.other (a := ⟨w1.heap.size, 3, none⟩) (show r ≠ w1.heap.size by omega) (.string (S m)))
    have HBf := hidm (HB2.out.setNew (p := ⟨w1.heap.size, 3, none⟩) (Nat.le_of_lt sz1) (.string (S m)))
    have HAf := hidm (HA2.out.other (a := ⟨w1.heap.size, 3, none⟩) (show w.heap.size ≠ w1.heap.size by omega) (.string (S m)))
    have HVf := hidm (HV2.out.set3 (S m))
    have q0 := HVf.out.c0
    have q1 := HVf.out.c1
    have q2 := HVf.out.c2
    have q3 := HVf.out.c3
    have a0 := HAf.out.c0
    have a1 := HAf.out.c1
    have a2 := HAf.out.c2
    have a3 := HAf.out.c3
    have az := HAf.out.z
    have HP := hidm (put4_vb (k := 5) (n := 0) (x := 0) (t := (S m)) HAf.out)
    go_wp2_with fail
    have p0 := HP.out.c0
    have p1 := HP.out.c1
    have p2 := HP.out.c2
    have p3 := HP.out.c3
    show bodyPost _ _ _ _ _ (put4 (w2.setCell ⟨w1.heap.size, 3, none⟩ (.string (S m))) w.heap.size (.int .i64 5) (.int .i64 0) (.int .u64 0) (.string (S m)))
    refine bodyPost_ret (v := .agg #[.int .i64 5, .int .i64 0, .int .u64 0, .string (S m)]) (by simp [results, Tryz.results106, go_sem, p0, p1, p2, p3]) rfl ?_
    rw [HRR.out]
    exact ⟨rfl, put4_rrd HRf.out (by omega), put4_but HBf.out (Nat.le_refl _)⟩
end Rr
end Go.Proofs.YtopmbhpjdmcabaaGreat
namespace Go.Proofs.YtopmbhpjdmcabaaGreat
open Go.RowKit
namespace Rr
open Cod
set_option maxHeartbeats 4000000 in
set_option maxRecDepth 100000 in
theorem value_bool (r : Nat) (s : ByteArray) (p : Nat) (w : World) (h : Rrd r s p 0 w) (hp : p < s.size) (hs : s.size ≤ 281474976710656) (c : UInt8) (hc : s[p] = c) (hk : c.toNat = 1) :
    Calls Tryz.prog 106 #[.pointer (some ⟨r, 0, none⟩)] w fun en w' => OutV r s w (val (s.data.toList.drop p)) en w' := by
  rw [val_at s p hp c hc]
  have hrlt := h.lt
  have H0 := hidm (h.past (.cells #[.int .i64 0, .int .i64 0, .int .u64 0, .string ⟨#[]⟩] 52))
  have B0 := hidm ((But.refl r w).alloc (.cells #[.int .i64 0, .int .i64 0, .int .u64 0, .string ⟨#[]⟩] 52))
  have A0 := hidm (Vb.new w 0 0 0 ⟨#[]⟩)
  have hoct := next_ok r s p _ H0.out hp (by omega)
  rw [hc] at hoct
  rw [hk] at hoct ⊢
  obtain ⟨R, hR⟩ : ∃ R, R = chk (body 1 (s.data.toList.drop (p + 1))) := ⟨_, rfl⟩
  rw [← hR]
  have HT := hidm hR
  clear hc h hR
  go_enter Tryz.func106, Tryz.ntmps106
  go_wp2_with fail
  refine hoct.mono ?_
  rintro en w1 ⟨rfl, hr1, hb1⟩
  have HR1 := hidm (hr1.past (.cells #[.int .i64 1, .int .i64 0, .int .u64 0, .string ⟨#[]⟩] 52))
  have HB1 := hidm ((B0.out.trans hb1).alloc (.cells #[.int .i64 1, .int .i64 0, .int .u64 0, .string ⟨#[]⟩] 52))
  have HA1 := hidm ((A0.out.but (by omega) hb1).past (.cells #[.int .i64 1, .int .i64 0, .int .u64 0, .string ⟨#[]⟩] 52))
  have hV1 := Vb.new w1 1 0 0 ⟨#[]⟩
  have sz1 : w.heap.size < w1.heap.size := by have := hb1.size; simp at this; omega
  have HV1 := hidm hV1
  clear hr1 hb1 hoct
  have kk0 := hV1.c0
  clear hV1
  rcases Nat.eq_or_lt_of_le (show p + 1 ≤ s.size from hp) with hpe | hpe
  · have hsh := next_short r s _ (by have := HR1.out; rw [hpe] at this; exact this)
    have HRR := hidm (show R = .error 8 by rw [HT.out, hpe, drop_end]; rfl)
    clear hpe
    go_wp2_with fail
    refine hsh.mono ?_
    rintro en w2 ⟨rfl, hr2, hb2⟩
    have HV2 := hidm (HV1.out.but (by omega) hb2)
    have HA2 := hidm (HA1.out.but (by omega) hb2)
    have HR2 := hidm hr2
    have HB2 := hidm (HB1.out.trans hb2)
    clear hr2 hb2 hsh
    have v0 := HV2.out.c1
    have vz := HV2.out.z
    have HRf := hidm (HR2.out.other (a := ⟨w1.heap.size, 1, none⟩) (show r ≠ w1.heap.size by omega) (.int .i64 0))
    have HBf := hidm (HB2.out.setNew (p := ⟨w1.heap.size, 1, none⟩) (Nat.le_of_lt sz1) (.int .i64 0))
    have HAf := hidm (HA2.out.other (a := ⟨w1.heap.size, 1, none⟩) (show w.heap.size ≠ w1.heap.size by omega) (.int .i64 0))
    have HVf := hidm (HV2.out.set1 0)
    have q0 := HVf.out.c0
    have q1 := HVf.out.c1
    have q2 := HVf.out.c2
    have q3 := HVf.out.c3
    have a0 := HAf.out.c0
    have a1 := HAf.out.c1
    have a2 := HAf.out.c2
    have a3 := HAf.out.c3
    have az := HAf.out.z
    have HP := hidm (put4_vb (k := 1) (n := 0) (x := 0) (t := ⟨#[]⟩) HAf.out)
    go_wp2_with fail
    have p0 := HP.out.c0
    have p1 := HP.out.c1
    have p2 := HP.out.c2
    have p3 := HP.out.c3
    show bodyPost _ _ _ _ _ (put4 (w2.setCell ⟨w1.heap.size, 1, none⟩ (.int .i64 0)) w.heap.size (.int .i64 1) (.int .i64 0) (.int .u64 0) (.string ⟨#[]⟩))
    refine bodyPost_ret (v := .agg #[.int .i64 1, .int .i64 0, .int .u64 0, .string ⟨#[]⟩]) (by simp [results, Tryz.results106, go_sem, p0, p1, p2, p3]) rfl ?_
    rw [HRR.out]
    exact ⟨_, ⟨1, 0, 0, []⟩, rfl, put4_rrd HRf.out (by omega), put4_but HBf.out (Nat.le_refl _)⟩
  · obtain ⟨d, hd⟩ : ∃ d : UInt8, s[p + 1] = d := ⟨_, rfl⟩
    have hdl := d.toNat_lt
    have hoct2 := next_ok r s (p + 1) _ HR1.out hpe (by omega)
    rw [hd] at hoct2
    obtain ⟨tl, htl⟩ : ∃ tl, tl = s.data.toList.drop (p + 2) := ⟨_, rfl⟩
    have HE : Hid (s.size - tl.length = p + 1 + 1) := by refine hidm ?_; rw [htl]; exact back_at s (p + 2) hpe
    obtain ⟨b, hb⟩ : ∃ b, b = d.toNat := ⟨_, rfl⟩
    have hbody : body 1 (s.data.toList.drop (p + 1)) = .ok (⟨1, (b : Int), 0, []⟩, tl) := by rw [drop_at s (p + 1) hpe, hd, htl, hb]; rfl
    have hT := HT.out
    rw [hbody] at hT
    have hr1 := right_1 b
    rw [← hb] at hoct2
    clear htl hd hbody hb
    by_cases hb1 : b ≤ 1
    · have HRR := hidm (hT.trans (chk_yes (t := tl) (hr1.trans (decide_eq_true hb1))))
      have hb1i : ¬ (1 : Int) < (b : Int) := by omega
      clear hr1 hb1 hT
      go_wp2_with fail
      refine hoct2.mono ?_
      rintro en w2 ⟨rfl, hr2, hb2⟩
      have HV2 := hidm (HV1.out.but (by omega) hb2)
      have HA2 := hidm (HA1.out.but (by omega) hb2)
      have HR2 := hidm hr2
      have HB2 := hidm (HB1.out.trans hb2)
      clear hr2 hb2 hoct2
      have v0 := HV2.out.c1
      have vz := HV2.out.z
      have HRf := hidm (HR2.out.other (a := ⟨w1.heap.size, 1, none⟩) (show r ≠ w1.heap.size by omega) (.int .i64 (b : Int)))
      have HBf := hidm (HB2.out.setNew (p := ⟨w1.heap.size, 1, none⟩) (Nat.le_of_lt sz1) (.int .i64 (b : Int)))
      have HAf := hidm (HA2.out.other (a := ⟨w1.heap.size, 1, none⟩) (show w.heap.size ≠ w1.heap.size by omega) (.int .i64 (b : Int)))
      have HVf := hidm (HV2.out.set1 (b : Int))
      have q0 := HVf.out.c0
      have q1 := HVf.out.c1
      have q2 := HVf.out.c2
      have q3 := HVf.out.c3
      have a0 := HAf.out.c0
      have a1 := HAf.out.c1
      have a2 := HAf.out.c2
      have a3 := HAf.out.c3
      have az := HAf.out.z
      have HP := hidm (put4_vb (k := 1) (n := (b : Int)) (x := 0) (t := ⟨#[]⟩) HAf.out)
      go_wp2_with fail
      have p0 := HP.out.c0
      have p1 := HP.out.c1
      have p2 := HP.out.c2
      have p3 := HP.out.c3
      show bodyPost _ _ _ _ _ (put4 (w2.setCell ⟨w1.heap.size, 1, none⟩ (.int .i64 (b : Int))) w.heap.size (.int .i64 1) (.int .i64 (b : Int)) (.int .u64 0) (.string ⟨#[]⟩))
      refine bodyPost_ret (v := .agg #[.int .i64 1, .int .i64 (b : Int), .int .u64 0, .string ⟨#[]⟩]) (by simp [results, Tryz.results106, go_sem, p0, p1, p2, p3]) rfl ?_
      rw [HRR.out]
      exact ⟨rfl, put4_rrd (by rw [HE.out]; exact HRf.out) (by omega), put4_but HBf.out (Nat.le_refl _)⟩
    · have HRR := hidm (hT.trans (chk_no (t := tl) (hr1.trans (decide_eq_false hb1))))
      have hb1i : (1 : Int) < (b : Int) := by omega
      clear hr1 hb1 hT
      go_wp2_with fail
      refine hoct2.mono ?_
      rintro en w2 ⟨rfl, hr2, hb2⟩
      have HV2 := hidm (HV1.out.but (by omega) hb2)
      have HA2 := hidm (HA1.out.but (by omega) hb2)
      have HR2 := hidm hr2
      have HB2 := hidm (HB1.out.trans hb2)
      clear hr2 hb2 hoct2
      have v0 := HV2.out.c1
      have vz := HV2.out.z
      have HRg := hidm (HR2.out.other (a := ⟨w1.heap.size, 1, none⟩) (show r ≠ w1.heap.size by omega) (.int .i64 (b : Int)))
      have HBg := hidm (HB2.out.setNew (p := ⟨w1.heap.size, 1, none⟩) (Nat.le_of_lt sz1) (.int .i64 (b : Int)))
      have HAg := hidm (HA2.out.other (a := ⟨w1.heap.size, 1, none⟩) (show w.heap.size ≠ w1.heap.size by omega) (.int .i64 (b : Int)))
      have HVg := hidm (HV2.out.set1 (b : Int))
      have g1 := HVg.out.c1
      go_wp2_with fail
      refine (fail_any r s _ 7 _ HRg.out).mono ?_
      rintro en w3 ⟨rfl, hr3, hb3⟩
      have HRf := hidm hr3
      have HBf := hidm (HBg.out.trans hb3)
      have HAf := hidm (HAg.out.but (by omega) hb3)
      have HVf := hidm (HVg.out.but (by omega) hb3)
      clear hr3 hb3 g1
      have q0 := HVf.out.c0
      have q1 := HVf.out.c1
      have q2 := HVf.out.c2
      have q3 := HVf.out.c3
      have a0 := HAf.out.c0
      have a1 := HAf.out.c1
      have a2 := HAf.out.c2
      have a3 := HAf.out.c3
      have az := HAf.out.z
      have HP := hidm (put4_vb (k := 1) (n := (b : Int)) (x := 0) (t := ⟨#[]⟩) HAf.out)
      go_wp2_with fail
      have p0 := HP.out.c0
      have p1 := HP.out.c1
      have p2 := HP.out.c2
      have p3 := HP.out.c3
      show bodyPost _ _ _ _ _ (put4 w3 w.heap.size (.int .i64 1) (.int .i64 (b : Int)) (.int .u64 0) (.string ⟨#[]⟩))
      refine bodyPost_ret (v := .agg #[.int .i64 1, .int .i64 (b : Int), .int .u64 0, .string ⟨#[]⟩]) (by simp [results, Tryz.results106, go_sem, p0, p1, p2, p3]) rfl ?_
      rw [HRR.out]
      exact ⟨_, ⟨1, (b : Int), 0, []⟩, rfl, put4_rrd HRf.out (by omega), put4_but HBf.out (Nat.le_refl _)⟩
end Rr
end Go.Proofs.YtopmbhpjdmcabaaGreat
namespace Go.Proofs.YtopmbhpjdmcabaaGreat
open Go.RowKit
namespace Rr
open Cod
theorem oct_num (n : Nat) (c : UInt8) (i : Nat) (hn : n < 256 ^ i) : n * 256 + c.toNat < 256 ^ (i + 1) := by
  have hc := c.toNat_lt
  rw [Nat.pow_succ]; omega
theorem pow8 (i : Nat) (hi : i ≤ 8) : (256 : Nat) ^ i ≤ 18446744073709551616 := by
  have h1 : (256 : Nat) ^ i ≤ 256 ^ 8 := Nat.pow_le_pow_right (by omega) hi
  have h2 : (256 : Nat) ^ 8 = 18446744073709551616 := by decide
  omega
/-- How the eight bytes stand: x is what is read so far; all is well, or a byte was lacking. -/
def Eight (s : ByteArray) (R : Except Nat (Nat × List UInt8)) (i q x : Nat) (e : Int) : Prop :=
  (e = 0 ∧ q ≤ s.size ∧ x < 256 ^ i ∧ R = oct (8 - i) x (s.data.toList.drop q)) ∨ (e = 8 ∧ R = .error 8)
/-- The reader, and both boxes. -/
def St (r : Nat) (s : ByteArray) (q e : Int) (w : World) (A B : Nat) (x : Nat) (u : World) : Prop := Rrd r s q e u ∧ But r w u ∧ Vb A 0 0 0 ⟨#[]⟩ u ∧ Vb B 3 0 x ⟨#[]⟩ u
section
variable {r : Nat} {s : ByteArray} {q e q' e' : Int} {w u u' : World} {A B x : Nat}
theorem St.later (h : St r s q e w A B x u) (hb : Below u.heap.size u u') : St r s q e w A B x u' := ⟨h.1.later hb, h.2.1.trans (.of hb), h.2.2.1.later hb, h.2.2.2.later hb⟩
theorem St.step (h : St r s q e w A B x u) (hr : Rrd r s q' e' u') (hb : But r u u') (hA : A ≠ r) (hB : B ≠ r) : St r s q' e' w A B x u' := ⟨hr, h.2.1.trans hb, h.2.2.1.but hA hb, h.2.2.2.but hB hb⟩
theorem St.put (h : St r s q e w A B x u) (hA : A ≠ B) (hr : r ≠ B) (hw : w.heap.size ≤ B) (y : Nat) : St r s q e w A B y (u.setCell ⟨B, 2, none⟩ (.int .u64 (y : Int))) :=
  ⟨h.1.other (a := ⟨B, 2, none⟩) hr _, h.2.1.setNew (p := ⟨B, 2, none⟩) hw _, h.2.2.1.other (a := ⟨B, 2, none⟩) hA _, h.2.2.2.set2 y⟩
end
/-- The next byte, in any world that stands so. -/
theorem next_st (s : ByteArray) (R : Except Nat (Nat × List UInt8)) (r A B : Nat) (w : World) (hs : s.size ≤ 281474976710656) (hA : A ≠ r) (hB : B ≠ r) (i q x : Nat) (e : Int) (hi : i < 8) (h : Eight s R i q x e) :
    ∃ (c q2 : Nat) (e2 : Int), c < 256 ∧ Eight s R (i + 1) q2 ((256 * x + c) % 18446744073709551616) e2 ∧
      ∀ u, St r s q e w A B x u → Calls Tryz.prog 102 #[.pointer (some ⟨r, 0, none⟩)] u fun en w' => en = .returned (.int .i64 (c : Int)) ∧ St r s q2 e2 w A B x w' := by
  rcases h with ⟨rfl, hq, hxi, hR⟩ | ⟨rfl, hR⟩
  · rcases Nat.eq_or_lt_of_le hq with hqe | hqe
    · refine ⟨0, q, 8, by omega, .inr ⟨rfl, by rw [hR, hqe, drop_end, show 8 - i = (7 - i) + 1 by omega]; rfl⟩, fun u hu => ?_⟩
      have hr := hu.1
      rw [hqe] at hr ⊢
      refine (next_short r s u hr).mono ?_
      rintro en w' ⟨rfl, h1, h2⟩
      rw [← hqe] at h1
      exact ⟨rfl, hu.step (by rw [← hqe]; exact h1) h2 hA hB⟩
    · have hy := oct_num x (s[q]) i hxi
      have hp := pow8 (i + 1) (by omega)
      have e1 : (256 * x + (s[q]).toNat) % 18446744073709551616 = x * 256 + (s[q]).toNat := by
        rw [Nat.mod_eq_of_lt (by omega)]; omega
      refine ⟨(s[q]).toNat, q + 1, 0, (s[q]).toNat_lt, .inl ⟨rfl, hqe, by rw [e1]; exact hy, by rw [hR, e1, drop_at s q hqe, show 8 - i = (8 - (i + 1)) + 1 by omega]; rfl⟩, fun u hu => ?_⟩
      refine (next_ok r s q u hu.1 hqe (by omega)).mono ?_
      rintro en w' ⟨rfl, h1, h2⟩
      exact ⟨rfl, hu.step h1 h2 hA hB⟩
  · refine ⟨0, q, 8, by omega, .inr ⟨rfl, hR⟩, fun u hu => ?_⟩
    refine (next_kept r s q 8 (by decide) u hu.1).mono ?_
    rintro en w' ⟨rfl, rfl⟩
    exact ⟨rfl, hu⟩
set_option maxHeartbeats 4000000 in
set_option maxRecDepth 100000 in
theorem value_float (r : Nat) (s : ByteArray) (p : Nat) (w : World) (h : Rrd r s p 0 w) (hp : p < s.size) (hs : s.size ≤ 281474976710656) (c : UInt8) (hc : s[p] = c) (hk : c.toNat = 3) :
    Calls Tryz.prog 106 #[.pointer (some ⟨r, 0, none⟩)] w fun en w' => OutV r s w (val (s.data.toList.drop p)) en w' := by
  rw [val_at s p hp c hc]
  have hrlt := h.lt
  have H0 := hidm (h.past (.cells #[.int .i64 0, .int .i64 0, .int .u64 0, .string ⟨#[]⟩] 52))
  have B0 := hidm ((But.refl r w).alloc (.cells #[.int .i64 0, .int .i64 0, .int .u64 0, .string ⟨#[]⟩] 52))
  have A0 := hidm (Vb.new w 0 0 0 ⟨#[]⟩)
  have hoct := next_ok r s p _ H0.out hp (by omega)
  rw [hc] at hoct
  rw [hk] at hoct ⊢
  obtain ⟨R, hR⟩ : ∃ R, R = oct 8 0 (s.data.toList.drop (p + 1)) := ⟨_, rfl⟩
  have hbody : chk (body 3 (s.data.toList.drop (p + 1))) = chk (toV (fun b => ⟨3, 0, b, []⟩) R) := by rw [hR]; rfl
  rw [hbody]
  have HT := hidm hR
  clear hbody hR hc h
  go_enter Tryz.func106, Tryz.ntmps106
  go_wp2_with fail
  refine hoct.mono ?_
  rintro en w1 ⟨rfl, hr1, hb1⟩
  have HR1 := hidm (hr1.past (.cells #[.int .i64 3, .int .i64 0, .int .u64 0, .string ⟨#[]⟩] 52))
  have HB1 := hidm ((B0.out.trans hb1).alloc (.cells #[.int .i64 3, .int .i64 0, .int .u64 0, .string ⟨#[]⟩] 52))
  have HA1 := hidm ((A0.out.but (by omega) hb1).past (.cells #[.int .i64 3, .int .i64 0, .int .u64 0, .string ⟨#[]⟩] 52))
  have hV1 := Vb.new w1 3 0 0 ⟨#[]⟩
  have sz1 : w.heap.size < w1.heap.size := by have := hb1.size; simp at this; omega
  have HV1 := hidm hV1
  clear hr1 hb1 hoct
  have kk0 := hV1.c0
  clear hV1
  go_wp2_with fail
  clear kk0
  have HSZ := hidm hs
  go_loopg [4] 8 (fun g ii wx => ∃ i q x : Nat, ∃ e : Int, i + g = 8 ∧ ii = .int .i64 i ∧ x < 18446744073709551616 ∧ Hid (Eight s R i q x e) ∧ Hid (St r s q e w w.heap.size w1.heap.size x wx))
  case atStart => exact ⟨0, p + 1, 0, 0, rfl, rfl, by omega, hidm (.inl ⟨rfl, hp, by simp, HT.out⟩), hidm ⟨HR1.out, HB1.out, HA1.out, HV1.out⟩⟩
  case round =>
    clear HR1 HB1 HA1 HV1
    obtain ⟨i, q, x, e, hig, rfl, hx, H8, HS⟩ := hrel
    have kk2 := HS.out.2.2.2.c2
    have kz := HS.out.2.2.2.z
    cases gk with
    | zero =>
      obtain rfl : i = 8 := by omega
      have hcan := Ref.canon_any x hx
      obtain ⟨y, hy⟩ : ∃ y, y = Flo.canon x := ⟨_, rfl⟩
      rw [← hy] at hcan
      have hi8 : ¬ ((8 : Nat) : Int) < 8 := by omega
      have HY := hidm hy
      have hkk2 : ∀ n, (wr.drewN n).cell? ⟨w1.heap.size, 2, none⟩ = some (.int .u64 (x : Int)) := fun _ => kk2
      clear hy
      go_wp2_with fail
      go_region_held3 (fun u => u.cell? ⟨w1.heap.size, 2, none⟩ = some (.int .u64 (x : Int)) ∧ Hid (St r s q e w w.heap.size w1.heap.size x u))
        (first | assumption | (exact ⟨kk2, HS⟩) | (exact ⟨kk2, hidm (HS.out.later (Below.refl _ _).drew)⟩) | (exact ⟨kk2, hidm (HS.out.later (below_drewN (Below.refl _ _) 1))⟩) | go_keep)
        (first | (go_at_call 88; (with_reducible refine (hcan _).mono ?_); rintro e w' ⟨rfl, rfl⟩))
      rename_i hS
      have HST := hS.2
      clear hS hcan hkk2 kk2 kz hi8 HS
      generalize wr.drew = u at HST ⊢
      rcases H8.out with ⟨rfl, hq, hxi, hR⟩ | ⟨rfl, hR⟩
      · by_cases hyx : y = x
        · have HRR : Hid (chk (toV (fun b => (⟨3, 0, b, []⟩ : V)) R) = .ok (⟨3, 0, x, []⟩, s.data.toList.drop q)) := by
            refine hidm ?_
            rw [hR]
            exact chk_yes ((right_3 x).trans (decide_eq_true (by rw [← HY.out, hyx])))
          have HE := hidm (back_at s q hq)
          obtain rfl := hyx
          clear hR hxi H8
          have HVf := hidm HST.out.2.2.2
          have HRf := hidm HST.out.1
          have HBf := hidm HST.out.2.1
          have HAf := hidm HST.out.2.2.1
          have q0 := HVf.out.c0
          have q1 := HVf.out.c1
          have q2 := HVf.out.c2
          have q3 := HVf.out.c3
          have a0 := HAf.out.c0
          have a1 := HAf.out.c1
          have a2 := HAf.out.c2
          have a3 := HAf.out.c3
          have az := HAf.out.z
          have HP := hidm (put4_vb (k := 3) (n := 0) (x := (y : Nat)) (t := ⟨#[]⟩) HAf.out)
          go_wp2_with fail
          have p0 := HP.out.c0
          have p1 := HP.out.c1
          have p2 := HP.out.c2
          have p3 := HP.out.c3
          show bodyPost _ _ _ _ _ (put4 u w.heap.size (.int .i64 3) (.int .i64 0) (.int .u64 (y : Nat)) (.string ⟨#[]⟩))
          refine bodyPost_ret (v := .agg #[.int .i64 3, .int .i64 0, .int .u64 (y : Nat), .string ⟨#[]⟩]) (by simp [results, Tryz.results106, go_sem, p0, p1, p2, p3]) rfl ?_
          rw [HRR.out]
          exact ⟨rfl, put4_rrd (by rw [HE.out]; exact HRf.out) (by omega), put4_but HBf.out (Nat.le_refl _)⟩
        · have HRR : Hid (chk (toV (fun b => (⟨3, 0, b, []⟩ : V)) R) = .error 7) := by
            refine hidm ?_
            rw [hR]
            exact chk_no ((right_3 x).trans (decide_eq_false (by rw [← HY.out]; exact fun h => hyx h.symm)))
          have g1 : ((y : Int) != (x : Int)) = true := by simp; omega
          have g2 : ((y : Int) == (x : Int)) = false := by simp; omega
          clear hR hxi H8 hyx
          go_wp2_with fail
          refine (fail_any r s _ 7 _ HST.out.1).mono ?_
          rintro en w3 ⟨rfl, hr3, hb3⟩
          have HST := hidm (HST.out.step hr3 hb3 (by omega) (by omega))
          clear hr3 hb3
          have HVf := hidm HST.out.2.2.2
          have HRf := hidm HST.out.1
          have HBf := hidm HST.out.2.1
          have HAf := hidm HST.out.2.2.1
          have q0 := HVf.out.c0
          have q1 := HVf.out.c1
          have q2 := HVf.out.c2
          have q3 := HVf.out.c3
          have a0 := HAf.out.c0
          have a1 := HAf.out.c1
          have a2 := HAf.out.c2
          have a3 := HAf.out.c3
          have az := HAf.out.z
          have HP := hidm (put4_vb (k := 3) (n := 0) (x := (x : Nat)) (t := ⟨#[]⟩) HAf.out)
          go_wp2_with fail
          have p0 := HP.out.c0
          have p1 := HP.out.c1
          have p2 := HP.out.c2
          have p3 := HP.out.c3
          show bodyPost _ _ _ _ _ (put4 _ w.heap.size (.int .i64 3) (.int .i64 0) (.int .u64 (x : Nat)) (.string ⟨#[]⟩))
          refine bodyPost_ret (v := .agg #[.int .i64 3, .int .i64 0, .int .u64 (x : Nat), .string ⟨#[]⟩]) (by simp [results, Tryz.results106, go_sem, p0, p1, p2, p3]) rfl ?_
          rw [HRR.out]
          exact ⟨_, ⟨3, 0, x, []⟩, rfl, put4_rrd HRf.out (by omega), put4_but HBf.out (Nat.le_refl _)⟩
      · have HRR : Hid (chk (toV (fun b => (⟨3, 0, b, []⟩ : V)) R) = .error 8) := hidm (by rw [hR]; rfl)
        clear hR H8
        by_cases hyx : y = x
        · obtain rfl := hyx
          have HVf := hidm HST.out.2.2.2
          have HRf := hidm HST.out.1
          have HBf := hidm HST.out.2.1
          have HAf := hidm HST.out.2.2.1
          have q0 := HVf.out.c0
          have q1 := HVf.out.c1
          have q2 := HVf.out.c2
          have q3 := HVf.out.c3
          have a0 := HAf.out.c0
          have a1 := HAf.out.c1
          have a2 := HAf.out.c2
          have a3 := HAf.out.c3
          have az := HAf.out.z
          have HP := hidm (put4_vb (k := 3) (n := 0) (x := (y : Nat)) (t := ⟨#[]⟩) HAf.out)
          go_wp2_with fail
          have p0 := HP.out.c0
          have p1 := HP.out.c1
          have p2 := HP.out.c2
          have p3 := HP.out.c3
          show bodyPost _ _ _ _ _ (put4 u w.heap.size (.int .i64 3) (.int .i64 0) (.int .u64 (y : Nat)) (.string ⟨#[]⟩))
          refine bodyPost_ret (v := .agg #[.int .i64 3, .int .i64 0, .int .u64 (y : Nat), .string ⟨#[]⟩]) (by simp [results, Tryz.results106, go_sem, p0, p1, p2, p3]) rfl ?_
          rw [HRR.out]
          exact ⟨_, ⟨3, 0, y, []⟩, rfl, put4_rrd HRf.out (by omega), put4_but HBf.out (Nat.le_refl _)⟩
        · have g1 : ((y : Int) != (x : Int)) = true := by simp; omega
          have g2 : ((y : Int) == (x : Int)) = false := by simp; omega
          clear hyx
          go_wp2_with fail
          refine (fail_kept r s _ 8 7 (by decide) _ HST.out.1).mono ?_
          rintro en w3 ⟨rfl, rfl⟩
          have HVf := hidm HST.out.2.2.2
          have HRf := hidm HST.out.1
          have HBf := hidm HST.out.2.1
          have HAf := hidm HST.out.2.2.1
          have q0 := HVf.out.c0
          have q1 := HVf.out.c1
          have q2 := HVf.out.c2
          have q3 := HVf.out.c3
          have a0 := HAf.out.c0
          have a1 := HAf.out.c1
          have a2 := HAf.out.c2
          have a3 := HAf.out.c3
          have az := HAf.out.z
          have HP := hidm (put4_vb (k := 3) (n := 0) (x := (x : Nat)) (t := ⟨#[]⟩) HAf.out)
          go_wp2_with fail
          have p0 := HP.out.c0
          have p1 := HP.out.c1
          have p2 := HP.out.c2
          have p3 := HP.out.c3
          show bodyPost _ _ _ _ _ (put4 _ w.heap.size (.int .i64 3) (.int .i64 0) (.int .u64 (x : Nat)) (.string ⟨#[]⟩))
          refine bodyPost_ret (v := .agg #[.int .i64 3, .int .i64 0, .int .u64 (x : Nat), .string ⟨#[]⟩]) (by simp [results, Tryz.results106, go_sem, p0, p1, p2, p3]) rfl ?_
          rw [HRR.out]
          exact ⟨_, ⟨3, 0, x, []⟩, rfl, put4_rrd HRf.out (by omega), put4_but HBf.out (Nat.le_refl _)⟩
    | succ g =>
      have hi8 : (i : Int) < 8 := by omega
      obtain ⟨c, q2, e2, hc, HE2, hnx⟩ := next_st s R r w.heap.size w1.heap.size w hs (by omega) (by omega) i q x e (by omega) H8.out
      obtain ⟨y, hy⟩ : ∃ y, y = (256 * x + c) % 18446744073709551616 := ⟨_, rfl⟩
      have hyl : y < 18446744073709551616 := by rw [hy]; exact Nat.mod_lt _ (by decide)
      rw [← hy] at HE2
      have H9 := hidm HE2
      have HS1 := hidm (HS.out.later (Below.refl _ _).drew)
      have HS2 := hidm (HS.out.later (below_drewN (Below.refl _ _) 1))
      have hwr : IntKind.u64.wrap (IntKind.u64.wrap (256 * (x : Int)) + IntKind.u64.wrap (c : Int)) = (y : Int) := by
        simp only [IntKind.wrap_u64]; omega
      clear HE2 H8 hy
      go_wp2_with fail
      go_region_with (go_at_call 102; (with_reducible refine (hnx _ ?_).mono ?_); (first | exact HS.out | exact HS1.out | exact HS2.out); rintro en w2 ⟨rfl, hst⟩; have hc2 := hst.2.2.2.c2; have hz2 := hst.2.2.2.z)
      all_goals (try simp only [hwr])
      all_goals (have HST := hidm (hst.put (by omega) (by omega) (Nat.le_of_lt sz1) y); clear hst hc2 hz2)
      all_goals go_wp2_with fail
      all_goals go_roundg g
      all_goals first | omega | exact ⟨i + 1, q2, y, e2, by omega, by go_num, hyl, H9, HST⟩ | exact ⟨i + 1, q2, y, e2, by omega, by go_num, hyl, H9, hidm (HST.out.later (Below.refl _ _).drew)⟩
theorem value_part (r : Nat) (s : ByteArray) (p : Nat) (w : World) (h : Rrd r s p 0 w) (hp : p ≤ s.size) (hs : s.size ≤ 281474976710656) :
    Calls Tryz.prog 106 #[.pointer (some ⟨r, 0, none⟩)] w fun en w' => OutV r s w (val (s.data.toList.drop p)) en w' := by
  rcases Nat.eq_or_lt_of_le hp with hpe | hpe
  · subst hpe; exact value_short r s w h
  · obtain ⟨c, hc⟩ : ∃ c : UInt8, s[p] = c := ⟨_, rfl⟩
    by_cases h0 : c.toNat = 0
    · exact value_null r s p w h hpe hs c hc h0
    by_cases h1 : c.toNat = 1
    · exact value_bool r s p w h hpe hs c hc h1
    by_cases h2 : c.toNat = 2
    · exact value_int r s p w h hpe hs c hc h2
    by_cases h3 : c.toNat = 3
    · exact value_float r s p w h hpe hs c hc h3
    by_cases h4 : c.toNat = 4
    · exact value_bytes r s p w h hpe hs c hc h4
    by_cases h5 : c.toNat = 5
    · exact value_text r s p w h hpe hs c hc h5
    exact value_else r s p w h hpe hs c hc (by omega)
end Rr
end Go.Proofs.YtopmbhpjdmcabaaGreat
namespace Go.Proofs.YtopmbhpjdmcabaaGreat
open Go.RowKit
namespace Rr
open Cod
set_option maxHeartbeats 2000000 in
set_option maxRecDepth 100000 in
theorem value_kept (r : Nat) (s : ByteArray) (p e : Int) (he : (e != 0) = true) (w : World) (h : Rrd r s p e w) :
    Calls Tryz.prog 106 #[.pointer (some ⟨r, 0, none⟩)] w fun en w' => en = .returned (.agg #[.int .i64 0, .int .i64 0, .int .u64 0, .string ⟨#[]⟩]) ∧ Rrd r s p e w' ∧ But r w w' := by
  have hrlt := h.lt
  obtain ⟨w0, hw0⟩ : ∃ w0, w0 = w.alloc (.cells #[.int .i64 0, .int .i64 0, .int .u64 0, .string ⟨#[]⟩] 52) := ⟨_, rfl⟩
  have hr0 : Rrd r s p e w0 := by rw [hw0]; exact h.past _
  have HRw := hidm hr0
  have HBw := hidm (show But r w w0 by rw [hw0]; exact (But.refl r w).alloc _)
  have ha1 : Vb w.heap.size 0 0 0 ⟨#[]⟩ w0 := by rw [hw0]; exact Vb.new w 0 0 0 ⟨#[]⟩
  have sz1 : w.heap.size < w0.heap.size := by rw [hw0]; simp
  have HAw := hidm ha1
  clear h
  go_enter Tryz.func106, Tryz.ntmps106
  go_wp2_with fail
  rw [← hw0]
  clear hw0
  refine (next_kept r s p e he w0 hr0).mono ?_
  rintro en w1 ⟨rfl, hw1⟩
  subst hw1
  clear hr0
  have b0 := ha1.c0
  have b1 := ha1.c1
  have b2 := ha1.c2
  have b3 := ha1.c3
  have bz := ha1.z
  clear ha1
  have HP := hidm ((put4_vb (k := 0) (n := 0) (x := 0) (t := ⟨#[]⟩) HAw.out).past (.cells #[.int .i64 0, .int .i64 0, .int .u64 0, .string ⟨#[]⟩] 52))
  go_wp2_with fail
  have p0 := HP.out.c0
  have p1 := HP.out.c1
  have p2 := HP.out.c2
  have p3 := HP.out.c3
  show bodyPost _ _ _ _ _ ((put4 w0 w.heap.size (.int .i64 0) (.int .i64 0) (.int .u64 0) (.string ⟨#[]⟩)).alloc (.cells #[.int .i64 0, .int .i64 0, .int .u64 0, .string ⟨#[]⟩] 52))
  refine bodyPost_ret (v := (.agg #[.int .i64 0, .int .i64 0, .int .u64 0, .string ⟨#[]⟩])) (by simp [results, Tryz.results106, go_sem, p0, p1, p2, p3]) rfl ?_
  exact ⟨rfl, (put4_rrd HRw.out (by omega)).past _, (put4_but HBw.out (Nat.le_refl _)).alloc _⟩
theorem val_err {l : List UInt8} {x : Nat} (h : val l = .error x) : x = 7 ∨ x = 8 ∨ x = 19 := by
  have ch : ∀ {R : Except Nat (V × List UInt8)}, (∀ y, R = .error y → y = 7 ∨ y = 8 ∨ y = 19) → ∀ y, chk R = .error y → y = 7 ∨ y = 8 ∨ y = 19 := by
    intro R hR y hy
    cases R with
    | error z => simp only [chk, Except.error.injEq] at hy; exact hR y (by rw [hy])
    | ok vt =>
      obtain ⟨v, t⟩ := vt
      simp only [chk] at hy
      split at hy
      · cases hy
      · cases hy; omega
  unfold val valR at h
  split at h
  · rename_i c t hc
    refine ch ?_ x h
    intro y hy
    unfold body at hy
    split at hy
    · have := toV_err hy
      cases t with
      | nil => simp only [one, Except.error.injEq] at this; omega
      | cons a l => cases this
    split at hy
    · have := sig_err (toV_err hy); omega
    split at hy
    · have := oct_err _ _ _ _ (toV_err hy); omega
    split at hy
    · exact txt_err (toV_err hy)
    · cases hy
  · rename_i y hy
    cases h
    cases l with
    | nil => simp only [one, Except.error.injEq] at hy; omega
    | cons a l => cases hy
end Rr
end Go.Proofs.YtopmbhpjdmcabaaGreat
namespace Go.Proofs.YtopmbhpjdmcabaaGreat
open Go.RowKit
namespace Rr
open Cod
theorem Rrd.grown {r : Nat} {s : ByteArray} {q e : Int} {w w' : World} {row : Option Nat} (h : Rrd r s q e w) (hg : w.grownBy w' row) (hr : ∀ k, row = some k → r ≠ k) : Rrd r s q e w' := by
  unfold Rrd; rw [hg.block r h.lt (fun e => hr r e.symm rfl)]; exact h
/-- How the row stands: all is well, with these values read; or an error. -/
def Rows (s : ByteArray) (F : Except Nat (List V × List UInt8)) (m i : Nat) (acc : List V) (q e : Int) : Prop :=
  (e = 0 ∧ ∃ k : Nat, q = k ∧ k ≤ s.size ∧ F = vls (m - i) acc (s.data.toList.drop k)) ∨ (∃ x : Nat, e = x ∧ x ≠ 0 ∧ F = .error x)
set_option maxHeartbeats 4000000 in
set_option maxRecDepth 100000 in
theorem row_call (r : Nat) (s : ByteArray) (p : Nat) (w : World) (h : Rrd r s p 0 w) (hp : p ≤ s.size) (hs : s.size ≤ 281474976710656) :
    Calls Tryz.prog 79 #[.pointer (some ⟨r, 0, none⟩)] w fun en w' => Does r s p w (VRow w.heap.size) (.slice none 0 0) (row (s.data.toList.drop p)) en w' := by
  obtain ⟨i0, hi, hz0, hz1, hz2⟩ := info_parts infoV
  have hn := uint_part r s p w h hp (by omega)
  have h1 := h.c1
  have hrlt := h.lt
  obtain ⟨R, hR⟩ : ∃ R, R = num 0 0 (s.data.toList.drop p) := ⟨_, rfl⟩
  obtain ⟨F, hF⟩ : ∃ F, F = row (s.data.toList.drop p) := ⟨_, rfl⟩
  rw [← hF]
  unfold row len at hF
  rw [← hR] at hn hF
  have HR := hidm hR
  have HF := hidm hF
  clear hR hF
  go_enter Tryz.func79, Tryz.ntmps79
  go_wp2_with fail
  refine hn.mono ?_
  clear hn h1
  cases R with
  | error x =>
    have hx : ((x : Int) != 0) = true := by have := num_err _ _ _ _ HR.out.symm; simp; omega
    have HX : Hid (F = .error x) := HF
    rintro en w1 ⟨q, rfl, hr, hb⟩
    have HR1 := hidm hr
    have HB1 := hidm hb
    clear hr hb
    go_wp2_with fail
    go_loopw [5, 6] (fun sl ii wr => ii = .int .i64 0 ∧ Hid (wr = w1)) (fun _ _ _ => 0)
    case atStart => exact ⟨rfl, hidm rfl⟩
    case round =>
      obtain ⟨rfl, HW⟩ := hrel
      obtain rfl : wr = w1 := HW.out
      go_wp2_with fail
      refine (end_bad r s q p x hx wr HR1.out).mono ?_
      rintro en w2 ⟨rfl, hr, hb⟩
      have HR2 := hidm hr
      have HB2 := hidm (HB1.out.trans hb)
      clear hr hb
      go_wp2_with fail
      go_ret
      rw [HX.out]
      exact ⟨rfl, HR2.out, HB2.out⟩
  | ok at' =>
    obtain ⟨m, t⟩ := at'
    rintro en w1 ⟨v, rfl, rfl, hr, hb⟩
    have hnb := read_ok HR.out.symm
    have hrest := rest_at hnb.1
    have HRT := hidm hrest
    have hm64 := hnb.2
    have HR1 := hidm hr
    have HB1 := hidm hb
    clear hr hb hrest hnb
    by_cases hbig : 1000 < m
    · have HX : Hid (F = .error 19) := hidm (by rw [HF.out]; simp only [lenR]; rw [if_pos hbig]; rfl)
      have hb1 : (1000 : Int) < (m : Int) := by omega
      go_wp2_with fail
      refine (fail_any r s _ 19 _ HR1.out).mono ?_
      rintro en w2 ⟨rfl, hr, hb⟩
      have HR2 := hidm hr
      have HB2 := hidm (HB1.out.trans hb)
      have e2 := hr.c2
      clear hr hb
      go_wp2_with fail
      go_loopw [5, 6] (fun sl ii wr => ii = .int .i64 0 ∧ Hid (wr = w2)) (fun _ _ _ => 0)
      case atStart => exact ⟨rfl, hidm rfl⟩
      case round =>
        obtain ⟨rfl, HW⟩ := hrel
        obtain rfl : wr = w2 := HW.out
        obtain ⟨z, hz⟩ : ∃ z : Int, IntKind.i64.wrap (m : Int) = z := ⟨_, rfl⟩
        clear hm64 hbig hb1
        by_cases hz0 : 0 < z
        all_goals (go_wp2_with fail)
        all_goals refine (end_bad r s _ p 19 (by decide) wr HR2.out).mono ?_
        all_goals rintro en w3 ⟨rfl, hr, hb⟩
        all_goals have HR3 := hidm hr
        all_goals have HB3 := hidm (HB2.out.trans hb)
        all_goals clear hr hb
        all_goals (go_wp2_with fail)
        all_goals go_ret
        all_goals rw [HX.out]
        all_goals exact ⟨rfl, HR3.out, HB3.out⟩
    · have HX : Hid (F = vls m [] t) := hidm (by rw [HF.out]; simp only [lenR]; rw [if_neg hbig]; rfl)
      have hb1 : ¬ (1000 : Int) < (m : Int) := by omega
      have hm1000 : m ≤ 1000 := by omega
      go_wp2_with fail
      go_loopw [5, 6] (fun sl ii wr => ∃ (i : Nat) (acc : List V) (q e : Int), ii = .int .i64 i ∧ i ≤ m ∧ acc.length = i ∧ Hid (Rows s F m i acc q e) ∧ Hid (Rrd r s q e wr) ∧ Hid (But r w wr) ∧ wr.ownsRow w.heap.size 52 4 sl i (flat acc)) (fun _ ii _ => (m - (intOf ii).toNat))
      case atStart => exact ⟨0, [], (s.size - t.length : Nat), 0, rfl, by omega, rfl, hidm (.inl ⟨rfl, s.size - t.length, rfl, HRT.out.2.1, by rw [HRT.out.1]; exact HX.out⟩), HR1, HB1, World.ownsRow_nil _ _ _ _⟩
      case round =>
        obtain ⟨i, acc, q, e, rfl, him, hacc, HM, HRr, HB, hown⟩ := hrel
        have hsz := HB.out.size
        have k2 := HRr.out.c2
        have hmw : IntKind.i64.wrap (m : Int) = (m : Int) := by simp only [IntKind.wrap_i64]; omega
        rcases HM.out with ⟨rfl, k, rfl, hk, hF⟩ | ⟨x, rfl, hx0, hF⟩
        · rcases Nat.eq_or_lt_of_le him with hie | hie
          · have f1 : ¬ (i : Int) < m := by omega
            have HI := hidm hie
            have HA := hidm hacc
            have HO := hidm hown
            have HFF := hidm hF
            clear hie hacc hown hF HM
            go_wp2_with fail
            refine (end_ok r s _ p wr HRr.out).mono ?_
            rintro en w2 ⟨rfl, rfl⟩
            go_wp2_with fail
            go_ret
            rw [HFF.out, show m - i = 0 by have := HI.out; omega]
            exact ⟨_, rfl, by have := HA.out; rw [← this] at HO; exact HO.out, by rw [back_at s k hk]; exact HRr.out, HB.out⟩
          · have f1 : (i : Int) < m := by omega
            have hval := value_part r s k wr HRr.out hk hs
            obtain ⟨G, hG⟩ : ∃ G, G = val (s.data.toList.drop k) := ⟨_, rfl⟩
            rw [← hG] at hval
            have HG := hidm hG
            have HA := hidm hacc
            have HFF := hidm hF
            clear hG hacc hF HM
            go_wp2_with fail
            refine hval.mono ?_
            cases G with
            | error x =>
              have hx : x ≠ 0 := by have := val_err HG.out.symm; omega
              rintro en w2 ⟨q2, ⟨vk, vn, vb, vs⟩, rfl, hr2, hb2⟩
              have HX : Hid (F = .error x) := by
                refine hidm ?_
                rw [HFF.out, show m - i = (m - (i + 1)) + 1 by omega]
                simp only [vls]
                rw [← HG.out]
              have HM2 : Hid (Rows s F m (i + 1) (acc ++ [⟨vk, vn, vb, vs⟩]) q2 (x : Int)) := hidm (.inr ⟨x, rfl, hx, HX.out⟩)
              have hown2 := owns_but hown hrlt hb2
              have hsz2 : w.heap.size ≤ w2.heap.size := Nat.le_trans hsz hb2.size
              have HR2 := hidm hr2
              have HB2 := hidm (HB.out.trans hb2)
              clear hr2 hb2 hown k2
              simp only [V.agg]
              go_wp2_with (at_builtin; refine wpList_append_own _ rfl _ _ 25 rfl w.heap.size 52 i0 (.agg #[.int .i64 0, .int .i64 0, .int .u64 0, .string ⟨#[]⟩]) 4 40 Tryz.underlying25 hi hz0 hz1 hz2 rfl (by decide) _ _ _ rfl (hown2.alloc _) ⟨w2.heap.size, 0, none⟩ 1 1 [.int .i64 vk, .int .i64 vn, .int .u64 vb, .string (S vs)] rfl rfl ?c1 ?c2 ?c3 ?c4 ?c5 ?_)
              case c1 =>
                intro j y hj
                rcases cell_four _ _ _ _ j y hj with ⟨rfl, rfl⟩ | ⟨rfl, rfl⟩ | ⟨rfl, rfl⟩ | ⟨rfl, rfl⟩
                · exact (Vb.new w2 vk vn vb (S vs)).c0
                · exact (Vb.new w2 vk vn vb (S vs)).c1
                · exact (Vb.new w2 vk vn vb (S vs)).c2
                · exact (Vb.new w2 vk vn vb (S vs)).c3
              case c2 => intro y hy; simp at hy; rcases hy with rfl | rfl | rfl | rfl <;> rfl
              case c3 => unfold maxLen; omega
              case c4 => omega
              case c5 => simp; omega
              intro v' w3 hown' hgrow _
              have hlt2 := hown2.lt
              have HB3 := hidm ((HB2.out.alloc (.cells #[.int .i64 vk, .int .i64 vn, .int .u64 vb, .string (S vs)] 52)).grown hgrow (fun k hk => (hlt2 k hk).1))
              have HR3 := hidm ((HR2.out.past (.cells #[.int .i64 vk, .int .i64 vn, .int .u64 vb, .string (S vs)] 52)).grown hgrow (fun k hk => by have := (hlt2 k hk).1; omega))
              have hfl : flat acc ++ [.int .i64 vk, .int .i64 vn, .int .u64 vb, .string (S vs)] = flat (acc ++ [⟨vk, vn, vb, vs⟩]) := (flat_snoc acc ⟨vk, vn, vb, vs⟩).symm
              rw [hfl] at hown'
              have HO := hidm hown'
              clear hown' hgrow hown2 hlt2 hfl
              go_wp2
              go_roundw
              case rel => exact ⟨i + 1, acc ++ [⟨vk, vn, vb, vs⟩], _, _, by go_num, hie, by have := HA.out; rw [List.length_append, this]; rfl, HM2, HR3, HB3, HO.out⟩
              case measure => simp [intOf]; omega
            | ok at2 =>
              obtain ⟨⟨vk, vn, vb, vs⟩, u⟩ := at2
              rintro en w2 ⟨rfl, hr2, hb2⟩
              have HX : Hid (F = vls (m - (i + 1)) (acc ++ [⟨vk, vn, vb, vs⟩]) u) := by
                refine hidm ?_
                rw [HFF.out, show m - i = (m - (i + 1)) + 1 by omega]
                simp only [vls]
                rw [← HG.out]
              obtain ⟨pre, hpre⟩ := val_suf HG.out.symm
              have HU := hidm (rest_at hpre)
              have HM2 : Hid (Rows s F m (i + 1) (acc ++ [⟨vk, vn, vb, vs⟩]) (s.size - u.length : Nat) 0) := hidm (.inl ⟨rfl, s.size - u.length, rfl, HU.out.2.1, by rw [HU.out.1]; exact HX.out⟩)
              clear hpre
              have hown2 := owns_but hown hrlt hb2
              have hsz2 : w.heap.size ≤ w2.heap.size := Nat.le_trans hsz hb2.size
              have HR2 := hidm hr2
              have HB2 := hidm (HB.out.trans hb2)
              clear hr2 hb2 hown k2
              simp only [V.agg]
              go_wp2_with (at_builtin; refine wpList_append_own _ rfl _ _ 25 rfl w.heap.size 52 i0 (.agg #[.int .i64 0, .int .i64 0, .int .u64 0, .string ⟨#[]⟩]) 4 40 Tryz.underlying25 hi hz0 hz1 hz2 rfl (by decide) _ _ _ rfl (hown2.alloc _) ⟨w2.heap.size, 0, none⟩ 1 1 [.int .i64 vk, .int .i64 vn, .int .u64 vb, .string (S vs)] rfl rfl ?c1z ?c2z ?c3z ?c4z ?c5z ?_)
              case c1z =>
                intro j y hj
                rcases cell_four _ _ _ _ j y hj with ⟨rfl, rfl⟩ | ⟨rfl, rfl⟩ | ⟨rfl, rfl⟩ | ⟨rfl, rfl⟩
                · exact (Vb.new w2 vk vn vb (S vs)).c0
                · exact (Vb.new w2 vk vn vb (S vs)).c1
                · exact (Vb.new w2 vk vn vb (S vs)).c2
                · exact (Vb.new w2 vk vn vb (S vs)).c3
              case c2z => intro y hy; simp at hy; rcases hy with rfl | rfl | rfl | rfl <;> rfl
              case c3z => unfold maxLen; omega
              case c4z => omega
              case c5z => simp; omega
              intro v' w3 hown' hgrow _
              have hlt2 := hown2.lt
              have HB3 := hidm ((HB2.out.alloc (.cells #[.int .i64 vk, .int .i64 vn, .int .u64 vb, .string (S vs)] 52)).grown hgrow (fun k hk => (hlt2 k hk).1))
              have HR3 := hidm ((HR2.out.past (.cells #[.int .i64 vk, .int .i64 vn, .int .u64 vb, .string (S vs)] 52)).grown hgrow (fun k hk => by have := (hlt2 k hk).1; omega))
              have hfl : flat acc ++ [.int .i64 vk, .int .i64 vn, .int .u64 vb, .string (S vs)] = flat (acc ++ [⟨vk, vn, vb, vs⟩]) := (flat_snoc acc ⟨vk, vn, vb, vs⟩).symm
              rw [hfl] at hown'
              have HO := hidm hown'
              clear hown' hgrow hown2 hlt2 hfl
              go_wp2
              go_roundw
              case rel => exact ⟨i + 1, acc ++ [⟨vk, vn, vb, vs⟩], _, _, by go_num, hie, by have := HA.out; rw [List.length_append, this]; rfl, HM2, HR3, HB3, HO.out⟩
              case measure => simp [intOf]; omega
        · have hxx : ((x : Int) == 0) = false := by simp; omega
          have hxn : ((x : Int) != 0) = true := by simp; omega
          have HFF := hidm hF
          clear hF HM hown
          by_cases f1 : (i : Int) < m
          all_goals (go_wp2_with fail)
          all_goals refine (end_bad r s q p x hxn wr HRr.out).mono ?_
          all_goals rintro en w2 ⟨rfl, hr, hb⟩
          all_goals have HR2 := hidm hr
          all_goals have HB2 := hidm (HB.out.trans hb)
          all_goals clear hr hb
          all_goals (go_wp2_with fail)
          all_goals go_ret
          all_goals rw [HFF.out]
          all_goals exact ⟨rfl, HR2.out, HB2.out⟩
theorem row_stay (r : Nat) (s : ByteArray) (p e : Int) (he : (e != 0) = true) (w : World) (h : Rrd r s p e w) :
    Calls Tryz.prog 79 #[.pointer (some ⟨r, 0, none⟩)] w fun en w' => en = .returned (.slice none 0 0) ∧ Rrd r s p e w' ∧ But r w w' := by
  have hk := uint_kept r s p e he w h
  have h1 := h.c1
  have HR := hidm h
  clear h
  go_enter Tryz.func79, Tryz.ntmps79
  go_wp2_with fail
  refine hk.mono ?_
  rintro en w1 ⟨rfl, rfl⟩
  clear hk h1
  go_wp2_with fail
  go_loopw [5, 6] (fun sl ii wr => ii = .int .i64 0 ∧ Hid (wr = w)) (fun _ _ _ => 0)
  case atStart => exact ⟨rfl, hidm rfl⟩
  case round =>
    obtain ⟨rfl, HW⟩ := hrel
    obtain rfl : w = wr := HW.out.symm
    go_wp2_with fail
    refine (end_bad r s p p e he w HR.out).mono ?_
    rintro en w2 ⟨rfl, hr, hb⟩
    have HR2 := hidm hr
    have HB2 := hidm hb
    clear hr hb
    go_wp2_with fail
    go_ret
    exact ⟨rfl, HR2.out, HB2.out⟩
end Rr
end Go.Proofs.YtopmbhpjdmcabaaGreat
