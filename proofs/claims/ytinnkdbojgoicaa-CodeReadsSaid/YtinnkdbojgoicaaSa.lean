/- The document's reader: value at an error that stays; the method Value. Conditions: the pointer is to such a reader whose place is within its bytes; the bytes are at most 2^48. -/
import Derived.Test.YtinnkdbojgoicaaRz
import Derived.Test.YtinnkdbojgoicaaCpm
namespace Go.Proofs.Ytinnkdbojgoicaa
open Go.RowKit
namespace Rr
open Cod
set_option maxHeartbeats 2000000 in
set_option maxRecDepth 100000 in
theorem value_kept (r : Nat) (s : ByteArray) (p e : Int) (he : (e != 0) = true) (w : World) (h : Rrd r s p e w) :
    Calls Try.prog 55 #[.pointer (some ⟨r, 0, none⟩)] w fun en w' => en = .returned (.agg #[.int .i64 0, .int .i64 0, .int .u64 0, .string ⟨#[]⟩]) ∧ Rrd r s p e w' ∧ But r w w' := by
  have hrlt := h.lt
  obtain ⟨w0, hw0⟩ : ∃ w0, w0 = w.alloc (.cells #[.int .i64 0, .int .i64 0, .int .u64 0, .string ⟨#[]⟩] 33) := ⟨_, rfl⟩
  have hr0 : Rrd r s p e w0 := by rw [hw0]; exact h.past _
  have HRw := hidm hr0
  have HBw := hidm (show But r w w0 by rw [hw0]; exact (But.refl r w).alloc _)
  have ha1 : Vb w.heap.size 0 0 0 ⟨#[]⟩ w0 := by rw [hw0]; exact Vb.new w 0 0 0 ⟨#[]⟩
  have sz1 : w.heap.size < w0.heap.size := by rw [hw0]; simp
  have HAw := hidm ha1
  clear h
  go_enter Try.func55, Try.ntmps55
  go_wp2_with fail
  rw [← hw0]
  clear hw0
  refine (next_kept r s p e he w0 hr0).mono ?_
  rintro en w1 ⟨rfl, hw1⟩
  subst hw1
  clear hr0
  have b0 := ha1.c0
  have b1 := ha1.c1
  have b2 := ha1.c2
  have b3 := ha1.c3
  have bz := ha1.z
  clear ha1
  have HP := hidm ((put4_vb (k := 0) (n := 0) (x := 0) (t := ⟨#[]⟩) HAw.out).past (.cells #[.int .i64 0, .int .i64 0, .int .u64 0, .string ⟨#[]⟩] 33))
  go_wp2_with fail
  have p0 := HP.out.c0
  have p1 := HP.out.c1
  have p2 := HP.out.c2
  have p3 := HP.out.c3
  show bodyPost _ _ _ _ _ ((put4 w0 w.heap.size (.int .i64 0) (.int .i64 0) (.int .u64 0) (.string ⟨#[]⟩)).alloc (.cells #[.int .i64 0, .int .i64 0, .int .u64 0, .string ⟨#[]⟩] 33))
  refine bodyPost_ret (v := (.agg #[.int .i64 0, .int .i64 0, .int .u64 0, .string ⟨#[]⟩])) (by simp [results, Try.results55, go_sem, p0, p1, p2, p3]) rfl ?_
  exact ⟨rfl, (put4_rrd HRw.out (by omega)).past _, (put4_but HBw.out (Nat.le_refl _)).alloc _⟩
theorem val_err {l : List UInt8} {x : Nat} (h : val l = .error x) : x = 7 ∨ x = 8 ∨ x = 19 := by
  have ch : ∀ {R : Except Nat (V × List UInt8)}, (∀ y, R = .error y → y = 7 ∨ y = 8 ∨ y = 19) → ∀ y, chk R = .error y → y = 7 ∨ y = 8 ∨ y = 19 := by
    intro R hR y hy
    cases R with
    | error z => simp only [chk, Except.error.injEq] at hy; exact hR y (by rw [hy])
    | ok vt =>
      obtain ⟨v, t⟩ := vt
      simp only [chk] at hy
      split at hy
      · cases hy
      · cases hy; omega
  unfold val valR at h
  split at h
  · rename_i c t hc
    refine ch ?_ x h
    intro y hy
    unfold body at hy
    split at hy
    · have := toV_err hy
      cases t with
      | nil => simp only [one, Except.error.injEq] at this; omega
      | cons a l => cases this
    split at hy
    · have := sig_err (toV_err hy); omega
    split at hy
    · have := oct_err _ _ _ _ (toV_err hy); omega
    split at hy
    · exact txt_err (toV_err hy)
    · cases hy
  · rename_i y hy
    cases h
    cases l with
    | nil => simp only [one, Except.error.injEq] at hy; omega
    | cons a l => cases hy
set_option maxHeartbeats 2000000 in
set_option maxRecDepth 100000 in
theorem value_call (r : Nat) (s : ByteArray) (p : Nat) (w : World) (h : Rrd r s p 0 w) (hp : p ≤ s.size) (hs : s.size ≤ 281474976710656) :
    Calls Try.prog 20 #[.pointer (some ⟨r, 0, none⟩)] w fun en w' => Does r s p w VVal (.agg #[.int .i64 0, .int .i64 0, .int .u64 0, .string ⟨#[]⟩]) (val (s.data.toList.drop p)) en w' := by
  have hrlt := h.lt
  have h1 := h.c1
  obtain ⟨w0, hw0⟩ : ∃ w0, w0 = w.alloc (.cells #[.int .i64 0, .int .i64 0, .int .u64 0, .string ⟨#[]⟩] 33) := ⟨_, rfl⟩
  have hr0 : Rrd r s p 0 w0 := by rw [hw0]; exact h.past _
  have HBw := hidm (show But r w w0 by rw [hw0]; exact (But.refl r w).alloc _)
  have ha0 : Vb w.heap.size 0 0 0 ⟨#[]⟩ w0 := by rw [hw0]; exact Vb.new w 0 0 0 ⟨#[]⟩
  have sz1 : w.heap.size < w0.heap.size := by rw [hw0]; simp
  have HA0 := hidm ha0
  have hval := value_part r s p w0 hr0 hp hs
  obtain ⟨R, hR⟩ : ∃ R, R = val (s.data.toList.drop p) := ⟨_, rfl⟩
  rw [← hR] at hval ⊢
  have HR := hidm hR
  clear hR hr0 ha0 h
  go_enter Try.func20, Try.ntmps20
  go_wp2_with fail
  rw [← hw0]
  clear hw0 h1
  refine hval.mono ?_
  clear hval
  cases R with
  | error x =>
    have hx : ((x : Int) != 0) = true := by have := val_err HR.out.symm; simp; omega
    rintro en w1 ⟨q, ⟨k, n, b, t⟩, rfl, hr1, hb1⟩
    simp only [V.agg]
    have hr2 := hr1.past (.cells #[.int .i64 k, .int .i64 n, .int .u64 b, .string (S t)] 33)
    have HB2 := hidm ((HBw.out.trans hb1).alloc (.cells #[.int .i64 k, .int .i64 n, .int .u64 b, .string (S t)] 33))
    have HA2 := hidm ((HA0.out.but (by omega) hb1).past (.cells #[.int .i64 k, .int .i64 n, .int .u64 b, .string (S t)] 33))
    have HR2 := hidm hr2
    clear hr1 hb1 hr2
    go_wp2_with fail
    refine (end_bad r s q p x hx _ HR2.out).mono ?_
    rintro en w2 ⟨rfl, hr, hb⟩
    have HRf := hidm hr
    have HBf := hidm (HB2.out.trans hb)
    have HAf := hidm (HA2.out.but (by omega) hb)
    clear hr hb
    have a0 := HAf.out.c0
    have a1 := HAf.out.c1
    have a2 := HAf.out.c2
    have a3 := HAf.out.c3
    have az := HAf.out.z
    have HP := hidm (put4_vb (k := 0) (n := 0) (x := 0) (t := ⟨#[]⟩) HAf.out)
    go_wp2_with fail
    have p0 := HP.out.c0
    have p1 := HP.out.c1
    have p2 := HP.out.c2
    have p3 := HP.out.c3
    show bodyPost _ _ _ _ _ (put4 w2 w.heap.size (.int .i64 0) (.int .i64 0) (.int .u64 0) (.string ⟨#[]⟩))
    refine bodyPost_ret (v := .agg #[.int .i64 0, .int .i64 0, .int .u64 0, .string ⟨#[]⟩]) (by simp [results, Try.results20, go_sem, p0, p1, p2, p3]) rfl ?_
    exact ⟨rfl, put4_rrd HRf.out (by omega), put4_but HBf.out (Nat.le_refl _)⟩
  | ok at' =>
    obtain ⟨⟨k, n, b, t⟩, tl⟩ := at'
    rintro en w1 ⟨rfl, hr1, hb1⟩
    simp only [V.agg]
    have sz2 : w0.heap.size ≤ w1.heap.size := hb1.size
    have hr2 := hr1.past (.cells #[.int .i64 k, .int .i64 n, .int .u64 b, .string (S t)] 33)
    have HB2 := hidm ((HBw.out.trans hb1).alloc (.cells #[.int .i64 k, .int .i64 n, .int .u64 b, .string (S t)] 33))
    have HA2 := hidm ((HA0.out.but (by omega) hb1).past (.cells #[.int .i64 k, .int .i64 n, .int .u64 b, .string (S t)] 33))
    have HV2 := hidm (Vb.new w1 k n b (S t))
    have HR2 := hidm hr2
    clear hr1 hb1 hr2
    go_wp2_with fail
    refine (end_ok r s _ p _ HR2.out).mono ?_
    rintro en w2 ⟨rfl, hw2⟩
    have HRf := hidm (by have := HR2.out; rw [hw2] at this; exact this)
    have HBf := hidm (by have := HB2.out; rw [hw2] at this; exact this)
    have HAf := hidm (by have := HA2.out; rw [hw2] at this; exact this)
    have HVf := hidm (by have := HV2.out; rw [hw2] at this; exact this)
    clear hw2 HB2 HA2 HV2 HR2
    have q0 := HVf.out.c0
    have q1 := HVf.out.c1
    have q2 := HVf.out.c2
    have q3 := HVf.out.c3
    have a0 := HAf.out.c0
    have a1 := HAf.out.c1
    have a2 := HAf.out.c2
    have a3 := HAf.out.c3
    have az := HAf.out.z
    have HP := hidm (put4_vb (k := k) (n := n) (x := (b : Int)) (t := (S t)) HAf.out)
    go_wp2_with fail
    have p0 := HP.out.c0
    have p1 := HP.out.c1
    have p2 := HP.out.c2
    have p3 := HP.out.c3
    show bodyPost _ _ _ _ _ (put4 w2 w.heap.size (.int .i64 k) (.int .i64 n) (.int .u64 (b : Int)) (.string (S t)))
    refine bodyPost_ret (v := .agg #[.int .i64 k, .int .i64 n, .int .u64 (b : Int), .string (S t)]) (by simp [results, Try.results20, go_sem, p0, p1, p2, p3]) rfl ?_
    exact ⟨_, rfl, rfl, put4_rrd HRf.out (by omega), put4_but HBf.out (Nat.le_refl _)⟩
set_option maxHeartbeats 2000000 in
set_option maxRecDepth 100000 in
theorem value_stay (r : Nat) (s : ByteArray) (p : Nat) (e : Int) (he : (e != 0) = true) (w : World) (h : Rrd r s p e w) :
    Calls Try.prog 20 #[.pointer (some ⟨r, 0, none⟩)] w fun en w' => en = .returned (.agg #[.int .i64 0, .int .i64 0, .int .u64 0, .string ⟨#[]⟩]) ∧ Rrd r s p e w' ∧ But r w w' := by
  have hrlt := h.lt
  have h1 := h.c1
  obtain ⟨w0, hw0⟩ : ∃ w0, w0 = w.alloc (.cells #[.int .i64 0, .int .i64 0, .int .u64 0, .string ⟨#[]⟩] 33) := ⟨_, rfl⟩
  have hr0 : Rrd r s p e w0 := by rw [hw0]; exact h.past _
  have HBw := hidm (show But r w w0 by rw [hw0]; exact (But.refl r w).alloc _)
  have ha0 : Vb w.heap.size 0 0 0 ⟨#[]⟩ w0 := by rw [hw0]; exact Vb.new w 0 0 0 ⟨#[]⟩
  have sz1 : w.heap.size < w0.heap.size := by rw [hw0]; simp
  have HA0 := hidm ha0
  have hval := value_kept r s p e he w0 hr0
  clear hr0 ha0 h
  go_enter Try.func20, Try.ntmps20
  go_wp2_with fail
  rw [← hw0]
  clear hw0 h1
  refine hval.mono ?_
  clear hval
  rintro en w1 ⟨rfl, hr1, hb1⟩
  have HB2 := hidm ((HBw.out.trans hb1).alloc (.cells #[.int .i64 0, .int .i64 0, .int .u64 0, .string ⟨#[]⟩] 33))
  have HA2 := hidm ((HA0.out.but (by omega) hb1).past (.cells #[.int .i64 0, .int .i64 0, .int .u64 0, .string ⟨#[]⟩] 33))
  have HR2 := hidm (hr1.past (.cells #[.int .i64 0, .int .i64 0, .int .u64 0, .string ⟨#[]⟩] 33))
  clear hr1 hb1
  go_wp2_with fail
  refine (end_bad r s p p e he _ HR2.out).mono ?_
  rintro en w2 ⟨rfl, hr, hb⟩
  have HRf := hidm hr
  have HBf := hidm (HB2.out.trans hb)
  have HAf := hidm (HA2.out.but (by omega) hb)
  clear hr hb
  have a0 := HAf.out.c0
  have a1 := HAf.out.c1
  have a2 := HAf.out.c2
  have a3 := HAf.out.c3
  have az := HAf.out.z
  have HP := hidm (put4_vb (k := 0) (n := 0) (x := 0) (t := ⟨#[]⟩) HAf.out)
  go_wp2_with fail
  have p0 := HP.out.c0
  have p1 := HP.out.c1
  have p2 := HP.out.c2
  have p3 := HP.out.c3
  show bodyPost _ _ _ _ _ (put4 w2 w.heap.size (.int .i64 0) (.int .i64 0) (.int .u64 0) (.string ⟨#[]⟩))
  refine bodyPost_ret (v := .agg #[.int .i64 0, .int .i64 0, .int .u64 0, .string ⟨#[]⟩]) (by simp [results, Try.results20, go_sem, p0, p1, p2, p3]) rfl ?_
  exact ⟨rfl, put4_rrd HRf.out (by omega), put4_but HBf.out (Nat.le_refl _)⟩
end Rr
end Go.Proofs.Ytinnkdbojgoicaa
