/- ValueOdd is proved: for every input the law returns true and its arguments read as they did; its listed variables are tied to the program's text. No other condition. -/
import Derived.Test.YtdagblpaiopfiaaDoorFrV
namespace Go.Proofs.YtdagblpaiopfiaaDoor
open Go.ChangeShapes Go.WideShapes Go.ChangeAt Go.RowKit
namespace LaValueOdd
theorem eta (s : ByteArray) : (⟨s.data.toList.toArray⟩ : ByteArray) = s := by
  rw [Array.toArray_toList]
theorem show_is (k n : Int) (b : Nat) (s T : ByteArray) (h0 : -9223372036854775808 ≤ n) (h1 : n ≤ 9223372036854775807) (hb : b < 18446744073709551616) (h : T.data.toList = Val.showL k n b s) (w : World) (he : Val.Env w) :
    Calls Tryd.prog 16 #[.agg #[.int .i64 k, .int .i64 n, .int .u64 b, .string s]] w fun e w' => e = .returned (.string T) ∧ Below w.heap.size w w' := by
  refine (Val.show_any k n b s w he h0 h1 hb).mono ?_
  rintro e w' ⟨rfl, hb⟩
  exact ⟨by rw [← h, eta], hb⟩
theorem right_is (k n : Int) (b : Nat) (s : ByteArray) (v : Bool) (h : Val.rightB k n b s = v) (w : World) :
    Calls Tryd.prog 12 #[.agg #[.int .i64 k, .int .i64 n, .int .u64 b, .string s]] w fun e w' => e = .returned (.bool v) ∧ Below w.heap.size w w' := by
  have g := Val.right_any k n b s w
  rw [h] at g; exact g
theorem self_eqV (k n : Int) (b : Nat) (s : ByteArray) : Val.eqV k n b s k n b s = true := (Rd.eqV_iff _ _ _ _ _ _ _ _).2 ⟨rfl, rfl, rfl, rfl⟩
theorem cmp_is (k n : Int) (b : Nat) (s : ByteArray) (k' n' : Int) (b' : Nat) (s' : ByteArray) (cv : Int) (h : Val.cmpV k n b s k' n' b' s' = cv) (w : World) :
    Calls Tryd.prog 13 #[.agg #[.int .i64 k, .int .i64 n, .int .u64 b, .string s], .agg #[.int .i64 k', .int .i64 n', .int .u64 b', .string s']] w fun e w' => e = .returned (.int .i64 cv) ∧ Below w.heap.size w w' := by
  have g := Val.compare_any k n b s k' n' b' s' w
  rw [h] at g; exact g
theorem same_is (k n : Int) (b : Nat) (s : ByteArray) (k' n' : Int) (b' : Nat) (s' : ByteArray) (v : Bool) (h : Val.sameB k n b s k' n' b' s' = v) (w : World) :
    Calls Tryd.prog 15 #[.agg #[.int .i64 k, .int .i64 n, .int .u64 b, .string s], .agg #[.int .i64 k', .int .i64 n', .int .u64 b', .string s']] w fun e w' => e = .returned (.bool v) ∧ Below w.heap.size w w' := by
  have g := Val.same_any k n b s k' n' b' s' w
  rw [h] at g; exact g
theorem truth_is (k n : Int) (b : Nat) (s : ByteArray) (v : Int) (h : Val.truthI k n b s = v) (w : World) :
    Calls Tryd.prog 18 #[.agg #[.int .i64 k, .int .i64 n, .int .u64 b, .string s]] w fun e w' => e = .returned (.int .i64 v) ∧ Below w.heap.size w w' := by
  have g := Val.truth_any k n b s w
  rw [h] at g; exact g
theorem asf_is (k n : Int) (b : Nat) (s : ByteArray) (v : Nat) (h : Val.asF k n b s = v) (w : World) :
    Calls Tryd.prog 23 #[.agg #[.int .i64 k, .int .i64 n, .int .u64 b, .string s]] w fun e w' => e = .returned (.float .f64 v) ∧ Below w.heap.size w w' := by
  have g := Val.asfloat_any k n b s w
  rw [h] at g; exact g
theorem odd_cmp1 {k n : Int} {b : Nat} {s : ByteArray} {k' n' : Int} {b' : Nat} {s' : ByteArray} (h : Val.rightB k n b s = false) : Val.cmpV k n b s k' n' b' s' = 0 := by unfold Val.cmpV; rw [if_pos h]
theorem odd_cmp2 {k n : Int} {b : Nat} {s : ByteArray} {k' n' : Int} {b' : Nat} {s' : ByteArray} (h : Val.rightB k' n' b' s' = false) : Val.cmpV k n b s k' n' b' s' = 0 := by
  unfold Val.cmpV
  by_cases g : Val.rightB k n b s = false
  · rw [if_pos g]
  · rw [if_neg g, if_pos h]
theorem odd_same {k n : Int} {b : Nat} {s : ByteArray} {k' n' : Int} {b' : Nat} {s' : ByteArray} (h : Val.rightB k n b s = false) : Val.sameB k n b s k' n' b' s' = false := by unfold Val.sameB; rw [h, Bool.and_false]
theorem odd_truth {k n : Int} {b : Nat} {s : ByteArray} (h : Val.rightB k n b s = false) : Val.truthI k n b s = -1 := by unfold Val.truthI; rw [if_neg (by simp [h])]
theorem odd_asf {k n : Int} {b : Nat} {s : ByteArray} (h : Val.rightB k n b s = false) : Val.asF k n b s = 0 := by unfold Val.asF; rw [if_neg (by simp [h])]
theorem zero_eq : (FloatKind.f64.format.order 0 0 == some Ordering.eq) = true := by
  show (Ieee.double.order 0 0 == some Ordering.eq) = true
  rw [Flo.order_self]; decide
set_option maxHeartbeats 4000000 in
set_option maxRecDepth 100000 in
theorem od_long1 (k : Int) (n : Int) (b : Nat) (s : ByteArray) (k2 n2 : Int) (b2 : Nat) (s2 : ByteArray) (w : World) (he : Val.Env w) (g1 : decide ((500 : Int) < s.size) = true) : Calls Tryd.prog 9 #[.agg #[.int .i64 k, .int .i64 n, .int .u64 b, .string s], .agg #[.int .i64 k2, .int .i64 n2, .int .u64 b2, .string s2]] w fun e w' => e = .returned (.bool true) ∧ Below w.heap.size w w' := by
  have HE := Lib.hid ((he.below ((Below.refl w.heap.size w).alloc (Nat.le_refl _) (.cells #[.int .i64 k, .int .i64 n, .int .u64 b, .string s] 24))).below ((Below.refl (w.alloc (.cells #[.int .i64 k, .int .i64 n, .int .u64 b, .string s] 24)).heap.size (w.alloc (.cells #[.int .i64 k, .int .i64 n, .int .u64 b, .string s] 24))).alloc (Nat.le_refl _) (.cells #[.int .i64 k2, .int .i64 n2, .int .u64 b2, .string s2] 24)))
  clear he
  go_enter Tryd.func9, Tryd.ntmps9
  go_wp2_with fail
  refine (Rd.known_any _ HE.out).mono ?_
  rintro e w1 ⟨rfl, hb⟩
  go_wp2_with fail
  go_ret
  exact ⟨rfl, (((Below.refl _ _).alloc (Nat.le_refl _) _).alloc (by simp) _).trans (hb.mono (by simp; omega))⟩
set_option maxHeartbeats 4000000 in
set_option maxRecDepth 100000 in
theorem od_long2 (k : Int) (n : Int) (b : Nat) (s : ByteArray) (k2 n2 : Int) (b2 : Nat) (s2 : ByteArray) (w : World) (he : Val.Env w) (g1 : decide ((500 : Int) < s.size) = false) (g2 : decide ((500 : Int) < s2.size) = true) : Calls Tryd.prog 9 #[.agg #[.int .i64 k, .int .i64 n, .int .u64 b, .string s], .agg #[.int .i64 k2, .int .i64 n2, .int .u64 b2, .string s2]] w fun e w' => e = .returned (.bool true) ∧ Below w.heap.size w w' := by
  have HE := Lib.hid ((he.below ((Below.refl w.heap.size w).alloc (Nat.le_refl _) (.cells #[.int .i64 k, .int .i64 n, .int .u64 b, .string s] 24))).below ((Below.refl (w.alloc (.cells #[.int .i64 k, .int .i64 n, .int .u64 b, .string s] 24)).heap.size (w.alloc (.cells #[.int .i64 k, .int .i64 n, .int .u64 b, .string s] 24))).alloc (Nat.le_refl _) (.cells #[.int .i64 k2, .int .i64 n2, .int .u64 b2, .string s2] 24)))
  clear he
  go_enter Tryd.func9, Tryd.ntmps9
  go_wp2_with fail
  refine (Rd.known_any _ HE.out).mono ?_
  rintro e w1 ⟨rfl, hb⟩
  go_wp2_with fail
  go_ret
  exact ⟨rfl, (((Below.refl _ _).alloc (Nat.le_refl _) _).alloc (by simp) _).trans (hb.mono (by simp; omega))⟩
set_option maxHeartbeats 4000000 in
set_option maxRecDepth 100000 in
theorem od_0 (n : Int) (b : Nat) (s : ByteArray) (k2 n2 : Int) (b2 : Nat) (s2 : ByteArray) (w : World) (he : Val.Env w) (g1 : decide ((500 : Int) < s.size) = false) (g2 : decide ((500 : Int) < s2.size) = false) (hr : Val.rightB 0 1 b s = false) (n0 : -9223372036854775808 ≤ (1 : Int)) (n9 : (1 : Int) ≤ 9223372036854775807) (nb : (b : Nat) < 18446744073709551616) : Calls Tryd.prog 9 #[.agg #[.int .i64 0, .int .i64 n, .int .u64 b, .string s], .agg #[.int .i64 k2, .int .i64 n2, .int .u64 b2, .string s2]] w fun e w' => e = .returned (.bool true) ∧ Below w.heap.size w w' := by
  have R := Lib.hid hr
  have N0 := Lib.hid n0
  have N9 := Lib.hid n9
  have NB := Lib.hid nb
  clear hr n0 n9 nb
  have HE0 := Lib.hid (((he.below ((Below.refl w.heap.size w).alloc (Nat.le_refl _) (.cells #[.int .i64 0, .int .i64 n, .int .u64 b, .string s] 24))).below ((Below.refl (w.alloc (.cells #[.int .i64 0, .int .i64 n, .int .u64 b, .string s] 24)).heap.size (w.alloc (.cells #[.int .i64 0, .int .i64 n, .int .u64 b, .string s] 24))).alloc (Nat.le_refl _) (.cells #[.int .i64 k2, .int .i64 n2, .int .u64 b2, .string s2] 24))).below ((Below.refl ((w.alloc (.cells #[.int .i64 0, .int .i64 n, .int .u64 b, .string s] 24)).alloc (.cells #[.int .i64 k2, .int .i64 n2, .int .u64 b2, .string s2] 24)).heap.size ((w.alloc (.cells #[.int .i64 0, .int .i64 n, .int .u64 b, .string s] 24)).alloc (.cells #[.int .i64 k2, .int .i64 n2, .int .u64 b2, .string s2] 24))).alloc (Nat.le_refl _) (.cells #[.int .i64 0, .int .i64 1, .int .u64 b, .string s] 24)))
  have T30 := Lib.hid (show Rd.Box (((w.alloc (.cells #[.int .i64 0, .int .i64 n, .int .u64 b, .string s] 24)).alloc (.cells #[.int .i64 k2, .int .i64 n2, .int .u64 b2, .string s2] 24)).alloc (.cells #[.int .i64 0, .int .i64 1, .int .u64 b, .string s] 24)) (w.heap.size + 1) k2 n2 b2 s2 from by have h := (Rd.Box.new (w.alloc (.cells #[.int .i64 0, .int .i64 n, .int .u64 b, .string s] 24)) k2 n2 b2 s2).old (.cells #[.int .i64 0, .int .i64 1, .int .u64 b, .string s] 24); rwa [show (w.alloc (.cells #[.int .i64 0, .int .i64 n, .int .u64 b, .string s] 24)).heap.size = w.heap.size + 1 from by simp] at h)
  have T50 := Lib.hid (show Rd.Box (((w.alloc (.cells #[.int .i64 0, .int .i64 n, .int .u64 b, .string s] 24)).alloc (.cells #[.int .i64 k2, .int .i64 n2, .int .u64 b2, .string s2] 24)).alloc (.cells #[.int .i64 0, .int .i64 1, .int .u64 b, .string s] 24)) (w.heap.size + 1 + 1) 0 1 (b : Nat) s from by have h := Rd.Box.new ((w.alloc (.cells #[.int .i64 0, .int .i64 n, .int .u64 b, .string s] 24)).alloc (.cells #[.int .i64 k2, .int .i64 n2, .int .u64 b2, .string s2] 24)) 0 1 (b : Nat) s; rwa [show ((w.alloc (.cells #[.int .i64 0, .int .i64 n, .int .u64 b, .string s] 24)).alloc (.cells #[.int .i64 k2, .int .i64 n2, .int .u64 b2, .string s2] 24)).heap.size = w.heap.size + 1 + 1 from by simp] at h)
  have B0 := Lib.hid ((((Below.refl w.heap.size w).alloc (Nat.le_refl _) (.cells #[.int .i64 0, .int .i64 n, .int .u64 b, .string s] 24)).alloc (by simp) (.cells #[.int .i64 k2, .int .i64 n2, .int .u64 b2, .string s2] 24)).alloc (by simp; omega) (.cells #[.int .i64 0, .int .i64 1, .int .u64 b, .string s] 24))
  have Z0 : w.heap.size ≤ (((w.alloc (.cells #[.int .i64 0, .int .i64 n, .int .u64 b, .string s] 24)).alloc (.cells #[.int .i64 k2, .int .i64 n2, .int .u64 b2, .string s2] 24)).alloc (.cells #[.int .i64 0, .int .i64 1, .int .u64 b, .string s] 24)).heap.size := by simp; omega
  clear he
  have g3 := zero_eq
  go_enter Tryd.func9, Tryd.ntmps9
  go_wp2_with fail
  refine (right_is 0 1 b s _ R.out _).mono ?_
  rintro e w1 ⟨rfl, hbn⟩
  have HE1 := Lib.hid (HE0.out.below hbn)
  have T31 := Lib.hid (T30.out.below hbn)
  have T51 := Lib.hid (T50.out.below hbn)
  have B1 := Lib.hid (B0.out.trans (hbn.mono Z0))
  have Z1 : w.heap.size ≤ w1.heap.size := Nat.le_trans Z0 hbn.size
  clear hbn HE0 B0 Z0 T30 T50
  have qT50 := T51.out.c0
  have qT51 := T51.out.c1
  have qT52 := T51.out.c2
  have qT53 := T51.out.c3
  go_wp2_with fail
  refine (show_is 0 1 b s ⟨#[]⟩ N0.out N9.out NB.out (by unfold Val.showL; rw [if_pos R.out]) _ HE1.out).mono ?_
  rintro e w2 ⟨rfl, hbn⟩
  clear qT50 qT51 qT52 qT53
  have HE2 := Lib.hid (HE1.out.below hbn)
  have T32 := Lib.hid (T31.out.below hbn)
  have T52 := Lib.hid (T51.out.below hbn)
  have B2 := Lib.hid (B1.out.trans (hbn.mono Z1))
  have Z2 : w.heap.size ≤ w2.heap.size := Nat.le_trans Z1 hbn.size
  clear hbn HE1 B1 Z1 T31 T51
  have qT50 := T52.out.c0
  have qT51 := T52.out.c1
  have qT52 := T52.out.c2
  have qT53 := T52.out.c3
  have qT30 := T32.out.c0
  have qT31 := T32.out.c1
  have qT32 := T32.out.c2
  have qT33 := T32.out.c3
  go_wp2_with fail
  refine (cmp_is 0 1 b s k2 n2 b2 s2 _ (odd_cmp1 R.out) _).mono ?_
  rintro e w3 ⟨rfl, hbn⟩
  clear qT50 qT51 qT52 qT53 qT30 qT31 qT32 qT33
  have HE3 := Lib.hid (HE2.out.below hbn)
  have T33 := Lib.hid (T32.out.below hbn)
  have T53 := Lib.hid (T52.out.below hbn)
  have B3 := Lib.hid (B2.out.trans (hbn.mono Z2))
  have Z3 : w.heap.size ≤ w3.heap.size := Nat.le_trans Z2 hbn.size
  clear hbn HE2 B2 Z2 T32 T52
  have qT30 := T33.out.c0
  have qT31 := T33.out.c1
  have qT32 := T33.out.c2
  have qT33 := T33.out.c3
  have qT50 := T53.out.c0
  have qT51 := T53.out.c1
  have qT52 := T53.out.c2
  have qT53 := T53.out.c3
  go_wp2_with fail
  refine (cmp_is k2 n2 b2 s2 0 1 b s _ (odd_cmp2 R.out) _).mono ?_
  rintro e w4 ⟨rfl, hbn⟩
  clear qT30 qT31 qT32 qT33 qT50 qT51 qT52 qT53
  have HE4 := Lib.hid (HE3.out.below hbn)
  have T34 := Lib.hid (T33.out.below hbn)
  have T54 := Lib.hid (T53.out.below hbn)
  have B4 := Lib.hid (B3.out.trans (hbn.mono Z3))
  have Z4 : w.heap.size ≤ w4.heap.size := Nat.le_trans Z3 hbn.size
  clear hbn HE3 B3 Z3 T33 T53
  have qT50 := T54.out.c0
  have qT51 := T54.out.c1
  have qT52 := T54.out.c2
  have qT53 := T54.out.c3
  go_wp2_with fail
  refine (same_is 0 1 b s 0 1 b s _ (odd_same R.out) _).mono ?_
  rintro e w5 ⟨rfl, hbn⟩
  clear qT50 qT51 qT52 qT53
  have HE5 := Lib.hid (HE4.out.below hbn)
  have T35 := Lib.hid (T34.out.below hbn)
  have T55 := Lib.hid (T54.out.below hbn)
  have B5 := Lib.hid (B4.out.trans (hbn.mono Z4))
  have Z5 : w.heap.size ≤ w5.heap.size := Nat.le_trans Z4 hbn.size
  clear hbn HE4 B4 Z4 T34 T54
  have qT50 := T55.out.c0
  have qT51 := T55.out.c1
  have qT52 := T55.out.c2
  have qT53 := T55.out.c3
  go_wp2_with fail
  refine (truth_is 0 1 b s _ (odd_truth R.out) _).mono ?_
  rintro e w6 ⟨rfl, hbn⟩
  clear qT50 qT51 qT52 qT53
  have HE6 := Lib.hid (HE5.out.below hbn)
  have T36 := Lib.hid (T35.out.below hbn)
  have T56 := Lib.hid (T55.out.below hbn)
  have B6 := Lib.hid (B5.out.trans (hbn.mono Z5))
  have Z6 : w.heap.size ≤ w6.heap.size := Nat.le_trans Z5 hbn.size
  clear hbn HE5 B5 Z5 T35 T55
  have qT50 := T56.out.c0
  have qT51 := T56.out.c1
  have qT52 := T56.out.c2
  have qT53 := T56.out.c3
  go_wp2_with fail
  refine (asf_is 0 1 b s _ (odd_asf R.out) _).mono ?_
  rintro e w7 ⟨rfl, hbn⟩
  clear qT50 qT51 qT52 qT53
  have HE7 := Lib.hid (HE6.out.below hbn)
  have T37 := Lib.hid (T36.out.below hbn)
  have T57 := Lib.hid (T56.out.below hbn)
  have B7 := Lib.hid (B6.out.trans (hbn.mono Z6))
  have Z7 : w.heap.size ≤ w7.heap.size := Nat.le_trans Z6 hbn.size
  clear hbn HE6 B6 Z6 T36 T56
  go_wp2_with fail
  refine (Rd.known_any _ HE7.out).mono ?_
  rintro e w8 ⟨rfl, hbn⟩
  have B8 := Lib.hid (B7.out.trans (hbn.mono Z7))
  clear hbn
  go_wp2_with fail
  go_ret
  exact ⟨rfl, B8.out⟩
set_option maxHeartbeats 4000000 in
set_option maxRecDepth 100000 in
theorem od_3 (n : Int) (b : Nat) (s : ByteArray) (k2 n2 : Int) (b2 : Nat) (s2 : ByteArray) (w : World) (he : Val.Env w) (g1 : decide ((500 : Int) < s.size) = false) (g2 : decide ((500 : Int) < s2.size) = false) (hr : Val.rightB 3 1 b s = false) (n0 : -9223372036854775808 ≤ (1 : Int)) (n9 : (1 : Int) ≤ 9223372036854775807) (nb : (b : Nat) < 18446744073709551616) : Calls Tryd.prog 9 #[.agg #[.int .i64 3, .int .i64 n, .int .u64 b, .string s], .agg #[.int .i64 k2, .int .i64 n2, .int .u64 b2, .string s2]] w fun e w' => e = .returned (.bool true) ∧ Below w.heap.size w w' := by
  have R := Lib.hid hr
  have N0 := Lib.hid n0
  have N9 := Lib.hid n9
  have NB := Lib.hid nb
  clear hr n0 n9 nb
  have HE0 := Lib.hid (((he.below ((Below.refl w.heap.size w).alloc (Nat.le_refl _) (.cells #[.int .i64 3, .int .i64 n, .int .u64 b, .string s] 24))).below ((Below.refl (w.alloc (.cells #[.int .i64 3, .int .i64 n, .int .u64 b, .string s] 24)).heap.size (w.alloc (.cells #[.int .i64 3, .int .i64 n, .int .u64 b, .string s] 24))).alloc (Nat.le_refl _) (.cells #[.int .i64 k2, .int .i64 n2, .int .u64 b2, .string s2] 24))).below ((Below.refl ((w.alloc (.cells #[.int .i64 3, .int .i64 n, .int .u64 b, .string s] 24)).alloc (.cells #[.int .i64 k2, .int .i64 n2, .int .u64 b2, .string s2] 24)).heap.size ((w.alloc (.cells #[.int .i64 3, .int .i64 n, .int .u64 b, .string s] 24)).alloc (.cells #[.int .i64 k2, .int .i64 n2, .int .u64 b2, .string s2] 24))).alloc (Nat.le_refl _) (.cells #[.int .i64 3, .int .i64 1, .int .u64 b, .string s] 24)))
  have T30 := Lib.hid (show Rd.Box (((w.alloc (.cells #[.int .i64 3, .int .i64 n, .int .u64 b, .string s] 24)).alloc (.cells #[.int .i64 k2, .int .i64 n2, .int .u64 b2, .string s2] 24)).alloc (.cells #[.int .i64 3, .int .i64 1, .int .u64 b, .string s] 24)) (w.heap.size + 1) k2 n2 b2 s2 from by have h := (Rd.Box.new (w.alloc (.cells #[.int .i64 3, .int .i64 n, .int .u64 b, .string s] 24)) k2 n2 b2 s2).old (.cells #[.int .i64 3, .int .i64 1, .int .u64 b, .string s] 24); rwa [show (w.alloc (.cells #[.int .i64 3, .int .i64 n, .int .u64 b, .string s] 24)).heap.size = w.heap.size + 1 from by simp] at h)
  have T50 := Lib.hid (show Rd.Box (((w.alloc (.cells #[.int .i64 3, .int .i64 n, .int .u64 b, .string s] 24)).alloc (.cells #[.int .i64 k2, .int .i64 n2, .int .u64 b2, .string s2] 24)).alloc (.cells #[.int .i64 3, .int .i64 1, .int .u64 b, .string s] 24)) (w.heap.size + 1 + 1) 3 1 (b : Nat) s from by have h := Rd.Box.new ((w.alloc (.cells #[.int .i64 3, .int .i64 n, .int .u64 b, .string s] 24)).alloc (.cells #[.int .i64 k2, .int .i64 n2, .int .u64 b2, .string s2] 24)) 3 1 (b : Nat) s; rwa [show ((w.alloc (.cells #[.int .i64 3, .int .i64 n, .int .u64 b, .string s] 24)).alloc (.cells #[.int .i64 k2, .int .i64 n2, .int .u64 b2, .string s2] 24)).heap.size = w.heap.size + 1 + 1 from by simp] at h)
  have B0 := Lib.hid ((((Below.refl w.heap.size w).alloc (Nat.le_refl _) (.cells #[.int .i64 3, .int .i64 n, .int .u64 b, .string s] 24)).alloc (by simp) (.cells #[.int .i64 k2, .int .i64 n2, .int .u64 b2, .string s2] 24)).alloc (by simp; omega) (.cells #[.int .i64 3, .int .i64 1, .int .u64 b, .string s] 24))
  have Z0 : w.heap.size ≤ (((w.alloc (.cells #[.int .i64 3, .int .i64 n, .int .u64 b, .string s] 24)).alloc (.cells #[.int .i64 k2, .int .i64 n2, .int .u64 b2, .string s2] 24)).alloc (.cells #[.int .i64 3, .int .i64 1, .int .u64 b, .string s] 24)).heap.size := by simp; omega
  clear he
  have g3 := zero_eq
  go_enter Tryd.func9, Tryd.ntmps9
  go_wp2_with fail
  refine (right_is 3 1 b s _ R.out _).mono ?_
  rintro e w1 ⟨rfl, hbn⟩
  have HE1 := Lib.hid (HE0.out.below hbn)
  have T31 := Lib.hid (T30.out.below hbn)
  have T51 := Lib.hid (T50.out.below hbn)
  have B1 := Lib.hid (B0.out.trans (hbn.mono Z0))
  have Z1 : w.heap.size ≤ w1.heap.size := Nat.le_trans Z0 hbn.size
  clear hbn HE0 B0 Z0 T30 T50
  have qT50 := T51.out.c0
  have qT51 := T51.out.c1
  have qT52 := T51.out.c2
  have qT53 := T51.out.c3
  go_wp2_with fail
  refine (show_is 3 1 b s ⟨#[]⟩ N0.out N9.out NB.out (by unfold Val.showL; rw [if_pos R.out]) _ HE1.out).mono ?_
  rintro e w2 ⟨rfl, hbn⟩
  clear qT50 qT51 qT52 qT53
  have HE2 := Lib.hid (HE1.out.below hbn)
  have T32 := Lib.hid (T31.out.below hbn)
  have T52 := Lib.hid (T51.out.below hbn)
  have B2 := Lib.hid (B1.out.trans (hbn.mono Z1))
  have Z2 : w.heap.size ≤ w2.heap.size := Nat.le_trans Z1 hbn.size
  clear hbn HE1 B1 Z1 T31 T51
  have qT50 := T52.out.c0
  have qT51 := T52.out.c1
  have qT52 := T52.out.c2
  have qT53 := T52.out.c3
  have qT30 := T32.out.c0
  have qT31 := T32.out.c1
  have qT32 := T32.out.c2
  have qT33 := T32.out.c3
  go_wp2_with fail
  refine (cmp_is 3 1 b s k2 n2 b2 s2 _ (odd_cmp1 R.out) _).mono ?_
  rintro e w3 ⟨rfl, hbn⟩
  clear qT50 qT51 qT52 qT53 qT30 qT31 qT32 qT33
  have HE3 := Lib.hid (HE2.out.below hbn)
  have T33 := Lib.hid (T32.out.below hbn)
  have T53 := Lib.hid (T52.out.below hbn)
  have B3 := Lib.hid (B2.out.trans (hbn.mono Z2))
  have Z3 : w.heap.size ≤ w3.heap.size := Nat.le_trans Z2 hbn.size
  clear hbn HE2 B2 Z2 T32 T52
  have qT30 := T33.out.c0
  have qT31 := T33.out.c1
  have qT32 := T33.out.c2
  have qT33 := T33.out.c3
  have qT50 := T53.out.c0
  have qT51 := T53.out.c1
  have qT52 := T53.out.c2
  have qT53 := T53.out.c3
  go_wp2_with fail
  refine (cmp_is k2 n2 b2 s2 3 1 b s _ (odd_cmp2 R.out) _).mono ?_
  rintro e w4 ⟨rfl, hbn⟩
  clear qT30 qT31 qT32 qT33 qT50 qT51 qT52 qT53
  have HE4 := Lib.hid (HE3.out.below hbn)
  have T34 := Lib.hid (T33.out.below hbn)
  have T54 := Lib.hid (T53.out.below hbn)
  have B4 := Lib.hid (B3.out.trans (hbn.mono Z3))
  have Z4 : w.heap.size ≤ w4.heap.size := Nat.le_trans Z3 hbn.size
  clear hbn HE3 B3 Z3 T33 T53
  have qT50 := T54.out.c0
  have qT51 := T54.out.c1
  have qT52 := T54.out.c2
  have qT53 := T54.out.c3
  go_wp2_with fail
  refine (same_is 3 1 b s 3 1 b s _ (odd_same R.out) _).mono ?_
  rintro e w5 ⟨rfl, hbn⟩
  clear qT50 qT51 qT52 qT53
  have HE5 := Lib.hid (HE4.out.below hbn)
  have T35 := Lib.hid (T34.out.below hbn)
  have T55 := Lib.hid (T54.out.below hbn)
  have B5 := Lib.hid (B4.out.trans (hbn.mono Z4))
  have Z5 : w.heap.size ≤ w5.heap.size := Nat.le_trans Z4 hbn.size
  clear hbn HE4 B4 Z4 T34 T54
  have qT50 := T55.out.c0
  have qT51 := T55.out.c1
  have qT52 := T55.out.c2
  have qT53 := T55.out.c3
  go_wp2_with fail
  refine (truth_is 3 1 b s _ (odd_truth R.out) _).mono ?_
  rintro e w6 ⟨rfl, hbn⟩
  clear qT50 qT51 qT52 qT53
  have HE6 := Lib.hid (HE5.out.below hbn)
  have T36 := Lib.hid (T35.out.below hbn)
  have T56 := Lib.hid (T55.out.below hbn)
  have B6 := Lib.hid (B5.out.trans (hbn.mono Z5))
  have Z6 : w.heap.size ≤ w6.heap.size := Nat.le_trans Z5 hbn.size
  clear hbn HE5 B5 Z5 T35 T55
  have qT50 := T56.out.c0
  have qT51 := T56.out.c1
  have qT52 := T56.out.c2
  have qT53 := T56.out.c3
  go_wp2_with fail
  refine (asf_is 3 1 b s _ (odd_asf R.out) _).mono ?_
  rintro e w7 ⟨rfl, hbn⟩
  clear qT50 qT51 qT52 qT53
  have HE7 := Lib.hid (HE6.out.below hbn)
  have T37 := Lib.hid (T36.out.below hbn)
  have T57 := Lib.hid (T56.out.below hbn)
  have B7 := Lib.hid (B6.out.trans (hbn.mono Z6))
  have Z7 : w.heap.size ≤ w7.heap.size := Nat.le_trans Z6 hbn.size
  clear hbn HE6 B6 Z6 T36 T56
  go_wp2_with fail
  refine (Rd.known_any _ HE7.out).mono ?_
  rintro e w8 ⟨rfl, hbn⟩
  have B8 := Lib.hid (B7.out.trans (hbn.mono Z7))
  clear hbn
  go_wp2_with fail
  go_ret
  exact ⟨rfl, B8.out⟩
set_option maxHeartbeats 4000000 in
set_option maxRecDepth 100000 in
theorem od_1 (n : Int) (b : Nat) (s : ByteArray) (k2 n2 : Int) (b2 : Nat) (s2 : ByteArray) (w : World) (he : Val.Env w) (g1 : decide ((500 : Int) < s.size) = false) (g2 : decide ((500 : Int) < s2.size) = false) (hr : Val.rightB 1 2 b s = false) (n0 : -9223372036854775808 ≤ (2 : Int)) (n9 : (2 : Int) ≤ 9223372036854775807) (nb : (b : Nat) < 18446744073709551616) : Calls Tryd.prog 9 #[.agg #[.int .i64 1, .int .i64 n, .int .u64 b, .string s], .agg #[.int .i64 k2, .int .i64 n2, .int .u64 b2, .string s2]] w fun e w' => e = .returned (.bool true) ∧ Below w.heap.size w w' := by
  have R := Lib.hid hr
  have N0 := Lib.hid n0
  have N9 := Lib.hid n9
  have NB := Lib.hid nb
  clear hr n0 n9 nb
  have HE0 := Lib.hid (((he.below ((Below.refl w.heap.size w).alloc (Nat.le_refl _) (.cells #[.int .i64 1, .int .i64 n, .int .u64 b, .string s] 24))).below ((Below.refl (w.alloc (.cells #[.int .i64 1, .int .i64 n, .int .u64 b, .string s] 24)).heap.size (w.alloc (.cells #[.int .i64 1, .int .i64 n, .int .u64 b, .string s] 24))).alloc (Nat.le_refl _) (.cells #[.int .i64 k2, .int .i64 n2, .int .u64 b2, .string s2] 24))).below ((Below.refl ((w.alloc (.cells #[.int .i64 1, .int .i64 n, .int .u64 b, .string s] 24)).alloc (.cells #[.int .i64 k2, .int .i64 n2, .int .u64 b2, .string s2] 24)).heap.size ((w.alloc (.cells #[.int .i64 1, .int .i64 n, .int .u64 b, .string s] 24)).alloc (.cells #[.int .i64 k2, .int .i64 n2, .int .u64 b2, .string s2] 24))).alloc (Nat.le_refl _) (.cells #[.int .i64 1, .int .i64 2, .int .u64 b, .string s] 24)))
  have T30 := Lib.hid (show Rd.Box (((w.alloc (.cells #[.int .i64 1, .int .i64 n, .int .u64 b, .string s] 24)).alloc (.cells #[.int .i64 k2, .int .i64 n2, .int .u64 b2, .string s2] 24)).alloc (.cells #[.int .i64 1, .int .i64 2, .int .u64 b, .string s] 24)) (w.heap.size + 1) k2 n2 b2 s2 from by have h := (Rd.Box.new (w.alloc (.cells #[.int .i64 1, .int .i64 n, .int .u64 b, .string s] 24)) k2 n2 b2 s2).old (.cells #[.int .i64 1, .int .i64 2, .int .u64 b, .string s] 24); rwa [show (w.alloc (.cells #[.int .i64 1, .int .i64 n, .int .u64 b, .string s] 24)).heap.size = w.heap.size + 1 from by simp] at h)
  have T50 := Lib.hid (show Rd.Box (((w.alloc (.cells #[.int .i64 1, .int .i64 n, .int .u64 b, .string s] 24)).alloc (.cells #[.int .i64 k2, .int .i64 n2, .int .u64 b2, .string s2] 24)).alloc (.cells #[.int .i64 1, .int .i64 2, .int .u64 b, .string s] 24)) (w.heap.size + 1 + 1) 1 2 (b : Nat) s from by have h := Rd.Box.new ((w.alloc (.cells #[.int .i64 1, .int .i64 n, .int .u64 b, .string s] 24)).alloc (.cells #[.int .i64 k2, .int .i64 n2, .int .u64 b2, .string s2] 24)) 1 2 (b : Nat) s; rwa [show ((w.alloc (.cells #[.int .i64 1, .int .i64 n, .int .u64 b, .string s] 24)).alloc (.cells #[.int .i64 k2, .int .i64 n2, .int .u64 b2, .string s2] 24)).heap.size = w.heap.size + 1 + 1 from by simp] at h)
  have B0 := Lib.hid ((((Below.refl w.heap.size w).alloc (Nat.le_refl _) (.cells #[.int .i64 1, .int .i64 n, .int .u64 b, .string s] 24)).alloc (by simp) (.cells #[.int .i64 k2, .int .i64 n2, .int .u64 b2, .string s2] 24)).alloc (by simp; omega) (.cells #[.int .i64 1, .int .i64 2, .int .u64 b, .string s] 24))
  have Z0 : w.heap.size ≤ (((w.alloc (.cells #[.int .i64 1, .int .i64 n, .int .u64 b, .string s] 24)).alloc (.cells #[.int .i64 k2, .int .i64 n2, .int .u64 b2, .string s2] 24)).alloc (.cells #[.int .i64 1, .int .i64 2, .int .u64 b, .string s] 24)).heap.size := by simp; omega
  clear he
  have g3 := zero_eq
  go_enter Tryd.func9, Tryd.ntmps9
  go_wp2_with fail
  refine (right_is 1 2 b s _ R.out _).mono ?_
  rintro e w1 ⟨rfl, hbn⟩
  have HE1 := Lib.hid (HE0.out.below hbn)
  have T31 := Lib.hid (T30.out.below hbn)
  have T51 := Lib.hid (T50.out.below hbn)
  have B1 := Lib.hid (B0.out.trans (hbn.mono Z0))
  have Z1 : w.heap.size ≤ w1.heap.size := Nat.le_trans Z0 hbn.size
  clear hbn HE0 B0 Z0 T30 T50
  have qT50 := T51.out.c0
  have qT51 := T51.out.c1
  have qT52 := T51.out.c2
  have qT53 := T51.out.c3
  go_wp2_with fail
  refine (show_is 1 2 b s ⟨#[]⟩ N0.out N9.out NB.out (by unfold Val.showL; rw [if_pos R.out]) _ HE1.out).mono ?_
  rintro e w2 ⟨rfl, hbn⟩
  clear qT50 qT51 qT52 qT53
  have HE2 := Lib.hid (HE1.out.below hbn)
  have T32 := Lib.hid (T31.out.below hbn)
  have T52 := Lib.hid (T51.out.below hbn)
  have B2 := Lib.hid (B1.out.trans (hbn.mono Z1))
  have Z2 : w.heap.size ≤ w2.heap.size := Nat.le_trans Z1 hbn.size
  clear hbn HE1 B1 Z1 T31 T51
  have qT50 := T52.out.c0
  have qT51 := T52.out.c1
  have qT52 := T52.out.c2
  have qT53 := T52.out.c3
  have qT30 := T32.out.c0
  have qT31 := T32.out.c1
  have qT32 := T32.out.c2
  have qT33 := T32.out.c3
  go_wp2_with fail
  refine (cmp_is 1 2 b s k2 n2 b2 s2 _ (odd_cmp1 R.out) _).mono ?_
  rintro e w3 ⟨rfl, hbn⟩
  clear qT50 qT51 qT52 qT53 qT30 qT31 qT32 qT33
  have HE3 := Lib.hid (HE2.out.below hbn)
  have T33 := Lib.hid (T32.out.below hbn)
  have T53 := Lib.hid (T52.out.below hbn)
  have B3 := Lib.hid (B2.out.trans (hbn.mono Z2))
  have Z3 : w.heap.size ≤ w3.heap.size := Nat.le_trans Z2 hbn.size
  clear hbn HE2 B2 Z2 T32 T52
  have qT30 := T33.out.c0
  have qT31 := T33.out.c1
  have qT32 := T33.out.c2
  have qT33 := T33.out.c3
  have qT50 := T53.out.c0
  have qT51 := T53.out.c1
  have qT52 := T53.out.c2
  have qT53 := T53.out.c3
  go_wp2_with fail
  refine (cmp_is k2 n2 b2 s2 1 2 b s _ (odd_cmp2 R.out) _).mono ?_
  rintro e w4 ⟨rfl, hbn⟩
  clear qT30 qT31 qT32 qT33 qT50 qT51 qT52 qT53
  have HE4 := Lib.hid (HE3.out.below hbn)
  have T34 := Lib.hid (T33.out.below hbn)
  have T54 := Lib.hid (T53.out.below hbn)
  have B4 := Lib.hid (B3.out.trans (hbn.mono Z3))
  have Z4 : w.heap.size ≤ w4.heap.size := Nat.le_trans Z3 hbn.size
  clear hbn HE3 B3 Z3 T33 T53
  have qT50 := T54.out.c0
  have qT51 := T54.out.c1
  have qT52 := T54.out.c2
  have qT53 := T54.out.c3
  go_wp2_with fail
  refine (same_is 1 2 b s 1 2 b s _ (odd_same R.out) _).mono ?_
  rintro e w5 ⟨rfl, hbn⟩
  clear qT50 qT51 qT52 qT53
  have HE5 := Lib.hid (HE4.out.below hbn)
  have T35 := Lib.hid (T34.out.below hbn)
  have T55 := Lib.hid (T54.out.below hbn)
  have B5 := Lib.hid (B4.out.trans (hbn.mono Z4))
  have Z5 : w.heap.size ≤ w5.heap.size := Nat.le_trans Z4 hbn.size
  clear hbn HE4 B4 Z4 T34 T54
  have qT50 := T55.out.c0
  have qT51 := T55.out.c1
  have qT52 := T55.out.c2
  have qT53 := T55.out.c3
  go_wp2_with fail
  refine (truth_is 1 2 b s _ (odd_truth R.out) _).mono ?_
  rintro e w6 ⟨rfl, hbn⟩
  clear qT50 qT51 qT52 qT53
  have HE6 := Lib.hid (HE5.out.below hbn)
  have T36 := Lib.hid (T35.out.below hbn)
  have T56 := Lib.hid (T55.out.below hbn)
  have B6 := Lib.hid (B5.out.trans (hbn.mono Z5))
  have Z6 : w.heap.size ≤ w6.heap.size := Nat.le_trans Z5 hbn.size
  clear hbn HE5 B5 Z5 T35 T55
  have qT50 := T56.out.c0
  have qT51 := T56.out.c1
  have qT52 := T56.out.c2
  have qT53 := T56.out.c3
  go_wp2_with fail
  refine (asf_is 1 2 b s _ (odd_asf R.out) _).mono ?_
  rintro e w7 ⟨rfl, hbn⟩
  clear qT50 qT51 qT52 qT53
  have HE7 := Lib.hid (HE6.out.below hbn)
  have T37 := Lib.hid (T36.out.below hbn)
  have T57 := Lib.hid (T56.out.below hbn)
  have B7 := Lib.hid (B6.out.trans (hbn.mono Z6))
  have Z7 : w.heap.size ≤ w7.heap.size := Nat.le_trans Z6 hbn.size
  clear hbn HE6 B6 Z6 T36 T56
  go_wp2_with fail
  refine (Rd.known_any _ HE7.out).mono ?_
  rintro e w8 ⟨rfl, hbn⟩
  have B8 := Lib.hid (B7.out.trans (hbn.mono Z7))
  clear hbn
  go_wp2_with fail
  go_ret
  exact ⟨rfl, B8.out⟩
set_option maxHeartbeats 4000000 in
set_option maxRecDepth 100000 in
theorem od_k (k : Int) (n : Int) (b : Nat) (s : ByteArray) (k2 n2 : Int) (b2 : Nat) (s2 : ByteArray) (w : World) (he : Val.Env w) (g1 : decide ((500 : Int) < s.size) = false) (g2 : decide ((500 : Int) < s2.size) = false) (hr : Val.rightB k n 1 s = false) (n0 : -9223372036854775808 ≤ (n : Int)) (n9 : (n : Int) ≤ 9223372036854775807) (nb : (1 : Nat) < 18446744073709551616) (k0 : (k == 0) = false) (k3 : (k == 3) = false) (k1 : (k == 1) = false) : Calls Tryd.prog 9 #[.agg #[.int .i64 k, .int .i64 n, .int .u64 b, .string s], .agg #[.int .i64 k2, .int .i64 n2, .int .u64 b2, .string s2]] w fun e w' => e = .returned (.bool true) ∧ Below w.heap.size w w' := by
  have R := Lib.hid hr
  have N0 := Lib.hid n0
  have N9 := Lib.hid n9
  have NB := Lib.hid nb
  clear hr n0 n9 nb
  have HE0 := Lib.hid (((he.below ((Below.refl w.heap.size w).alloc (Nat.le_refl _) (.cells #[.int .i64 k, .int .i64 n, .int .u64 b, .string s] 24))).below ((Below.refl (w.alloc (.cells #[.int .i64 k, .int .i64 n, .int .u64 b, .string s] 24)).heap.size (w.alloc (.cells #[.int .i64 k, .int .i64 n, .int .u64 b, .string s] 24))).alloc (Nat.le_refl _) (.cells #[.int .i64 k2, .int .i64 n2, .int .u64 b2, .string s2] 24))).below ((Below.refl ((w.alloc (.cells #[.int .i64 k, .int .i64 n, .int .u64 b, .string s] 24)).alloc (.cells #[.int .i64 k2, .int .i64 n2, .int .u64 b2, .string s2] 24)).heap.size ((w.alloc (.cells #[.int .i64 k, .int .i64 n, .int .u64 b, .string s] 24)).alloc (.cells #[.int .i64 k2, .int .i64 n2, .int .u64 b2, .string s2] 24))).alloc (Nat.le_refl _) (.cells #[.int .i64 k, .int .i64 n, .int .u64 1, .string s] 24)))
  have T30 := Lib.hid (show Rd.Box (((w.alloc (.cells #[.int .i64 k, .int .i64 n, .int .u64 b, .string s] 24)).alloc (.cells #[.int .i64 k2, .int .i64 n2, .int .u64 b2, .string s2] 24)).alloc (.cells #[.int .i64 k, .int .i64 n, .int .u64 1, .string s] 24)) (w.heap.size + 1) k2 n2 b2 s2 from by have h := (Rd.Box.new (w.alloc (.cells #[.int .i64 k, .int .i64 n, .int .u64 b, .string s] 24)) k2 n2 b2 s2).old (.cells #[.int .i64 k, .int .i64 n, .int .u64 1, .string s] 24); rwa [show (w.alloc (.cells #[.int .i64 k, .int .i64 n, .int .u64 b, .string s] 24)).heap.size = w.heap.size + 1 from by simp] at h)
  have T50 := Lib.hid (show Rd.Box (((w.alloc (.cells #[.int .i64 k, .int .i64 n, .int .u64 b, .string s] 24)).alloc (.cells #[.int .i64 k2, .int .i64 n2, .int .u64 b2, .string s2] 24)).alloc (.cells #[.int .i64 k, .int .i64 n, .int .u64 1, .string s] 24)) (w.heap.size + 1 + 1) k n (1 : Nat) s from by have h := Rd.Box.new ((w.alloc (.cells #[.int .i64 k, .int .i64 n, .int .u64 b, .string s] 24)).alloc (.cells #[.int .i64 k2, .int .i64 n2, .int .u64 b2, .string s2] 24)) k n (1 : Nat) s; rwa [show ((w.alloc (.cells #[.int .i64 k, .int .i64 n, .int .u64 b, .string s] 24)).alloc (.cells #[.int .i64 k2, .int .i64 n2, .int .u64 b2, .string s2] 24)).heap.size = w.heap.size + 1 + 1 from by simp] at h)
  have B0 := Lib.hid ((((Below.refl w.heap.size w).alloc (Nat.le_refl _) (.cells #[.int .i64 k, .int .i64 n, .int .u64 b, .string s] 24)).alloc (by simp) (.cells #[.int .i64 k2, .int .i64 n2, .int .u64 b2, .string s2] 24)).alloc (by simp; omega) (.cells #[.int .i64 k, .int .i64 n, .int .u64 1, .string s] 24))
  have Z0 : w.heap.size ≤ (((w.alloc (.cells #[.int .i64 k, .int .i64 n, .int .u64 b, .string s] 24)).alloc (.cells #[.int .i64 k2, .int .i64 n2, .int .u64 b2, .string s2] 24)).alloc (.cells #[.int .i64 k, .int .i64 n, .int .u64 1, .string s] 24)).heap.size := by simp; omega
  clear he
  have g3 := zero_eq
  go_enter Tryd.func9, Tryd.ntmps9
  go_wp2_with fail
  refine (right_is k n 1 s _ R.out _).mono ?_
  rintro e w1 ⟨rfl, hbn⟩
  have HE1 := Lib.hid (HE0.out.below hbn)
  have T31 := Lib.hid (T30.out.below hbn)
  have T51 := Lib.hid (T50.out.below hbn)
  have B1 := Lib.hid (B0.out.trans (hbn.mono Z0))
  have Z1 : w.heap.size ≤ w1.heap.size := Nat.le_trans Z0 hbn.size
  clear hbn HE0 B0 Z0 T30 T50
  have qT50 := T51.out.c0
  have qT51 := T51.out.c1
  have qT52 := T51.out.c2
  have qT53 := T51.out.c3
  go_wp2_with fail
  refine (show_is k n 1 s ⟨#[]⟩ N0.out N9.out NB.out (by unfold Val.showL; rw [if_pos R.out]) _ HE1.out).mono ?_
  rintro e w2 ⟨rfl, hbn⟩
  clear qT50 qT51 qT52 qT53
  have HE2 := Lib.hid (HE1.out.below hbn)
  have T32 := Lib.hid (T31.out.below hbn)
  have T52 := Lib.hid (T51.out.below hbn)
  have B2 := Lib.hid (B1.out.trans (hbn.mono Z1))
  have Z2 : w.heap.size ≤ w2.heap.size := Nat.le_trans Z1 hbn.size
  clear hbn HE1 B1 Z1 T31 T51
  have qT50 := T52.out.c0
  have qT51 := T52.out.c1
  have qT52 := T52.out.c2
  have qT53 := T52.out.c3
  have qT30 := T32.out.c0
  have qT31 := T32.out.c1
  have qT32 := T32.out.c2
  have qT33 := T32.out.c3
  go_wp2_with fail
  refine (cmp_is k n 1 s k2 n2 b2 s2 _ (odd_cmp1 R.out) _).mono ?_
  rintro e w3 ⟨rfl, hbn⟩
  clear qT50 qT51 qT52 qT53 qT30 qT31 qT32 qT33
  have HE3 := Lib.hid (HE2.out.below hbn)
  have T33 := Lib.hid (T32.out.below hbn)
  have T53 := Lib.hid (T52.out.below hbn)
  have B3 := Lib.hid (B2.out.trans (hbn.mono Z2))
  have Z3 : w.heap.size ≤ w3.heap.size := Nat.le_trans Z2 hbn.size
  clear hbn HE2 B2 Z2 T32 T52
  have qT30 := T33.out.c0
  have qT31 := T33.out.c1
  have qT32 := T33.out.c2
  have qT33 := T33.out.c3
  have qT50 := T53.out.c0
  have qT51 := T53.out.c1
  have qT52 := T53.out.c2
  have qT53 := T53.out.c3
  go_wp2_with fail
  refine (cmp_is k2 n2 b2 s2 k n 1 s _ (odd_cmp2 R.out) _).mono ?_
  rintro e w4 ⟨rfl, hbn⟩
  clear qT30 qT31 qT32 qT33 qT50 qT51 qT52 qT53
  have HE4 := Lib.hid (HE3.out.below hbn)
  have T34 := Lib.hid (T33.out.below hbn)
  have T54 := Lib.hid (T53.out.below hbn)
  have B4 := Lib.hid (B3.out.trans (hbn.mono Z3))
  have Z4 : w.heap.size ≤ w4.heap.size := Nat.le_trans Z3 hbn.size
  clear hbn HE3 B3 Z3 T33 T53
  have qT50 := T54.out.c0
  have qT51 := T54.out.c1
  have qT52 := T54.out.c2
  have qT53 := T54.out.c3
  go_wp2_with fail
  refine (same_is k n 1 s k n 1 s _ (odd_same R.out) _).mono ?_
  rintro e w5 ⟨rfl, hbn⟩
  clear qT50 qT51 qT52 qT53
  have HE5 := Lib.hid (HE4.out.below hbn)
  have T35 := Lib.hid (T34.out.below hbn)
  have T55 := Lib.hid (T54.out.below hbn)
  have B5 := Lib.hid (B4.out.trans (hbn.mono Z4))
  have Z5 : w.heap.size ≤ w5.heap.size := Nat.le_trans Z4 hbn.size
  clear hbn HE4 B4 Z4 T34 T54
  have qT50 := T55.out.c0
  have qT51 := T55.out.c1
  have qT52 := T55.out.c2
  have qT53 := T55.out.c3
  go_wp2_with fail
  refine (truth_is k n 1 s _ (odd_truth R.out) _).mono ?_
  rintro e w6 ⟨rfl, hbn⟩
  clear qT50 qT51 qT52 qT53
  have HE6 := Lib.hid (HE5.out.below hbn)
  have T36 := Lib.hid (T35.out.below hbn)
  have T56 := Lib.hid (T55.out.below hbn)
  have B6 := Lib.hid (B5.out.trans (hbn.mono Z5))
  have Z6 : w.heap.size ≤ w6.heap.size := Nat.le_trans Z5 hbn.size
  clear hbn HE5 B5 Z5 T35 T55
  have qT50 := T56.out.c0
  have qT51 := T56.out.c1
  have qT52 := T56.out.c2
  have qT53 := T56.out.c3
  go_wp2_with fail
  refine (asf_is k n 1 s _ (odd_asf R.out) _).mono ?_
  rintro e w7 ⟨rfl, hbn⟩
  clear qT50 qT51 qT52 qT53
  have HE7 := Lib.hid (HE6.out.below hbn)
  have T37 := Lib.hid (T36.out.below hbn)
  have T57 := Lib.hid (T56.out.below hbn)
  have B7 := Lib.hid (B6.out.trans (hbn.mono Z6))
  have Z7 : w.heap.size ≤ w7.heap.size := Nat.le_trans Z6 hbn.size
  clear hbn HE6 B6 Z6 T36 T56
  go_wp2_with fail
  refine (Rd.known_any _ HE7.out).mono ?_
  rintro e w8 ⟨rfl, hbn⟩
  have B8 := Lib.hid (B7.out.trans (hbn.mono Z7))
  clear hbn
  go_wp2_with fail
  go_ret
  exact ⟨rfl, B8.out⟩
theorem law_any (k n : Int) (b : Nat) (s : ByteArray) (k2 n2 : Int) (b2 : Nat) (s2 : ByteArray) (w : World) (he : Val.Env w) (n0 : -9223372036854775808 ≤ n) (n9 : n ≤ 9223372036854775807) (nb : b < 18446744073709551616) : Calls Tryd.prog 9 #[.agg #[.int .i64 k, .int .i64 n, .int .u64 b, .string s], .agg #[.int .i64 k2, .int .i64 n2, .int .u64 b2, .string s2]] w fun e w' => e = .returned (.bool true) ∧ Below w.heap.size w w' := by
  have ne : ∀ {k n b : Int} {s : ByteArray} {k' n' b' : Int} {s' : ByteArray}, ¬ (k = k' ∧ n = n' ∧ b = b' ∧ s.data.toList = s'.data.toList) → Val.eqV k n b s k' n' b' s' = false := fun h => Bool.eq_false_iff.2 (fun e => h ((Rd.eqV_iff _ _ _ _ _ _ _ _).1 e))
  by_cases g1 : (500 : Int) < s.size
  · exact od_long1 k n b s k2 n2 b2 s2 w he (decide_eq_true g1)
  · by_cases g2 : (500 : Int) < s2.size
    · exact od_long2 k n b s k2 n2 b2 s2 w he (decide_eq_false g1) (decide_eq_true g2)
    · have d1 := decide_eq_false g1
      have d2 := decide_eq_false g2
      by_cases k0 : k = 0
      · subst k0
        exact od_0 n b s k2 n2 b2 s2 w he d1 d2 (by unfold Val.rightB; rw [if_pos rfl]; exact ne (fun x => absurd x.2.1 (by decide))) (by decide) (by decide) nb
      · by_cases k3 : k = 3
        · subst k3
          exact od_3 n b s k2 n2 b2 s2 w he d1 d2 (by unfold Val.rightB; rw [if_neg (by decide), if_neg (by decide), if_neg (by decide), if_pos rfl]; exact ne (fun x => absurd x.2.1 (by decide))) (by decide) (by decide) nb
        · by_cases k1 : k = 1
          · subst k1
            exact od_1 n b s k2 n2 b2 s2 w he d1 d2 (by unfold Val.rightB; rw [if_neg (by decide), if_pos rfl, Bool.and_eq_false_iff]; exact Or.inr (by decide)) (by decide) (by decide) nb
          · refine od_k k n b s k2 n2 b2 s2 w he d1 d2 ?_ n0 n9 (by decide) (by simpa using k0) (by simpa using k3) (by simpa using k1)
            unfold Val.rightB
            rw [if_neg k0, if_neg k1]
            split
            · exact ne (fun x => absurd x.2.2.1 (by decide))
            · split
              · rw [Bool.and_eq_false_iff]; exact Or.inl (ne (fun x => absurd x.2.2.1 (by decide)))
              · rfl
set_option maxRecDepth 100000 in
theorem contract (H : Type) (enc : TypeId × Value → H) (W : World) (base : Nat) (args : Array Value) (ds gs : List (DataW H)) (before : List MemPlace)
    (hval : ∀ (j : Nat) t v, Tryd.f9.params[j]? = some t → args[j]? = some v → Value.okWide Tryd.prog W .any base t v)
    (hW : DataW.Whole enc Tryd.prog Tryd.f9.params.toList Rows.valueOddSpec.vars false W args.toList ds gs before) (hL : laidMet Tryd.prog Rows.valueOddRow.laid W) :
    Calls Tryd.prog 9 args W fun e W' => ∃ v, e = .returned v ∧ Rows.valueOddSpec.post enc Tryd.prog Tryd.f9 false true false false W args v W' := by
  have hW' := hW
  obtain ⟨p, q, hA0, hV, rfl, hfz, hnd⟩ := hW
  have hA : DataW.TrodAll enc Tryd.prog W 0 (fun _ => true) true Tryd.f9.params.toList args.toList ds p := hA0
  rw [Tryd.params9] at hA hval
  obtain ⟨v0, vs0, d0, ds0, p0, q0, hargs, rfl, rfl, h0, r0⟩ := trodAll_cons hA
  obtain ⟨v1, vs1, d1, ds1, p1, q1, rfl, rfl, rfl, h1, r1⟩ := trodAll_cons r0
  obtain ⟨rfl, rfl, rfl⟩ := trodAll_nil r1
  obtain rfl : args = #[v0, v1] := by cases args; simp_all
  obtain ⟨rfl, rfl⟩ := trodVars_none hV
  obtain ⟨vk, vn, vb, vs, rfl, rfl, rfl, wvk, wvn, wvb, wvs⟩ := Fr.open_val (hval 0 24 v0 rfl rfl) h0
  obtain ⟨uk, un, ub, us, rfl, rfl, rfl, wuk, wun, wub, wus⟩ := Fr.open_val (hval 1 24 v1 rfl rfl) h1
  clear hA0
  simp only [List.append_nil] at hW'
  have he := Fr.env_of hL
  have hb := bounds_u64 wvb
  have hn := bounds_i64 wvn
  have hb2 := bounds_u64 wub
  obtain ⟨vb, rfl⟩ := Int.eq_ofNat_of_zero_le hb.1
  obtain ⟨ub, rfl⟩ := Int.eq_ofNat_of_zero_le hb2.1
  have walk := law_any vk vn vb vs uk un ub us W he hn.1 hn.2 (by omega)
  clear hb hn hb2
  refine walk.mono fun e W' ⟨he, hg⟩ => ?_
  subst he
  exact ⟨_, rfl, Fr.post_made (pa := []) (pv := []) hW' (fun _ _ _ => trodAll_cons_mk (shut_bool Tryd.underlying4 _) trodAll_mk0) (fun _ _ => (trodAll_cons_mk (Fr.shut_val wvk wvn wvb wvs) (trodAll_cons_mk (Fr.shut_val wuk wun wub wus) trodAll_mk0))) (fun _ _ => rfl) rfl hg (ok_one (by kernel_rfl) rfl (okWide_bool_mk Tryd.underlying4 _))⟩
theorem reads (os : Os) {H : Type} (enc : TypeId × Value → H) : ∃ places, DataW.whole enc Tryd.prog ((World.doorLaid Tryd.prog 600 os).forCall (fun _ _ => 0) ⟨#[], #[.agg #[.int .i64 0, .int .i64 0, .int .u64 0, .string ⟨#[]⟩], .agg #[.int .i64 0, .int .i64 0, .int .u64 0, .string ⟨#[]⟩]], []⟩).memory Tryd.f9.params.toList Rows.valueOddSpec.vars false (#[.agg #[.int .i64 0, .int .i64 0, .int .u64 0, .string ⟨#[]⟩], .agg #[.int .i64 0, .int .i64 0, .int .u64 0, .string ⟨#[]⟩]] : Array Value).toList 8 = some ([.agg [.lit (.int .i64 0), .lit (.int .i64 0), .lit (.int .u64 0), .lit (.string [])], .agg [.lit (.int .i64 0), .lit (.int .i64 0), .lit (.int .u64 0), .lit (.string [])]], [], places) :=
  ⟨[], by kernel_rfl⟩
set_option maxRecDepth 100000 in
theorem lifted (os : Os) (started : os.Started) (H : Type) (enc : TypeId × Value → H) (F : Stop.Interp) :
    ReturnsInHanded {} Tryd.checked os 9 .any ((OpenSpec.ofChange Rows.valueOddSpec).preRow enc Tryd.prog Tryd.f9 Rows.valueOddRow.domain false Rows.valueOddRow.laid) (((OpenSpec.ofChange Rows.valueOddSpec).at F).post enc Tryd.prog Tryd.f9 false true false false) := by
  obtain ⟨places, hx⟩ := reads os enc
  refine returnsInHanded_of_row (C := Tryd.checked) (s := OpenSpec.ofChange Rows.valueOddSpec) Fr.own started (by kernel_rfl) Tryd.func9
    (witness_row_atRef (enc := enc) (C := Tryd.checked) false (World.doorLaid Tryd.prog 600 os) #[.agg #[.int .i64 0, .int .i64 0, .int .u64 0, .string ⟨#[]⟩], .agg #[.int .i64 0, .int .i64 0, .int .u64 0, .string ⟨#[]⟩]] rfl (by kernel_rfl) (by kernel_rfl) (by kernel_rfl)
      (OpenSpec.preRow_of_cond 8 hx (by kernel_rfl) (fun k hk => by cases hk) (by kernel_rfl) (Fr.door_met os _))) ?_
  intro W base args ds gs before hval hW _ _ _ hL _ _
  exact contract H enc W base args ds gs before hval hW hL
theorem said : Rows.ValueOddSaid :=
  OpenClaim.holds_of_cond 9 Tryd.f9 rfl rfl rfl rfl rfl rfl rfl ⟨rfl, rfl, rfl, rfl, rfl⟩ rfl rfl rfl rfl rfl (by kernel_rfl) Tryd.func9 (by kernel_rfl)
    (of_decide_eq_true (by kernel_rfl)) (by unfold Func.isWrapper; first | (rw [if_pos (by decide +kernel)]; kernel_rfl) | (rw [if_neg (by decide +kernel)]; exact ⟨rfl, rfl⟩))
    (fun os started H enc _ F => by rw [OpenClaim.pre_eq_preRow]; exact lifted os started H enc F)
theorem plain (f : FuncId) (fn : Func) (hf : Tryd.pinned.checked.prog.funcNamed "memoir/memoirlaw01.ValueOdd" = some f) (hfn : Tryd.pinned.checked.prog.funcs[f]? = some fn) :
    true = Tryd.pinned.checked.prog.looks [] ∧ ∀ (j : Nat) t, fn.params[j]? = some t → Tryd.pinned.checked.prog.wantsStandIn t = false := by
  obtain rfl : f = 9 := Option.some.inj ((show Tryd.prog.funcNamed "memoir/memoirlaw01.ValueOdd" = some 9 by kernel_rfl).symm.trans hf) |>.symm
  obtain rfl : fn = Tryd.f9 := (Option.some.inj (Tryd.func9.symm.trans hfn)).symm
  refine ⟨by kernel_rfl, fun j t ht => ?_⟩
  rw [Tryd.params9] at ht
  have hm := Array.mem_of_getElem? ht
  simp only [List.mem_toArray, List.mem_cons, List.not_mem_nil, or_false] at hm
  rcases hm with rfl | rfl
  all_goals exact (show Tryd.prog.wantsStandIn 24 = false by kernel_rfl)
theorem card : Rows.ValueOddCardSaid :=
  Claim7.holds_tied_plain_at .later [] _ _ _ _ said (fun _ h => by cases h) (by kernel_rfl) (fun _ h => by cases h) valueOdd_row_tie rfl ⟨rfl, rfl⟩ (by kernel_rfl) rfl plain (by kernel_rfl)
end LaValueOdd
end Go.Proofs.YtdagblpaiopfiaaDoor
