/- ValueFloats is proved: for every input the law returns true and its arguments read as they did; its listed variables are tied to the program's text. No other condition. -/
import Derived.Test.YtdagblpaiopfiaaDoorFrame
import Derived.Test.YtdagblpaiopfiaaDoorKnown
namespace Go.Proofs.YtdagblpaiopfiaaDoor
open Go.ChangeShapes Go.WideShapes Go.ChangeAt Go.RowKit
namespace LaValueFloats
theorem off (n c : Nat) (h : Flo.canon n = c) (w : World) : Calls Tryd.prog 22 #[.float .f64 n] w fun e w' => e = .returned (.agg #[.int .i64 3, .int .i64 0, .int .u64 c, .string ⟨#[]⟩]) ∧ Below w.heap.size w w' := Rd.k_off n c h w
theorem rgt (a : Nat) (h : Flo.canon a = a) (w : World) : Calls Tryd.prog 12 #[.agg #[.int .i64 3, .int .i64 0, .int .u64 a, .string ⟨#[]⟩]] w fun e w' => e = .returned (.bool true) ∧ Below w.heap.size w w' := by
  have g := Val.right_any 3 0 a ⟨#[]⟩ w
  have r : Val.rightB 3 0 a ⟨#[]⟩ = true := Rd.right3 a h
  rw [r] at g; exact g
theorem asf (a : Nat) (h : Flo.canon a = a) (w : World) : Calls Tryd.prog 23 #[.agg #[.int .i64 3, .int .i64 0, .int .u64 a, .string ⟨#[]⟩]] w fun e w' => e = .returned (.float .f64 a) ∧ Below w.heap.size w w' := by
  have g := Val.asfloat_any 3 0 a ⟨#[]⟩ w
  have r : Val.rightB 3 0 a ⟨#[]⟩ = true := Rd.right3 a h
  rw [Val.asF_right r] at g; exact g
theorem cmp (a b : Nat) (ha : Flo.canon a = a) (hb : Flo.canon b = b) (cv : Int) (h : Val.cmpF a b = cv) (w : World) : Calls Tryd.prog 13 #[.agg #[.int .i64 3, .int .i64 0, .int .u64 a, .string ⟨#[]⟩], .agg #[.int .i64 3, .int .i64 0, .int .u64 b, .string ⟨#[]⟩]] w fun e w' => e = .returned (.int .i64 cv) ∧ Below w.heap.size w w' := by
  have g := Val.compare_any 3 0 a ⟨#[]⟩ 3 0 b ⟨#[]⟩ w
  have r1 : Val.rightB 3 0 a ⟨#[]⟩ = true := Rd.right3 a ha
  have r2 : Val.rightB 3 0 b ⟨#[]⟩ = true := Rd.right3 b hb
  have e : Val.cmpV 3 0 a ⟨#[]⟩ 3 0 b ⟨#[]⟩ = cv := by
    unfold Val.cmpV
    rw [r1, r2, ← h]
    simp
  rw [e] at g; exact g
set_option maxHeartbeats 4000000 in
set_option maxRecDepth 100000 in
theorem fl_nn (x y a b : Nat) (w : World) (he : Val.Env w) (ha : Hid (Flo.canon x = a)) (hb : Hid (Flo.canon y = b)) (cv : Int) (hcv : Hid (Val.cmpF a b = cv)) (o1 : (FloatKind.f64.format.order x x != some Ordering.eq) = true) (o2 : (FloatKind.f64.format.order a a != some Ordering.eq) = true) (o3 : (FloatKind.f64.format.order y y == some Ordering.eq) = false) (o4 : (FloatKind.f64.format.order y y != some Ordering.eq) = true) (hcvv : cv = 0) : Calls Tryd.prog 7 #[.int .u64 x, .int .u64 y] w fun e w' => e = .returned (.bool true) ∧ Below w.heap.size w w' := by
  have haa : Flo.canon a = a := by rw [← ha.out, Flo.canon_canon]
  have hbb : Flo.canon b = b := by rw [← hb.out, Flo.canon_canon]
  have HA := Lib.hid haa
  have HB := Lib.hid hbb
  have HE := Lib.hid he
  clear haa hbb he
  obtain rfl : cv = 0 := hcvv
  go_enter Tryd.func7, Tryd.ntmps7
  go_wp2_with fail
  refine (off x a ha.out _).mono ?_
  rintro e w1 ⟨rfl, hb1⟩
  have HE1 := Lib.hid (HE.out.below hb1)
  have T7 := Lib.hid (Rd.Box.new w1 3 0 a ⟨#[]⟩)
  have B1 := Lib.hid hb1
  have Z1 : w.heap.size ≤ w1.heap.size := hb1.size
  clear hb1
  go_wp2_with fail
  refine (off y b hb.out _).mono ?_
  rintro e w2 ⟨rfl, hb2⟩
  have HE2 := Lib.hid (((HE1.out.below ((Below.refl w1.heap.size w1).alloc (Nat.le_refl _) (.cells #[.int .i64 3, .int .i64 0, .int .u64 a, .string ⟨#[]⟩] 24))).below hb2).below ((Below.refl w2.heap.size w2).alloc (Nat.le_refl _) (.cells #[.int .i64 3, .int .i64 0, .int .u64 b, .string ⟨#[]⟩] 24)))
  have S7 := Lib.hid ((T7.out.below hb2).old (.cells #[.int .i64 3, .int .i64 0, .int .u64 b, .string ⟨#[]⟩] 24))
  have S8 := Lib.hid (Rd.Box.new w2 3 0 b ⟨#[]⟩)
  have B2 := Lib.hid (((B1.out.alloc (by omega) _).trans (hb2.mono (by simp; omega))).alloc (by have := hb2.size; simp at this; omega) (.cells #[.int .i64 3, .int .i64 0, .int .u64 b, .string ⟨#[]⟩] 24))
  have Z2 : w.heap.size ≤ (w2.alloc (.cells #[.int .i64 3, .int .i64 0, .int .u64 b, .string ⟨#[]⟩] 24)).heap.size := by have := hb2.size; simp at this ⊢; omega
  clear hb2 B1 Z1 HE1 T7
  have qS70 := S7.out.c0
  have qS71 := S7.out.c1
  have qS72 := S7.out.c2
  have qS73 := S7.out.c3
  go_wp2_with fail
  refine (rgt a HA.out _).mono ?_
  rintro e w3 ⟨rfl, hbn⟩
  clear qS70 qS71 qS72 qS73
  have HE3 := Lib.hid (HE2.out.below hbn)
  have S73 := Lib.hid (S7.out.below hbn)
  have S83 := Lib.hid (S8.out.below hbn)
  have B3 := Lib.hid (B2.out.trans (hbn.mono Z2))
  have Z3 : w.heap.size ≤ w3.heap.size := Nat.le_trans Z2 hbn.size
  clear hbn HE2 S7 S8 B2 Z2
  have qS80 := S83.out.c0
  have qS81 := S83.out.c1
  have qS82 := S83.out.c2
  have qS83 := S83.out.c3
  go_wp2_with fail
  refine (rgt b HB.out _).mono ?_
  rintro e w4 ⟨rfl, hbn⟩
  clear qS80 qS81 qS82 qS83
  have HE4 := Lib.hid (HE3.out.below hbn)
  have S74 := Lib.hid (S73.out.below hbn)
  have S84 := Lib.hid (S83.out.below hbn)
  have B4 := Lib.hid (B3.out.trans (hbn.mono Z3))
  have Z4 : w.heap.size ≤ w4.heap.size := Nat.le_trans Z3 hbn.size
  clear hbn HE3 S73 S83 B3 Z3
  have qS70 := S74.out.c0
  have qS71 := S74.out.c1
  have qS72 := S74.out.c2
  have qS73 := S74.out.c3
  have qS80 := S84.out.c0
  have qS81 := S84.out.c1
  have qS82 := S84.out.c2
  have qS83 := S84.out.c3
  go_wp2_with fail
  refine (cmp a b HA.out HB.out _ hcv.out _).mono ?_
  rintro e w5 ⟨rfl, hbn⟩
  clear qS70 qS71 qS72 qS73 qS80 qS81 qS82 qS83
  have HE5 := Lib.hid (HE4.out.below hbn)
  have S75 := Lib.hid (S74.out.below hbn)
  have S85 := Lib.hid (S84.out.below hbn)
  have B5 := Lib.hid (B4.out.trans (hbn.mono Z4))
  have Z5 : w.heap.size ≤ w5.heap.size := Nat.le_trans Z4 hbn.size
  clear hbn HE4 S74 S84 B4 Z4
  have qS70 := S75.out.c0
  have qS71 := S75.out.c1
  have qS72 := S75.out.c2
  have qS73 := S75.out.c3
  go_wp2_with fail
  refine (asf a HA.out _).mono ?_
  rintro e w6 ⟨rfl, hbn⟩
  clear qS70 qS71 qS72 qS73
  have HE6 := Lib.hid (HE5.out.below hbn)
  have S76 := Lib.hid (S75.out.below hbn)
  have S86 := Lib.hid (S85.out.below hbn)
  have B6 := Lib.hid (B5.out.trans (hbn.mono Z5))
  have Z6 : w.heap.size ≤ w6.heap.size := Nat.le_trans Z5 hbn.size
  clear hbn HE5 S75 S85 B5 Z5
  have qS70 := S76.out.c0
  have qS71 := S76.out.c1
  have qS72 := S76.out.c2
  have qS73 := S76.out.c3
  go_wp2_with fail
  refine (Rd.known_any _ HE6.out).mono ?_
  rintro e w7 ⟨rfl, hbn⟩
  have B7 := Lib.hid (B6.out.trans (hbn.mono Z6))
  clear hbn
  go_wp2_with fail
  go_ret
  exact ⟨rfl, B7.out⟩
set_option maxHeartbeats 4000000 in
set_option maxRecDepth 100000 in
theorem fl_nf (x y a b : Nat) (w : World) (he : Val.Env w) (ha : Hid (Flo.canon x = a)) (hb : Hid (Flo.canon y = b)) (cv : Int) (hcv : Hid (Val.cmpF a b = cv)) (o1 : (FloatKind.f64.format.order x x != some Ordering.eq) = true) (o2 : (FloatKind.f64.format.order a a != some Ordering.eq) = true) (o3 : (FloatKind.f64.format.order y y == some Ordering.eq) = true) (o4 : (FloatKind.f64.format.order y y != some Ordering.eq) = false) (hcvv : cv = 1) : Calls Tryd.prog 7 #[.int .u64 x, .int .u64 y] w fun e w' => e = .returned (.bool true) ∧ Below w.heap.size w w' := by
  have haa : Flo.canon a = a := by rw [← ha.out, Flo.canon_canon]
  have hbb : Flo.canon b = b := by rw [← hb.out, Flo.canon_canon]
  have HA := Lib.hid haa
  have HB := Lib.hid hbb
  have HE := Lib.hid he
  clear haa hbb he
  obtain rfl : cv = 1 := hcvv
  go_enter Tryd.func7, Tryd.ntmps7
  go_wp2_with fail
  refine (off x a ha.out _).mono ?_
  rintro e w1 ⟨rfl, hb1⟩
  have HE1 := Lib.hid (HE.out.below hb1)
  have T7 := Lib.hid (Rd.Box.new w1 3 0 a ⟨#[]⟩)
  have B1 := Lib.hid hb1
  have Z1 : w.heap.size ≤ w1.heap.size := hb1.size
  clear hb1
  go_wp2_with fail
  refine (off y b hb.out _).mono ?_
  rintro e w2 ⟨rfl, hb2⟩
  have HE2 := Lib.hid (((HE1.out.below ((Below.refl w1.heap.size w1).alloc (Nat.le_refl _) (.cells #[.int .i64 3, .int .i64 0, .int .u64 a, .string ⟨#[]⟩] 24))).below hb2).below ((Below.refl w2.heap.size w2).alloc (Nat.le_refl _) (.cells #[.int .i64 3, .int .i64 0, .int .u64 b, .string ⟨#[]⟩] 24)))
  have S7 := Lib.hid ((T7.out.below hb2).old (.cells #[.int .i64 3, .int .i64 0, .int .u64 b, .string ⟨#[]⟩] 24))
  have S8 := Lib.hid (Rd.Box.new w2 3 0 b ⟨#[]⟩)
  have B2 := Lib.hid (((B1.out.alloc (by omega) _).trans (hb2.mono (by simp; omega))).alloc (by have := hb2.size; simp at this; omega) (.cells #[.int .i64 3, .int .i64 0, .int .u64 b, .string ⟨#[]⟩] 24))
  have Z2 : w.heap.size ≤ (w2.alloc (.cells #[.int .i64 3, .int .i64 0, .int .u64 b, .string ⟨#[]⟩] 24)).heap.size := by have := hb2.size; simp at this ⊢; omega
  clear hb2 B1 Z1 HE1 T7
  have qS70 := S7.out.c0
  have qS71 := S7.out.c1
  have qS72 := S7.out.c2
  have qS73 := S7.out.c3
  go_wp2_with fail
  refine (rgt a HA.out _).mono ?_
  rintro e w3 ⟨rfl, hbn⟩
  clear qS70 qS71 qS72 qS73
  have HE3 := Lib.hid (HE2.out.below hbn)
  have S73 := Lib.hid (S7.out.below hbn)
  have S83 := Lib.hid (S8.out.below hbn)
  have B3 := Lib.hid (B2.out.trans (hbn.mono Z2))
  have Z3 : w.heap.size ≤ w3.heap.size := Nat.le_trans Z2 hbn.size
  clear hbn HE2 S7 S8 B2 Z2
  have qS80 := S83.out.c0
  have qS81 := S83.out.c1
  have qS82 := S83.out.c2
  have qS83 := S83.out.c3
  go_wp2_with fail
  refine (rgt b HB.out _).mono ?_
  rintro e w4 ⟨rfl, hbn⟩
  clear qS80 qS81 qS82 qS83
  have HE4 := Lib.hid (HE3.out.below hbn)
  have S74 := Lib.hid (S73.out.below hbn)
  have S84 := Lib.hid (S83.out.below hbn)
  have B4 := Lib.hid (B3.out.trans (hbn.mono Z3))
  have Z4 : w.heap.size ≤ w4.heap.size := Nat.le_trans Z3 hbn.size
  clear hbn HE3 S73 S83 B3 Z3
  have qS70 := S74.out.c0
  have qS71 := S74.out.c1
  have qS72 := S74.out.c2
  have qS73 := S74.out.c3
  have qS80 := S84.out.c0
  have qS81 := S84.out.c1
  have qS82 := S84.out.c2
  have qS83 := S84.out.c3
  go_wp2_with fail
  refine (cmp a b HA.out HB.out _ hcv.out _).mono ?_
  rintro e w5 ⟨rfl, hbn⟩
  clear qS70 qS71 qS72 qS73 qS80 qS81 qS82 qS83
  have HE5 := Lib.hid (HE4.out.below hbn)
  have S75 := Lib.hid (S74.out.below hbn)
  have S85 := Lib.hid (S84.out.below hbn)
  have B5 := Lib.hid (B4.out.trans (hbn.mono Z4))
  have Z5 : w.heap.size ≤ w5.heap.size := Nat.le_trans Z4 hbn.size
  clear hbn HE4 S74 S84 B4 Z4
  have qS70 := S75.out.c0
  have qS71 := S75.out.c1
  have qS72 := S75.out.c2
  have qS73 := S75.out.c3
  go_wp2_with fail
  refine (asf a HA.out _).mono ?_
  rintro e w6 ⟨rfl, hbn⟩
  clear qS70 qS71 qS72 qS73
  have HE6 := Lib.hid (HE5.out.below hbn)
  have S76 := Lib.hid (S75.out.below hbn)
  have S86 := Lib.hid (S85.out.below hbn)
  have B6 := Lib.hid (B5.out.trans (hbn.mono Z5))
  have Z6 : w.heap.size ≤ w6.heap.size := Nat.le_trans Z5 hbn.size
  clear hbn HE5 S75 S85 B5 Z5
  have qS70 := S76.out.c0
  have qS71 := S76.out.c1
  have qS72 := S76.out.c2
  have qS73 := S76.out.c3
  go_wp2_with fail
  refine (Rd.known_any _ HE6.out).mono ?_
  rintro e w7 ⟨rfl, hbn⟩
  have B7 := Lib.hid (B6.out.trans (hbn.mono Z6))
  clear hbn
  go_wp2_with fail
  go_ret
  exact ⟨rfl, B7.out⟩
set_option maxHeartbeats 4000000 in
set_option maxRecDepth 100000 in
theorem fl_fn (x y a b : Nat) (w : World) (he : Val.Env w) (ha : Hid (Flo.canon x = a)) (hb : Hid (Flo.canon y = b)) (cv : Int) (hcv : Hid (Val.cmpF a b = cv)) (o1 : (FloatKind.f64.format.order x x != some Ordering.eq) = false) (o2 : (FloatKind.f64.format.order a x != some Ordering.eq) = false) (o3 : (FloatKind.f64.format.order y y != some Ordering.eq) = true) (o4 : (FloatKind.f64.format.order a x == some Ordering.eq) = true) (hcvv : cv = -1) : Calls Tryd.prog 7 #[.int .u64 x, .int .u64 y] w fun e w' => e = .returned (.bool true) ∧ Below w.heap.size w w' := by
  have haa : Flo.canon a = a := by rw [← ha.out, Flo.canon_canon]
  have hbb : Flo.canon b = b := by rw [← hb.out, Flo.canon_canon]
  have HA := Lib.hid haa
  have HB := Lib.hid hbb
  have HE := Lib.hid he
  clear haa hbb he
  obtain rfl : cv = -1 := hcvv
  go_enter Tryd.func7, Tryd.ntmps7
  go_wp2_with fail
  refine (off x a ha.out _).mono ?_
  rintro e w1 ⟨rfl, hb1⟩
  have HE1 := Lib.hid (HE.out.below hb1)
  have T7 := Lib.hid (Rd.Box.new w1 3 0 a ⟨#[]⟩)
  have B1 := Lib.hid hb1
  have Z1 : w.heap.size ≤ w1.heap.size := hb1.size
  clear hb1
  go_wp2_with fail
  refine (off y b hb.out _).mono ?_
  rintro e w2 ⟨rfl, hb2⟩
  have HE2 := Lib.hid (((HE1.out.below ((Below.refl w1.heap.size w1).alloc (Nat.le_refl _) (.cells #[.int .i64 3, .int .i64 0, .int .u64 a, .string ⟨#[]⟩] 24))).below hb2).below ((Below.refl w2.heap.size w2).alloc (Nat.le_refl _) (.cells #[.int .i64 3, .int .i64 0, .int .u64 b, .string ⟨#[]⟩] 24)))
  have S7 := Lib.hid ((T7.out.below hb2).old (.cells #[.int .i64 3, .int .i64 0, .int .u64 b, .string ⟨#[]⟩] 24))
  have S8 := Lib.hid (Rd.Box.new w2 3 0 b ⟨#[]⟩)
  have B2 := Lib.hid (((B1.out.alloc (by omega) _).trans (hb2.mono (by simp; omega))).alloc (by have := hb2.size; simp at this; omega) (.cells #[.int .i64 3, .int .i64 0, .int .u64 b, .string ⟨#[]⟩] 24))
  have Z2 : w.heap.size ≤ (w2.alloc (.cells #[.int .i64 3, .int .i64 0, .int .u64 b, .string ⟨#[]⟩] 24)).heap.size := by have := hb2.size; simp at this ⊢; omega
  clear hb2 B1 Z1 HE1 T7
  have qS70 := S7.out.c0
  have qS71 := S7.out.c1
  have qS72 := S7.out.c2
  have qS73 := S7.out.c3
  go_wp2_with fail
  refine (rgt a HA.out _).mono ?_
  rintro e w3 ⟨rfl, hbn⟩
  clear qS70 qS71 qS72 qS73
  have HE3 := Lib.hid (HE2.out.below hbn)
  have S73 := Lib.hid (S7.out.below hbn)
  have S83 := Lib.hid (S8.out.below hbn)
  have B3 := Lib.hid (B2.out.trans (hbn.mono Z2))
  have Z3 : w.heap.size ≤ w3.heap.size := Nat.le_trans Z2 hbn.size
  clear hbn HE2 S7 S8 B2 Z2
  have qS80 := S83.out.c0
  have qS81 := S83.out.c1
  have qS82 := S83.out.c2
  have qS83 := S83.out.c3
  go_wp2_with fail
  refine (rgt b HB.out _).mono ?_
  rintro e w4 ⟨rfl, hbn⟩
  clear qS80 qS81 qS82 qS83
  have HE4 := Lib.hid (HE3.out.below hbn)
  have S74 := Lib.hid (S73.out.below hbn)
  have S84 := Lib.hid (S83.out.below hbn)
  have B4 := Lib.hid (B3.out.trans (hbn.mono Z3))
  have Z4 : w.heap.size ≤ w4.heap.size := Nat.le_trans Z3 hbn.size
  clear hbn HE3 S73 S83 B3 Z3
  have qS70 := S74.out.c0
  have qS71 := S74.out.c1
  have qS72 := S74.out.c2
  have qS73 := S74.out.c3
  have qS80 := S84.out.c0
  have qS81 := S84.out.c1
  have qS82 := S84.out.c2
  have qS83 := S84.out.c3
  go_wp2_with fail
  refine (cmp a b HA.out HB.out _ hcv.out _).mono ?_
  rintro e w5 ⟨rfl, hbn⟩
  clear qS70 qS71 qS72 qS73 qS80 qS81 qS82 qS83
  have HE5 := Lib.hid (HE4.out.below hbn)
  have S75 := Lib.hid (S74.out.below hbn)
  have S85 := Lib.hid (S84.out.below hbn)
  have B5 := Lib.hid (B4.out.trans (hbn.mono Z4))
  have Z5 : w.heap.size ≤ w5.heap.size := Nat.le_trans Z4 hbn.size
  clear hbn HE4 S74 S84 B4 Z4
  have qS70 := S75.out.c0
  have qS71 := S75.out.c1
  have qS72 := S75.out.c2
  have qS73 := S75.out.c3
  go_wp2_with fail
  refine (asf a HA.out _).mono ?_
  rintro e w6 ⟨rfl, hbn⟩
  clear qS70 qS71 qS72 qS73
  have HE6 := Lib.hid (HE5.out.below hbn)
  have S76 := Lib.hid (S75.out.below hbn)
  have S86 := Lib.hid (S85.out.below hbn)
  have B6 := Lib.hid (B5.out.trans (hbn.mono Z5))
  have Z6 : w.heap.size ≤ w6.heap.size := Nat.le_trans Z5 hbn.size
  clear hbn HE5 S75 S85 B5 Z5
  have qS70 := S76.out.c0
  have qS71 := S76.out.c1
  have qS72 := S76.out.c2
  have qS73 := S76.out.c3
  go_wp2_with fail
  refine (Rd.known_any _ HE6.out).mono ?_
  rintro e w7 ⟨rfl, hbn⟩
  have B7 := Lib.hid (B6.out.trans (hbn.mono Z6))
  clear hbn
  go_wp2_with fail
  go_ret
  exact ⟨rfl, B7.out⟩
set_option maxHeartbeats 4000000 in
set_option maxRecDepth 100000 in
theorem fl_lt_n (x y a b : Nat) (w : World) (he : Val.Env w) (ha : Hid (Flo.canon x = a)) (hb : Hid (Flo.canon y = b)) (cv : Int) (hcv : Hid (Val.cmpF a b = cv)) (o1 : (FloatKind.f64.format.order x x != some Ordering.eq) = false) (o2 : (FloatKind.f64.format.order a x != some Ordering.eq) = false) (o3 : (FloatKind.f64.format.order y y != some Ordering.eq) = false) (o4 : (FloatKind.f64.format.order x y == some Ordering.lt) = true) (o5 : (FloatKind.f64.format.order x y == some Ordering.eq) = false) (o6 : (FloatKind.f64.format.order x 0 != some Ordering.eq) = true) (hcvv : cv = -1) : Calls Tryd.prog 7 #[.int .u64 x, .int .u64 y] w fun e w' => e = .returned (.bool true) ∧ Below w.heap.size w w' := by
  have haa : Flo.canon a = a := by rw [← ha.out, Flo.canon_canon]
  have hbb : Flo.canon b = b := by rw [← hb.out, Flo.canon_canon]
  have HA := Lib.hid haa
  have HB := Lib.hid hbb
  have HE := Lib.hid he
  clear haa hbb he
  obtain rfl : cv = -1 := hcvv
  go_enter Tryd.func7, Tryd.ntmps7
  go_wp2_with fail
  refine (off x a ha.out _).mono ?_
  rintro e w1 ⟨rfl, hb1⟩
  have HE1 := Lib.hid (HE.out.below hb1)
  have T7 := Lib.hid (Rd.Box.new w1 3 0 a ⟨#[]⟩)
  have B1 := Lib.hid hb1
  have Z1 : w.heap.size ≤ w1.heap.size := hb1.size
  clear hb1
  go_wp2_with fail
  refine (off y b hb.out _).mono ?_
  rintro e w2 ⟨rfl, hb2⟩
  have HE2 := Lib.hid (((HE1.out.below ((Below.refl w1.heap.size w1).alloc (Nat.le_refl _) (.cells #[.int .i64 3, .int .i64 0, .int .u64 a, .string ⟨#[]⟩] 24))).below hb2).below ((Below.refl w2.heap.size w2).alloc (Nat.le_refl _) (.cells #[.int .i64 3, .int .i64 0, .int .u64 b, .string ⟨#[]⟩] 24)))
  have S7 := Lib.hid ((T7.out.below hb2).old (.cells #[.int .i64 3, .int .i64 0, .int .u64 b, .string ⟨#[]⟩] 24))
  have S8 := Lib.hid (Rd.Box.new w2 3 0 b ⟨#[]⟩)
  have B2 := Lib.hid (((B1.out.alloc (by omega) _).trans (hb2.mono (by simp; omega))).alloc (by have := hb2.size; simp at this; omega) (.cells #[.int .i64 3, .int .i64 0, .int .u64 b, .string ⟨#[]⟩] 24))
  have Z2 : w.heap.size ≤ (w2.alloc (.cells #[.int .i64 3, .int .i64 0, .int .u64 b, .string ⟨#[]⟩] 24)).heap.size := by have := hb2.size; simp at this ⊢; omega
  clear hb2 B1 Z1 HE1 T7
  have qS70 := S7.out.c0
  have qS71 := S7.out.c1
  have qS72 := S7.out.c2
  have qS73 := S7.out.c3
  go_wp2_with fail
  refine (rgt a HA.out _).mono ?_
  rintro e w3 ⟨rfl, hbn⟩
  clear qS70 qS71 qS72 qS73
  have HE3 := Lib.hid (HE2.out.below hbn)
  have S73 := Lib.hid (S7.out.below hbn)
  have S83 := Lib.hid (S8.out.below hbn)
  have B3 := Lib.hid (B2.out.trans (hbn.mono Z2))
  have Z3 : w.heap.size ≤ w3.heap.size := Nat.le_trans Z2 hbn.size
  clear hbn HE2 S7 S8 B2 Z2
  have qS80 := S83.out.c0
  have qS81 := S83.out.c1
  have qS82 := S83.out.c2
  have qS83 := S83.out.c3
  go_wp2_with fail
  refine (rgt b HB.out _).mono ?_
  rintro e w4 ⟨rfl, hbn⟩
  clear qS80 qS81 qS82 qS83
  have HE4 := Lib.hid (HE3.out.below hbn)
  have S74 := Lib.hid (S73.out.below hbn)
  have S84 := Lib.hid (S83.out.below hbn)
  have B4 := Lib.hid (B3.out.trans (hbn.mono Z3))
  have Z4 : w.heap.size ≤ w4.heap.size := Nat.le_trans Z3 hbn.size
  clear hbn HE3 S73 S83 B3 Z3
  have qS70 := S74.out.c0
  have qS71 := S74.out.c1
  have qS72 := S74.out.c2
  have qS73 := S74.out.c3
  have qS80 := S84.out.c0
  have qS81 := S84.out.c1
  have qS82 := S84.out.c2
  have qS83 := S84.out.c3
  go_wp2_with fail
  refine (cmp a b HA.out HB.out _ hcv.out _).mono ?_
  rintro e w5 ⟨rfl, hbn⟩
  clear qS70 qS71 qS72 qS73 qS80 qS81 qS82 qS83
  have HE5 := Lib.hid (HE4.out.below hbn)
  have S75 := Lib.hid (S74.out.below hbn)
  have S85 := Lib.hid (S84.out.below hbn)
  have B5 := Lib.hid (B4.out.trans (hbn.mono Z4))
  have Z5 : w.heap.size ≤ w5.heap.size := Nat.le_trans Z4 hbn.size
  clear hbn HE4 S74 S84 B4 Z4
  have qS70 := S75.out.c0
  have qS71 := S75.out.c1
  have qS72 := S75.out.c2
  have qS73 := S75.out.c3
  go_wp2_with fail
  refine (asf a HA.out _).mono ?_
  rintro e w6 ⟨rfl, hbn⟩
  clear qS70 qS71 qS72 qS73
  have HE6 := Lib.hid (HE5.out.below hbn)
  have S76 := Lib.hid (S75.out.below hbn)
  have S86 := Lib.hid (S85.out.below hbn)
  have B6 := Lib.hid (B5.out.trans (hbn.mono Z5))
  have Z6 : w.heap.size ≤ w6.heap.size := Nat.le_trans Z5 hbn.size
  clear hbn HE5 S75 S85 B5 Z5
  have qS70 := S76.out.c0
  have qS71 := S76.out.c1
  have qS72 := S76.out.c2
  have qS73 := S76.out.c3
  go_wp2_with fail
  refine (Rd.known_any _ HE6.out).mono ?_
  rintro e w7 ⟨rfl, hbn⟩
  have B7 := Lib.hid (B6.out.trans (hbn.mono Z6))
  clear hbn
  go_wp2_with fail
  go_ret
  exact ⟨rfl, B7.out⟩
set_option maxHeartbeats 4000000 in
set_option maxRecDepth 100000 in
theorem fl_lt_z (x y a b : Nat) (w : World) (he : Val.Env w) (ha : Hid (Flo.canon x = a)) (hb : Hid (Flo.canon y = b)) (cv : Int) (hcv : Hid (Val.cmpF a b = cv)) (o1 : (FloatKind.f64.format.order x x != some Ordering.eq) = false) (o2 : (FloatKind.f64.format.order a x != some Ordering.eq) = false) (o3 : (FloatKind.f64.format.order y y != some Ordering.eq) = false) (o4 : (FloatKind.f64.format.order x y == some Ordering.lt) = true) (o5 : (FloatKind.f64.format.order x y == some Ordering.eq) = false) (o6 : (FloatKind.f64.format.order x 0 != some Ordering.eq) = false) (haz : ((a : Int) == 0) = true) (hcvv : cv = -1) : Calls Tryd.prog 7 #[.int .u64 x, .int .u64 y] w fun e w' => e = .returned (.bool true) ∧ Below w.heap.size w w' := by
  have haa : Flo.canon a = a := by rw [← ha.out, Flo.canon_canon]
  have hbb : Flo.canon b = b := by rw [← hb.out, Flo.canon_canon]
  have HA := Lib.hid haa
  have HB := Lib.hid hbb
  have HE := Lib.hid he
  clear haa hbb he
  obtain rfl : cv = -1 := hcvv
  go_enter Tryd.func7, Tryd.ntmps7
  go_wp2_with fail
  refine (off x a ha.out _).mono ?_
  rintro e w1 ⟨rfl, hb1⟩
  have HE1 := Lib.hid (HE.out.below hb1)
  have T7 := Lib.hid (Rd.Box.new w1 3 0 a ⟨#[]⟩)
  have B1 := Lib.hid hb1
  have Z1 : w.heap.size ≤ w1.heap.size := hb1.size
  clear hb1
  go_wp2_with fail
  refine (off y b hb.out _).mono ?_
  rintro e w2 ⟨rfl, hb2⟩
  have HE2 := Lib.hid (((HE1.out.below ((Below.refl w1.heap.size w1).alloc (Nat.le_refl _) (.cells #[.int .i64 3, .int .i64 0, .int .u64 a, .string ⟨#[]⟩] 24))).below hb2).below ((Below.refl w2.heap.size w2).alloc (Nat.le_refl _) (.cells #[.int .i64 3, .int .i64 0, .int .u64 b, .string ⟨#[]⟩] 24)))
  have S7 := Lib.hid ((T7.out.below hb2).old (.cells #[.int .i64 3, .int .i64 0, .int .u64 b, .string ⟨#[]⟩] 24))
  have S8 := Lib.hid (Rd.Box.new w2 3 0 b ⟨#[]⟩)
  have B2 := Lib.hid (((B1.out.alloc (by omega) _).trans (hb2.mono (by simp; omega))).alloc (by have := hb2.size; simp at this; omega) (.cells #[.int .i64 3, .int .i64 0, .int .u64 b, .string ⟨#[]⟩] 24))
  have Z2 : w.heap.size ≤ (w2.alloc (.cells #[.int .i64 3, .int .i64 0, .int .u64 b, .string ⟨#[]⟩] 24)).heap.size := by have := hb2.size; simp at this ⊢; omega
  clear hb2 B1 Z1 HE1 T7
  have qS70 := S7.out.c0
  have qS71 := S7.out.c1
  have qS72 := S7.out.c2
  have qS73 := S7.out.c3
  go_wp2_with fail
  refine (rgt a HA.out _).mono ?_
  rintro e w3 ⟨rfl, hbn⟩
  clear qS70 qS71 qS72 qS73
  have HE3 := Lib.hid (HE2.out.below hbn)
  have S73 := Lib.hid (S7.out.below hbn)
  have S83 := Lib.hid (S8.out.below hbn)
  have B3 := Lib.hid (B2.out.trans (hbn.mono Z2))
  have Z3 : w.heap.size ≤ w3.heap.size := Nat.le_trans Z2 hbn.size
  clear hbn HE2 S7 S8 B2 Z2
  have qS80 := S83.out.c0
  have qS81 := S83.out.c1
  have qS82 := S83.out.c2
  have qS83 := S83.out.c3
  go_wp2_with fail
  refine (rgt b HB.out _).mono ?_
  rintro e w4 ⟨rfl, hbn⟩
  clear qS80 qS81 qS82 qS83
  have HE4 := Lib.hid (HE3.out.below hbn)
  have S74 := Lib.hid (S73.out.below hbn)
  have S84 := Lib.hid (S83.out.below hbn)
  have B4 := Lib.hid (B3.out.trans (hbn.mono Z3))
  have Z4 : w.heap.size ≤ w4.heap.size := Nat.le_trans Z3 hbn.size
  clear hbn HE3 S73 S83 B3 Z3
  have qS70 := S74.out.c0
  have qS71 := S74.out.c1
  have qS72 := S74.out.c2
  have qS73 := S74.out.c3
  have qS80 := S84.out.c0
  have qS81 := S84.out.c1
  have qS82 := S84.out.c2
  have qS83 := S84.out.c3
  go_wp2_with fail
  refine (cmp a b HA.out HB.out _ hcv.out _).mono ?_
  rintro e w5 ⟨rfl, hbn⟩
  clear qS70 qS71 qS72 qS73 qS80 qS81 qS82 qS83
  have HE5 := Lib.hid (HE4.out.below hbn)
  have S75 := Lib.hid (S74.out.below hbn)
  have S85 := Lib.hid (S84.out.below hbn)
  have B5 := Lib.hid (B4.out.trans (hbn.mono Z4))
  have Z5 : w.heap.size ≤ w5.heap.size := Nat.le_trans Z4 hbn.size
  clear hbn HE4 S74 S84 B4 Z4
  have qS70 := S75.out.c0
  have qS71 := S75.out.c1
  have qS72 := S75.out.c2
  have qS73 := S75.out.c3
  go_wp2_with fail
  refine (asf a HA.out _).mono ?_
  rintro e w6 ⟨rfl, hbn⟩
  clear qS70 qS71 qS72 qS73
  have HE6 := Lib.hid (HE5.out.below hbn)
  have S76 := Lib.hid (S75.out.below hbn)
  have S86 := Lib.hid (S85.out.below hbn)
  have B6 := Lib.hid (B5.out.trans (hbn.mono Z5))
  have Z6 : w.heap.size ≤ w6.heap.size := Nat.le_trans Z5 hbn.size
  clear hbn HE5 S75 S85 B5 Z5
  have qS70 := S76.out.c0
  have qS71 := S76.out.c1
  have qS72 := S76.out.c2
  have qS73 := S76.out.c3
  go_wp2_with fail
  refine (Rd.known_any _ HE6.out).mono ?_
  rintro e w7 ⟨rfl, hbn⟩
  have B7 := Lib.hid (B6.out.trans (hbn.mono Z6))
  clear hbn
  go_wp2_with fail
  go_ret
  exact ⟨rfl, B7.out⟩
set_option maxHeartbeats 4000000 in
set_option maxRecDepth 100000 in
theorem fl_eq_n (x y a b : Nat) (w : World) (he : Val.Env w) (ha : Hid (Flo.canon x = a)) (hb : Hid (Flo.canon y = b)) (cv : Int) (hcv : Hid (Val.cmpF a b = cv)) (o1 : (FloatKind.f64.format.order x x != some Ordering.eq) = false) (o2 : (FloatKind.f64.format.order a x != some Ordering.eq) = false) (o3 : (FloatKind.f64.format.order y y != some Ordering.eq) = false) (o4 : (FloatKind.f64.format.order x y == some Ordering.lt) = false) (o5 : (FloatKind.f64.format.order x y == some Ordering.eq) = true) (o6 : (FloatKind.f64.format.order x 0 != some Ordering.eq) = true) (hcvv : cv = 0) : Calls Tryd.prog 7 #[.int .u64 x, .int .u64 y] w fun e w' => e = .returned (.bool true) ∧ Below w.heap.size w w' := by
  have haa : Flo.canon a = a := by rw [← ha.out, Flo.canon_canon]
  have hbb : Flo.canon b = b := by rw [← hb.out, Flo.canon_canon]
  have HA := Lib.hid haa
  have HB := Lib.hid hbb
  have HE := Lib.hid he
  clear haa hbb he
  obtain rfl : cv = 0 := hcvv
  go_enter Tryd.func7, Tryd.ntmps7
  go_wp2_with fail
  refine (off x a ha.out _).mono ?_
  rintro e w1 ⟨rfl, hb1⟩
  have HE1 := Lib.hid (HE.out.below hb1)
  have T7 := Lib.hid (Rd.Box.new w1 3 0 a ⟨#[]⟩)
  have B1 := Lib.hid hb1
  have Z1 : w.heap.size ≤ w1.heap.size := hb1.size
  clear hb1
  go_wp2_with fail
  refine (off y b hb.out _).mono ?_
  rintro e w2 ⟨rfl, hb2⟩
  have HE2 := Lib.hid (((HE1.out.below ((Below.refl w1.heap.size w1).alloc (Nat.le_refl _) (.cells #[.int .i64 3, .int .i64 0, .int .u64 a, .string ⟨#[]⟩] 24))).below hb2).below ((Below.refl w2.heap.size w2).alloc (Nat.le_refl _) (.cells #[.int .i64 3, .int .i64 0, .int .u64 b, .string ⟨#[]⟩] 24)))
  have S7 := Lib.hid ((T7.out.below hb2).old (.cells #[.int .i64 3, .int .i64 0, .int .u64 b, .string ⟨#[]⟩] 24))
  have S8 := Lib.hid (Rd.Box.new w2 3 0 b ⟨#[]⟩)
  have B2 := Lib.hid (((B1.out.alloc (by omega) _).trans (hb2.mono (by simp; omega))).alloc (by have := hb2.size; simp at this; omega) (.cells #[.int .i64 3, .int .i64 0, .int .u64 b, .string ⟨#[]⟩] 24))
  have Z2 : w.heap.size ≤ (w2.alloc (.cells #[.int .i64 3, .int .i64 0, .int .u64 b, .string ⟨#[]⟩] 24)).heap.size := by have := hb2.size; simp at this ⊢; omega
  clear hb2 B1 Z1 HE1 T7
  have qS70 := S7.out.c0
  have qS71 := S7.out.c1
  have qS72 := S7.out.c2
  have qS73 := S7.out.c3
  go_wp2_with fail
  refine (rgt a HA.out _).mono ?_
  rintro e w3 ⟨rfl, hbn⟩
  clear qS70 qS71 qS72 qS73
  have HE3 := Lib.hid (HE2.out.below hbn)
  have S73 := Lib.hid (S7.out.below hbn)
  have S83 := Lib.hid (S8.out.below hbn)
  have B3 := Lib.hid (B2.out.trans (hbn.mono Z2))
  have Z3 : w.heap.size ≤ w3.heap.size := Nat.le_trans Z2 hbn.size
  clear hbn HE2 S7 S8 B2 Z2
  have qS80 := S83.out.c0
  have qS81 := S83.out.c1
  have qS82 := S83.out.c2
  have qS83 := S83.out.c3
  go_wp2_with fail
  refine (rgt b HB.out _).mono ?_
  rintro e w4 ⟨rfl, hbn⟩
  clear qS80 qS81 qS82 qS83
  have HE4 := Lib.hid (HE3.out.below hbn)
  have S74 := Lib.hid (S73.out.below hbn)
  have S84 := Lib.hid (S83.out.below hbn)
  have B4 := Lib.hid (B3.out.trans (hbn.mono Z3))
  have Z4 : w.heap.size ≤ w4.heap.size := Nat.le_trans Z3 hbn.size
  clear hbn HE3 S73 S83 B3 Z3
  have qS70 := S74.out.c0
  have qS71 := S74.out.c1
  have qS72 := S74.out.c2
  have qS73 := S74.out.c3
  have qS80 := S84.out.c0
  have qS81 := S84.out.c1
  have qS82 := S84.out.c2
  have qS83 := S84.out.c3
  go_wp2_with fail
  refine (cmp a b HA.out HB.out _ hcv.out _).mono ?_
  rintro e w5 ⟨rfl, hbn⟩
  clear qS70 qS71 qS72 qS73 qS80 qS81 qS82 qS83
  have HE5 := Lib.hid (HE4.out.below hbn)
  have S75 := Lib.hid (S74.out.below hbn)
  have S85 := Lib.hid (S84.out.below hbn)
  have B5 := Lib.hid (B4.out.trans (hbn.mono Z4))
  have Z5 : w.heap.size ≤ w5.heap.size := Nat.le_trans Z4 hbn.size
  clear hbn HE4 S74 S84 B4 Z4
  have qS70 := S75.out.c0
  have qS71 := S75.out.c1
  have qS72 := S75.out.c2
  have qS73 := S75.out.c3
  go_wp2_with fail
  refine (asf a HA.out _).mono ?_
  rintro e w6 ⟨rfl, hbn⟩
  clear qS70 qS71 qS72 qS73
  have HE6 := Lib.hid (HE5.out.below hbn)
  have S76 := Lib.hid (S75.out.below hbn)
  have S86 := Lib.hid (S85.out.below hbn)
  have B6 := Lib.hid (B5.out.trans (hbn.mono Z5))
  have Z6 : w.heap.size ≤ w6.heap.size := Nat.le_trans Z5 hbn.size
  clear hbn HE5 S75 S85 B5 Z5
  have qS70 := S76.out.c0
  have qS71 := S76.out.c1
  have qS72 := S76.out.c2
  have qS73 := S76.out.c3
  go_wp2_with fail
  refine (Rd.known_any _ HE6.out).mono ?_
  rintro e w7 ⟨rfl, hbn⟩
  have B7 := Lib.hid (B6.out.trans (hbn.mono Z6))
  clear hbn
  go_wp2_with fail
  go_ret
  exact ⟨rfl, B7.out⟩
set_option maxHeartbeats 4000000 in
set_option maxRecDepth 100000 in
theorem fl_eq_z (x y a b : Nat) (w : World) (he : Val.Env w) (ha : Hid (Flo.canon x = a)) (hb : Hid (Flo.canon y = b)) (cv : Int) (hcv : Hid (Val.cmpF a b = cv)) (o1 : (FloatKind.f64.format.order x x != some Ordering.eq) = false) (o2 : (FloatKind.f64.format.order a x != some Ordering.eq) = false) (o3 : (FloatKind.f64.format.order y y != some Ordering.eq) = false) (o4 : (FloatKind.f64.format.order x y == some Ordering.lt) = false) (o5 : (FloatKind.f64.format.order x y == some Ordering.eq) = true) (o6 : (FloatKind.f64.format.order x 0 != some Ordering.eq) = false) (haz : ((a : Int) == 0) = true) (hcvv : cv = 0) : Calls Tryd.prog 7 #[.int .u64 x, .int .u64 y] w fun e w' => e = .returned (.bool true) ∧ Below w.heap.size w w' := by
  have haa : Flo.canon a = a := by rw [← ha.out, Flo.canon_canon]
  have hbb : Flo.canon b = b := by rw [← hb.out, Flo.canon_canon]
  have HA := Lib.hid haa
  have HB := Lib.hid hbb
  have HE := Lib.hid he
  clear haa hbb he
  obtain rfl : cv = 0 := hcvv
  go_enter Tryd.func7, Tryd.ntmps7
  go_wp2_with fail
  refine (off x a ha.out _).mono ?_
  rintro e w1 ⟨rfl, hb1⟩
  have HE1 := Lib.hid (HE.out.below hb1)
  have T7 := Lib.hid (Rd.Box.new w1 3 0 a ⟨#[]⟩)
  have B1 := Lib.hid hb1
  have Z1 : w.heap.size ≤ w1.heap.size := hb1.size
  clear hb1
  go_wp2_with fail
  refine (off y b hb.out _).mono ?_
  rintro e w2 ⟨rfl, hb2⟩
  have HE2 := Lib.hid (((HE1.out.below ((Below.refl w1.heap.size w1).alloc (Nat.le_refl _) (.cells #[.int .i64 3, .int .i64 0, .int .u64 a, .string ⟨#[]⟩] 24))).below hb2).below ((Below.refl w2.heap.size w2).alloc (Nat.le_refl _) (.cells #[.int .i64 3, .int .i64 0, .int .u64 b, .string ⟨#[]⟩] 24)))
  have S7 := Lib.hid ((T7.out.below hb2).old (.cells #[.int .i64 3, .int .i64 0, .int .u64 b, .string ⟨#[]⟩] 24))
  have S8 := Lib.hid (Rd.Box.new w2 3 0 b ⟨#[]⟩)
  have B2 := Lib.hid (((B1.out.alloc (by omega) _).trans (hb2.mono (by simp; omega))).alloc (by have := hb2.size; simp at this; omega) (.cells #[.int .i64 3, .int .i64 0, .int .u64 b, .string ⟨#[]⟩] 24))
  have Z2 : w.heap.size ≤ (w2.alloc (.cells #[.int .i64 3, .int .i64 0, .int .u64 b, .string ⟨#[]⟩] 24)).heap.size := by have := hb2.size; simp at this ⊢; omega
  clear hb2 B1 Z1 HE1 T7
  have qS70 := S7.out.c0
  have qS71 := S7.out.c1
  have qS72 := S7.out.c2
  have qS73 := S7.out.c3
  go_wp2_with fail
  refine (rgt a HA.out _).mono ?_
  rintro e w3 ⟨rfl, hbn⟩
  clear qS70 qS71 qS72 qS73
  have HE3 := Lib.hid (HE2.out.below hbn)
  have S73 := Lib.hid (S7.out.below hbn)
  have S83 := Lib.hid (S8.out.below hbn)
  have B3 := Lib.hid (B2.out.trans (hbn.mono Z2))
  have Z3 : w.heap.size ≤ w3.heap.size := Nat.le_trans Z2 hbn.size
  clear hbn HE2 S7 S8 B2 Z2
  have qS80 := S83.out.c0
  have qS81 := S83.out.c1
  have qS82 := S83.out.c2
  have qS83 := S83.out.c3
  go_wp2_with fail
  refine (rgt b HB.out _).mono ?_
  rintro e w4 ⟨rfl, hbn⟩
  clear qS80 qS81 qS82 qS83
  have HE4 := Lib.hid (HE3.out.below hbn)
  have S74 := Lib.hid (S73.out.below hbn)
  have S84 := Lib.hid (S83.out.below hbn)
  have B4 := Lib.hid (B3.out.trans (hbn.mono Z3))
  have Z4 : w.heap.size ≤ w4.heap.size := Nat.le_trans Z3 hbn.size
  clear hbn HE3 S73 S83 B3 Z3
  have qS70 := S74.out.c0
  have qS71 := S74.out.c1
  have qS72 := S74.out.c2
  have qS73 := S74.out.c3
  have qS80 := S84.out.c0
  have qS81 := S84.out.c1
  have qS82 := S84.out.c2
  have qS83 := S84.out.c3
  go_wp2_with fail
  refine (cmp a b HA.out HB.out _ hcv.out _).mono ?_
  rintro e w5 ⟨rfl, hbn⟩
  clear qS70 qS71 qS72 qS73 qS80 qS81 qS82 qS83
  have HE5 := Lib.hid (HE4.out.below hbn)
  have S75 := Lib.hid (S74.out.below hbn)
  have S85 := Lib.hid (S84.out.below hbn)
  have B5 := Lib.hid (B4.out.trans (hbn.mono Z4))
  have Z5 : w.heap.size ≤ w5.heap.size := Nat.le_trans Z4 hbn.size
  clear hbn HE4 S74 S84 B4 Z4
  have qS70 := S75.out.c0
  have qS71 := S75.out.c1
  have qS72 := S75.out.c2
  have qS73 := S75.out.c3
  go_wp2_with fail
  refine (asf a HA.out _).mono ?_
  rintro e w6 ⟨rfl, hbn⟩
  clear qS70 qS71 qS72 qS73
  have HE6 := Lib.hid (HE5.out.below hbn)
  have S76 := Lib.hid (S75.out.below hbn)
  have S86 := Lib.hid (S85.out.below hbn)
  have B6 := Lib.hid (B5.out.trans (hbn.mono Z5))
  have Z6 : w.heap.size ≤ w6.heap.size := Nat.le_trans Z5 hbn.size
  clear hbn HE5 S75 S85 B5 Z5
  have qS70 := S76.out.c0
  have qS71 := S76.out.c1
  have qS72 := S76.out.c2
  have qS73 := S76.out.c3
  go_wp2_with fail
  refine (Rd.known_any _ HE6.out).mono ?_
  rintro e w7 ⟨rfl, hbn⟩
  have B7 := Lib.hid (B6.out.trans (hbn.mono Z6))
  clear hbn
  go_wp2_with fail
  go_ret
  exact ⟨rfl, B7.out⟩
set_option maxHeartbeats 4000000 in
set_option maxRecDepth 100000 in
theorem fl_gt_n (x y a b : Nat) (w : World) (he : Val.Env w) (ha : Hid (Flo.canon x = a)) (hb : Hid (Flo.canon y = b)) (cv : Int) (hcv : Hid (Val.cmpF a b = cv)) (o1 : (FloatKind.f64.format.order x x != some Ordering.eq) = false) (o2 : (FloatKind.f64.format.order a x != some Ordering.eq) = false) (o3 : (FloatKind.f64.format.order y y != some Ordering.eq) = false) (o4 : (FloatKind.f64.format.order x y == some Ordering.lt) = false) (o5 : (FloatKind.f64.format.order x y == some Ordering.eq) = false) (o6 : (FloatKind.f64.format.order x 0 != some Ordering.eq) = true) (hcvv : cv = 1) : Calls Tryd.prog 7 #[.int .u64 x, .int .u64 y] w fun e w' => e = .returned (.bool true) ∧ Below w.heap.size w w' := by
  have haa : Flo.canon a = a := by rw [← ha.out, Flo.canon_canon]
  have hbb : Flo.canon b = b := by rw [← hb.out, Flo.canon_canon]
  have HA := Lib.hid haa
  have HB := Lib.hid hbb
  have HE := Lib.hid he
  clear haa hbb he
  obtain rfl : cv = 1 := hcvv
  go_enter Tryd.func7, Tryd.ntmps7
  go_wp2_with fail
  refine (off x a ha.out _).mono ?_
  rintro e w1 ⟨rfl, hb1⟩
  have HE1 := Lib.hid (HE.out.below hb1)
  have T7 := Lib.hid (Rd.Box.new w1 3 0 a ⟨#[]⟩)
  have B1 := Lib.hid hb1
  have Z1 : w.heap.size ≤ w1.heap.size := hb1.size
  clear hb1
  go_wp2_with fail
  refine (off y b hb.out _).mono ?_
  rintro e w2 ⟨rfl, hb2⟩
  have HE2 := Lib.hid (((HE1.out.below ((Below.refl w1.heap.size w1).alloc (Nat.le_refl _) (.cells #[.int .i64 3, .int .i64 0, .int .u64 a, .string ⟨#[]⟩] 24))).below hb2).below ((Below.refl w2.heap.size w2).alloc (Nat.le_refl _) (.cells #[.int .i64 3, .int .i64 0, .int .u64 b, .string ⟨#[]⟩] 24)))
  have S7 := Lib.hid ((T7.out.below hb2).old (.cells #[.int .i64 3, .int .i64 0, .int .u64 b, .string ⟨#[]⟩] 24))
  have S8 := Lib.hid (Rd.Box.new w2 3 0 b ⟨#[]⟩)
  have B2 := Lib.hid (((B1.out.alloc (by omega) _).trans (hb2.mono (by simp; omega))).alloc (by have := hb2.size; simp at this; omega) (.cells #[.int .i64 3, .int .i64 0, .int .u64 b, .string ⟨#[]⟩] 24))
  have Z2 : w.heap.size ≤ (w2.alloc (.cells #[.int .i64 3, .int .i64 0, .int .u64 b, .string ⟨#[]⟩] 24)).heap.size := by have := hb2.size; simp at this ⊢; omega
  clear hb2 B1 Z1 HE1 T7
  have qS70 := S7.out.c0
  have qS71 := S7.out.c1
  have qS72 := S7.out.c2
  have qS73 := S7.out.c3
  go_wp2_with fail
  refine (rgt a HA.out _).mono ?_
  rintro e w3 ⟨rfl, hbn⟩
  clear qS70 qS71 qS72 qS73
  have HE3 := Lib.hid (HE2.out.below hbn)
  have S73 := Lib.hid (S7.out.below hbn)
  have S83 := Lib.hid (S8.out.below hbn)
  have B3 := Lib.hid (B2.out.trans (hbn.mono Z2))
  have Z3 : w.heap.size ≤ w3.heap.size := Nat.le_trans Z2 hbn.size
  clear hbn HE2 S7 S8 B2 Z2
  have qS80 := S83.out.c0
  have qS81 := S83.out.c1
  have qS82 := S83.out.c2
  have qS83 := S83.out.c3
  go_wp2_with fail
  refine (rgt b HB.out _).mono ?_
  rintro e w4 ⟨rfl, hbn⟩
  clear qS80 qS81 qS82 qS83
  have HE4 := Lib.hid (HE3.out.below hbn)
  have S74 := Lib.hid (S73.out.below hbn)
  have S84 := Lib.hid (S83.out.below hbn)
  have B4 := Lib.hid (B3.out.trans (hbn.mono Z3))
  have Z4 : w.heap.size ≤ w4.heap.size := Nat.le_trans Z3 hbn.size
  clear hbn HE3 S73 S83 B3 Z3
  have qS70 := S74.out.c0
  have qS71 := S74.out.c1
  have qS72 := S74.out.c2
  have qS73 := S74.out.c3
  have qS80 := S84.out.c0
  have qS81 := S84.out.c1
  have qS82 := S84.out.c2
  have qS83 := S84.out.c3
  go_wp2_with fail
  refine (cmp a b HA.out HB.out _ hcv.out _).mono ?_
  rintro e w5 ⟨rfl, hbn⟩
  clear qS70 qS71 qS72 qS73 qS80 qS81 qS82 qS83
  have HE5 := Lib.hid (HE4.out.below hbn)
  have S75 := Lib.hid (S74.out.below hbn)
  have S85 := Lib.hid (S84.out.below hbn)
  have B5 := Lib.hid (B4.out.trans (hbn.mono Z4))
  have Z5 : w.heap.size ≤ w5.heap.size := Nat.le_trans Z4 hbn.size
  clear hbn HE4 S74 S84 B4 Z4
  have qS70 := S75.out.c0
  have qS71 := S75.out.c1
  have qS72 := S75.out.c2
  have qS73 := S75.out.c3
  go_wp2_with fail
  refine (asf a HA.out _).mono ?_
  rintro e w6 ⟨rfl, hbn⟩
  clear qS70 qS71 qS72 qS73
  have HE6 := Lib.hid (HE5.out.below hbn)
  have S76 := Lib.hid (S75.out.below hbn)
  have S86 := Lib.hid (S85.out.below hbn)
  have B6 := Lib.hid (B5.out.trans (hbn.mono Z5))
  have Z6 : w.heap.size ≤ w6.heap.size := Nat.le_trans Z5 hbn.size
  clear hbn HE5 S75 S85 B5 Z5
  have qS70 := S76.out.c0
  have qS71 := S76.out.c1
  have qS72 := S76.out.c2
  have qS73 := S76.out.c3
  go_wp2_with fail
  refine (Rd.known_any _ HE6.out).mono ?_
  rintro e w7 ⟨rfl, hbn⟩
  have B7 := Lib.hid (B6.out.trans (hbn.mono Z6))
  clear hbn
  go_wp2_with fail
  go_ret
  exact ⟨rfl, B7.out⟩
set_option maxHeartbeats 4000000 in
set_option maxRecDepth 100000 in
theorem fl_gt_z (x y a b : Nat) (w : World) (he : Val.Env w) (ha : Hid (Flo.canon x = a)) (hb : Hid (Flo.canon y = b)) (cv : Int) (hcv : Hid (Val.cmpF a b = cv)) (o1 : (FloatKind.f64.format.order x x != some Ordering.eq) = false) (o2 : (FloatKind.f64.format.order a x != some Ordering.eq) = false) (o3 : (FloatKind.f64.format.order y y != some Ordering.eq) = false) (o4 : (FloatKind.f64.format.order x y == some Ordering.lt) = false) (o5 : (FloatKind.f64.format.order x y == some Ordering.eq) = false) (o6 : (FloatKind.f64.format.order x 0 != some Ordering.eq) = false) (haz : ((a : Int) == 0) = true) (hcvv : cv = 1) : Calls Tryd.prog 7 #[.int .u64 x, .int .u64 y] w fun e w' => e = .returned (.bool true) ∧ Below w.heap.size w w' := by
  have haa : Flo.canon a = a := by rw [← ha.out, Flo.canon_canon]
  have hbb : Flo.canon b = b := by rw [← hb.out, Flo.canon_canon]
  have HA := Lib.hid haa
  have HB := Lib.hid hbb
  have HE := Lib.hid he
  clear haa hbb he
  obtain rfl : cv = 1 := hcvv
  go_enter Tryd.func7, Tryd.ntmps7
  go_wp2_with fail
  refine (off x a ha.out _).mono ?_
  rintro e w1 ⟨rfl, hb1⟩
  have HE1 := Lib.hid (HE.out.below hb1)
  have T7 := Lib.hid (Rd.Box.new w1 3 0 a ⟨#[]⟩)
  have B1 := Lib.hid hb1
  have Z1 : w.heap.size ≤ w1.heap.size := hb1.size
  clear hb1
  go_wp2_with fail
  refine (off y b hb.out _).mono ?_
  rintro e w2 ⟨rfl, hb2⟩
  have HE2 := Lib.hid (((HE1.out.below ((Below.refl w1.heap.size w1).alloc (Nat.le_refl _) (.cells #[.int .i64 3, .int .i64 0, .int .u64 a, .string ⟨#[]⟩] 24))).below hb2).below ((Below.refl w2.heap.size w2).alloc (Nat.le_refl _) (.cells #[.int .i64 3, .int .i64 0, .int .u64 b, .string ⟨#[]⟩] 24)))
  have S7 := Lib.hid ((T7.out.below hb2).old (.cells #[.int .i64 3, .int .i64 0, .int .u64 b, .string ⟨#[]⟩] 24))
  have S8 := Lib.hid (Rd.Box.new w2 3 0 b ⟨#[]⟩)
  have B2 := Lib.hid (((B1.out.alloc (by omega) _).trans (hb2.mono (by simp; omega))).alloc (by have := hb2.size; simp at this; omega) (.cells #[.int .i64 3, .int .i64 0, .int .u64 b, .string ⟨#[]⟩] 24))
  have Z2 : w.heap.size ≤ (w2.alloc (.cells #[.int .i64 3, .int .i64 0, .int .u64 b, .string ⟨#[]⟩] 24)).heap.size := by have := hb2.size; simp at this ⊢; omega
  clear hb2 B1 Z1 HE1 T7
  have qS70 := S7.out.c0
  have qS71 := S7.out.c1
  have qS72 := S7.out.c2
  have qS73 := S7.out.c3
  go_wp2_with fail
  refine (rgt a HA.out _).mono ?_
  rintro e w3 ⟨rfl, hbn⟩
  clear qS70 qS71 qS72 qS73
  have HE3 := Lib.hid (HE2.out.below hbn)
  have S73 := Lib.hid (S7.out.below hbn)
  have S83 := Lib.hid (S8.out.below hbn)
  have B3 := Lib.hid (B2.out.trans (hbn.mono Z2))
  have Z3 : w.heap.size ≤ w3.heap.size := Nat.le_trans Z2 hbn.size
  clear hbn HE2 S7 S8 B2 Z2
  have qS80 := S83.out.c0
  have qS81 := S83.out.c1
  have qS82 := S83.out.c2
  have qS83 := S83.out.c3
  go_wp2_with fail
  refine (rgt b HB.out _).mono ?_
  rintro e w4 ⟨rfl, hbn⟩
  clear qS80 qS81 qS82 qS83
  have HE4 := Lib.hid (HE3.out.below hbn)
  have S74 := Lib.hid (S73.out.below hbn)
  have S84 := Lib.hid (S83.out.below hbn)
  have B4 := Lib.hid (B3.out.trans (hbn.mono Z3))
  have Z4 : w.heap.size ≤ w4.heap.size := Nat.le_trans Z3 hbn.size
  clear hbn HE3 S73 S83 B3 Z3
  have qS70 := S74.out.c0
  have qS71 := S74.out.c1
  have qS72 := S74.out.c2
  have qS73 := S74.out.c3
  have qS80 := S84.out.c0
  have qS81 := S84.out.c1
  have qS82 := S84.out.c2
  have qS83 := S84.out.c3
  go_wp2_with fail
  refine (cmp a b HA.out HB.out _ hcv.out _).mono ?_
  rintro e w5 ⟨rfl, hbn⟩
  clear qS70 qS71 qS72 qS73 qS80 qS81 qS82 qS83
  have HE5 := Lib.hid (HE4.out.below hbn)
  have S75 := Lib.hid (S74.out.below hbn)
  have S85 := Lib.hid (S84.out.below hbn)
  have B5 := Lib.hid (B4.out.trans (hbn.mono Z4))
  have Z5 : w.heap.size ≤ w5.heap.size := Nat.le_trans Z4 hbn.size
  clear hbn HE4 S74 S84 B4 Z4
  have qS70 := S75.out.c0
  have qS71 := S75.out.c1
  have qS72 := S75.out.c2
  have qS73 := S75.out.c3
  go_wp2_with fail
  refine (asf a HA.out _).mono ?_
  rintro e w6 ⟨rfl, hbn⟩
  clear qS70 qS71 qS72 qS73
  have HE6 := Lib.hid (HE5.out.below hbn)
  have S76 := Lib.hid (S75.out.below hbn)
  have S86 := Lib.hid (S85.out.below hbn)
  have B6 := Lib.hid (B5.out.trans (hbn.mono Z5))
  have Z6 : w.heap.size ≤ w6.heap.size := Nat.le_trans Z5 hbn.size
  clear hbn HE5 S75 S85 B5 Z5
  have qS70 := S76.out.c0
  have qS71 := S76.out.c1
  have qS72 := S76.out.c2
  have qS73 := S76.out.c3
  go_wp2_with fail
  refine (Rd.known_any _ HE6.out).mono ?_
  rintro e w7 ⟨rfl, hbn⟩
  have B7 := Lib.hid (B6.out.trans (hbn.mono Z6))
  clear hbn
  go_wp2_with fail
  go_ret
  exact ⟨rfl, B7.out⟩
theorem cmp_lt {p q : Int} (h : p < q) : compare p q = .lt := by
  show compareOfLessAndEq p q = _; unfold compareOfLessAndEq; rw [if_pos h]
theorem cmp_gt {p q : Int} (h : q < p) : compare p q = .gt := by
  show compareOfLessAndEq p q = _; unfold compareOfLessAndEq; rw [if_neg (by omega), if_neg (by omega)]
theorem cmp_eq {p q : Int} (h : p = q) : compare p q = .eq := by
  show compareOfLessAndEq p q = _; unfold compareOfLessAndEq; rw [if_neg (by omega), if_pos h]
theorem self_ne (x : Nat) (v : Bool) (h : Flo.nanB x = v) : (FloatKind.f64.format.order x x != some Ordering.eq) = v := by
  show (Ieee.double.order x x != some Ordering.eq) = v
  rw [Flo.order_self, h]; cases v <;> rfl
theorem self_eq (x : Nat) (v : Bool) (h : Flo.nanB x = v) : (FloatKind.f64.format.order x x == some Ordering.eq) = !v := by
  show (Ieee.double.order x x == some Ordering.eq) = !v
  rw [Flo.order_self, h]; cases v <;> rfl
theorem law_any (x y : Nat) (w : World) (he : Val.Env w) : Calls Tryd.prog 7 #[.int .u64 x, .int .u64 y] w fun e w' => e = .returned (.bool true) ∧ Below w.heap.size w w' := by
  have ax : Flo.nanB (Flo.canon x) = Flo.nanB x := Flo.nan_canon x
  have ay : Flo.nanB (Flo.canon y) = Flo.nanB y := Flo.nan_canon y
  cases hx : Flo.nanB x
  · have o1 := self_ne x false hx
    have oax : FloatKind.f64.format.order (Flo.canon x) x = some .eq := by
      rw [Val.order_num (by rw [ax, hx]) hx, cmp_eq (Flo.key_canon x hx)]
    have o2 : (FloatKind.f64.format.order (Flo.canon x) x != some Ordering.eq) = false := by rw [oax]; rfl
    have o2' : (FloatKind.f64.format.order (Flo.canon x) x == some Ordering.eq) = true := by rw [oax]; rfl
    cases hy : Flo.nanB y
    · have o3 := self_ne y false hy
      have hc : Val.cmpF (Flo.canon x) (Flo.canon y) = Val.cmpI (Flo.key x) (Flo.key y) := by
        unfold Val.cmpF
        rw [ax, ay, hx, hy, Flo.key_canon x hx, Flo.key_canon y hy]; rfl
      have on := Val.order_num hx hy
      have oz : (FloatKind.f64.format.order x 0 != some Ordering.eq) = !(!Flo.nanB x && Flo.zeroB x) := Flo.order_zero x
      rw [hx] at oz
      rcases Int.lt_trichotomy (Flo.key x) (Flo.key y) with h | h | h
      · rw [cmp_lt h] at on
        have e : Val.cmpF (Flo.canon x) (Flo.canon y) = -1 := by rw [hc]; unfold Val.cmpI; rw [if_pos h]
        cases hz : Flo.zeroB x
        · rw [hz] at oz
          exact fl_lt_n x y _ _ w he rfl rfl _ e o1 o2 o3 (by rw [on]; rfl) (by rw [on]; rfl) oz rfl
        · rw [hz] at oz
          exact fl_lt_z x y _ _ w he rfl rfl _ e o1 o2 o3 (by rw [on]; rfl) (by rw [on]; rfl) oz (by rw [Flo.canon_zero hx hz]; rfl) rfl
      · rw [cmp_eq h] at on
        have e : Val.cmpF (Flo.canon x) (Flo.canon y) = 0 := by rw [hc]; unfold Val.cmpI; rw [if_neg (by omega), if_neg (by omega)]
        cases hz : Flo.zeroB x
        · rw [hz] at oz
          exact fl_eq_n x y _ _ w he rfl rfl _ e o1 o2 o3 (by rw [on]; rfl) (by rw [on]; rfl) oz rfl
        · rw [hz] at oz
          exact fl_eq_z x y _ _ w he rfl rfl _ e o1 o2 o3 (by rw [on]; rfl) (by rw [on]; rfl) oz (by rw [Flo.canon_zero hx hz]; rfl) rfl
      · rw [cmp_gt h] at on
        have e : Val.cmpF (Flo.canon x) (Flo.canon y) = 1 := by rw [hc]; unfold Val.cmpI; rw [if_neg (by omega), if_pos h]
        cases hz : Flo.zeroB x
        · rw [hz] at oz
          exact fl_gt_n x y _ _ w he rfl rfl _ e o1 o2 o3 (by rw [on]; rfl) (by rw [on]; rfl) oz rfl
        · rw [hz] at oz
          exact fl_gt_z x y _ _ w he rfl rfl _ e o1 o2 o3 (by rw [on]; rfl) (by rw [on]; rfl) oz (by rw [Flo.canon_zero hx hz]; rfl) rfl
    · have e : Val.cmpF (Flo.canon x) (Flo.canon y) = -1 := by unfold Val.cmpF; rw [ax, ay, hx, hy]; rfl
      exact fl_fn x y _ _ w he rfl rfl _ e o1 o2 (self_ne y true hy) o2' rfl
  · cases hy : Flo.nanB y
    · have e : Val.cmpF (Flo.canon x) (Flo.canon y) = 1 := by unfold Val.cmpF; rw [ax, ay, hx, hy]; rfl
      exact fl_nf x y _ _ w he rfl rfl _ e (self_ne x true hx) (self_ne _ true (by rw [ax, hx])) (self_eq y false hy) (self_ne y false hy) rfl
    · have e : Val.cmpF (Flo.canon x) (Flo.canon y) = 0 := by unfold Val.cmpF; rw [ax, ay, hx, hy]; rfl
      exact fl_nn x y _ _ w he rfl rfl _ e (self_ne x true hx) (self_ne _ true (by rw [ax, hx])) (self_eq y true hy) (self_ne y true hy) rfl
set_option maxRecDepth 100000 in
theorem contract (H : Type) (enc : TypeId × Value → H) (W : World) (base : Nat) (args : Array Value) (ds gs : List (DataW H)) (before : List MemPlace)
    (hval : ∀ (j : Nat) t v, Tryd.f7.params[j]? = some t → args[j]? = some v → Value.okWide Tryd.prog W .any base t v)
    (hW : DataW.Whole enc Tryd.prog Tryd.f7.params.toList Rows.valueFloatsSpec.vars false W args.toList ds gs before) (hL : laidMet Tryd.prog Rows.valueFloatsRow.laid W) :
    Calls Tryd.prog 7 args W fun e W' => ∃ v, e = .returned v ∧ Rows.valueFloatsSpec.post enc Tryd.prog Tryd.f7 false true false false W args v W' := by
  have hW' := hW
  obtain ⟨p, q, hA0, hV, rfl, hfz, hnd⟩ := hW
  have hA : DataW.TrodAll enc Tryd.prog W 0 (fun _ => true) true Tryd.f7.params.toList args.toList ds p := hA0
  rw [Tryd.params7] at hA hval
  obtain ⟨v0, vs0, d0, ds0, p0, q0, hargs, rfl, rfl, h0, r0⟩ := trodAll_cons hA
  obtain ⟨v1, vs1, d1, ds1, p1, q1, rfl, rfl, rfl, h1, r1⟩ := trodAll_cons r0
  obtain ⟨rfl, rfl, rfl⟩ := trodAll_nil r1
  obtain rfl : args = #[v0, v1] := by cases args; simp_all
  obtain ⟨rfl, rfl⟩ := trodVars_none hV
  obtain ⟨x, rfl, rfl, rfl, wx⟩ := open_int Tryd.underlying22 (hval 0 22 v0 rfl rfl) h0
  obtain ⟨y, rfl, rfl, rfl, wy⟩ := open_int Tryd.underlying22 (hval 1 22 v1 rfl rfl) h1
  clear hA0
  simp only [List.append_nil] at hW'
  have he := Fr.env_of hL
  have hx := bounds_u64 wx
  have hy := bounds_u64 wy
  obtain ⟨x, rfl⟩ := Int.eq_ofNat_of_zero_le hx.1
  obtain ⟨y, rfl⟩ := Int.eq_ofNat_of_zero_le hy.1
  have walk := law_any x y W he
  clear hx hy
  refine walk.mono fun e W' ⟨he, hg⟩ => ?_
  subst he
  exact ⟨_, rfl, Fr.post_made (pa := []) (pv := []) hW' (fun _ _ _ => trodAll_cons_mk (shut_bool Tryd.underlying4 _) trodAll_mk0) (fun _ _ => (trodAll_cons_mk (shut_int Tryd.underlying22 wx) (trodAll_cons_mk (shut_int Tryd.underlying22 wy) trodAll_mk0))) (fun _ _ => rfl) rfl hg (ok_one (by kernel_rfl) rfl (okWide_bool_mk Tryd.underlying4 _))⟩
theorem reads (os : Os) {H : Type} (enc : TypeId × Value → H) : ∃ places, DataW.whole enc Tryd.prog ((World.doorLaid Tryd.prog 600 os).forCall (fun _ _ => 0) ⟨#[], #[.int .u64 0, .int .u64 0], []⟩).memory Tryd.f7.params.toList Rows.valueFloatsSpec.vars false (#[.int .u64 0, .int .u64 0] : Array Value).toList 8 = some ([.lit (.int .u64 0), .lit (.int .u64 0)], [], places) :=
  ⟨[], by kernel_rfl⟩
set_option maxRecDepth 100000 in
theorem lifted (os : Os) (started : os.Started) (H : Type) (enc : TypeId × Value → H) (F : Stop.Interp) :
    ReturnsInHanded {} Tryd.checked os 7 .any ((OpenSpec.ofChange Rows.valueFloatsSpec).preRow enc Tryd.prog Tryd.f7 Rows.valueFloatsRow.domain false Rows.valueFloatsRow.laid) (((OpenSpec.ofChange Rows.valueFloatsSpec).at F).post enc Tryd.prog Tryd.f7 false true false false) := by
  obtain ⟨places, hx⟩ := reads os enc
  refine returnsInHanded_of_row (C := Tryd.checked) (s := OpenSpec.ofChange Rows.valueFloatsSpec) Fr.own started (by kernel_rfl) Tryd.func7
    (witness_row_atRef (enc := enc) (C := Tryd.checked) false (World.doorLaid Tryd.prog 600 os) #[.int .u64 0, .int .u64 0] rfl (by kernel_rfl) (by kernel_rfl) (by kernel_rfl)
      (OpenSpec.preRow_of_cond 8 hx (by kernel_rfl) (fun k hk => by cases hk) (by kernel_rfl) (Fr.door_met os _))) ?_
  intro W base args ds gs before hval hW _ _ _ hL _ _
  exact contract H enc W base args ds gs before hval hW hL
theorem said : Rows.ValueFloatsSaid :=
  OpenClaim.holds_of_cond 7 Tryd.f7 rfl rfl rfl rfl rfl rfl rfl ⟨rfl, rfl, rfl, rfl, rfl⟩ rfl rfl rfl rfl rfl (by kernel_rfl) Tryd.func7 (by kernel_rfl)
    (of_decide_eq_true (by kernel_rfl)) (by unfold Func.isWrapper; first | (rw [if_pos (by decide +kernel)]; kernel_rfl) | (rw [if_neg (by decide +kernel)]; exact ⟨rfl, rfl⟩))
    (fun os started H enc _ F => by rw [OpenClaim.pre_eq_preRow]; exact lifted os started H enc F)
theorem plain (f : FuncId) (fn : Func) (hf : Tryd.pinned.checked.prog.funcNamed "memoir/memoirlaw01.ValueFloats" = some f) (hfn : Tryd.pinned.checked.prog.funcs[f]? = some fn) :
    true = Tryd.pinned.checked.prog.looks [] ∧ ∀ (j : Nat) t, fn.params[j]? = some t → Tryd.pinned.checked.prog.wantsStandIn t = false := by
  obtain rfl : f = 7 := Option.some.inj ((show Tryd.prog.funcNamed "memoir/memoirlaw01.ValueFloats" = some 7 by kernel_rfl).symm.trans hf) |>.symm
  obtain rfl : fn = Tryd.f7 := (Option.some.inj (Tryd.func7.symm.trans hfn)).symm
  refine ⟨by kernel_rfl, fun j t ht => ?_⟩
  rw [Tryd.params7] at ht
  have hm := Array.mem_of_getElem? ht
  simp only [List.mem_toArray, List.mem_cons, List.not_mem_nil, or_false] at hm
  rcases hm with rfl | rfl
  all_goals exact (show Tryd.prog.wantsStandIn 22 = false by kernel_rfl)
theorem card : Rows.ValueFloatsCardSaid :=
  Claim7.holds_tied_plain_at .later [] _ _ _ _ said (fun _ h => by cases h) (by kernel_rfl) (fun _ h => by cases h) valueFloats_row_tie rfl ⟨rfl, rfl⟩ (by kernel_rfl) rfl plain (by kernel_rfl)
end LaValueFloats
end Go.Proofs.YtdagblpaiopfiaaDoor
