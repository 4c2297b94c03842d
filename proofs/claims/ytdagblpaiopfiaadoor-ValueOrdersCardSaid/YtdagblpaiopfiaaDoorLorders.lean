/- ValueOrders is proved: for every input the law returns true and its arguments read as they did; its listed variables are tied to the program's text. No other condition. -/
import Derived.Test.YtdagblpaiopfiaaDoorFrV
import Derived.Test.YtdagblpaiopfiaaDoorRef
import Derived.Test.YtdagblpaiopfiaaDoorOrd
namespace Go.Proofs.YtdagblpaiopfiaaDoor
open Go.ChangeShapes Go.WideShapes Go.ChangeAt Go.RowKit
namespace LaValueOrders
theorem eta (s : ByteArray) : (⟨s.data.toList.toArray⟩ : ByteArray) = s := by
  rw [Array.toArray_toList]
theorem show_is (k n : Int) (b : Nat) (s T : ByteArray) (h0 : -9223372036854775808 ≤ n) (h1 : n ≤ 9223372036854775807) (hb : b < 18446744073709551616) (h : T.data.toList = Val.showL k n b s) (w : World) (he : Val.Env w) :
    Calls Tryd.prog 16 #[.agg #[.int .i64 k, .int .i64 n, .int .u64 b, .string s]] w fun e w' => e = .returned (.string T) ∧ Below w.heap.size w w' := by
  refine (Val.show_any k n b s w he h0 h1 hb).mono ?_
  rintro e w' ⟨rfl, hb⟩
  exact ⟨by rw [← h, eta], hb⟩
theorem right_is (k n : Int) (b : Nat) (s : ByteArray) (v : Bool) (h : Val.rightB k n b s = v) (w : World) :
    Calls Tryd.prog 12 #[.agg #[.int .i64 k, .int .i64 n, .int .u64 b, .string s]] w fun e w' => e = .returned (.bool v) ∧ Below w.heap.size w w' := by
  have g := Val.right_any k n b s w
  rw [h] at g; exact g
theorem self_eqV (k n : Int) (b : Nat) (s : ByteArray) : Val.eqV k n b s k n b s = true := (Rd.eqV_iff _ _ _ _ _ _ _ _).2 ⟨rfl, rfl, rfl, rfl⟩
theorem cmp_is (k n : Int) (b : Nat) (s : ByteArray) (k' n' : Int) (b' : Nat) (s' : ByteArray) (cv : Int) (h : Val.cmpV k n b s k' n' b' s' = cv) (w : World) :
    Calls Tryd.prog 13 #[.agg #[.int .i64 k, .int .i64 n, .int .u64 b, .string s], .agg #[.int .i64 k', .int .i64 n', .int .u64 b', .string s']] w fun e w' => e = .returned (.int .i64 cv) ∧ Below w.heap.size w w' := by
  have g := Val.compare_any k n b s k' n' b' s' w
  rw [h] at g; exact g
theorem same_is (k n : Int) (b : Nat) (s : ByteArray) (k' n' : Int) (b' : Nat) (s' : ByteArray) (v : Bool) (h : Val.sameB k n b s k' n' b' s' = v) (w : World) :
    Calls Tryd.prog 15 #[.agg #[.int .i64 k, .int .i64 n, .int .u64 b, .string s], .agg #[.int .i64 k', .int .i64 n', .int .u64 b', .string s']] w fun e w' => e = .returned (.bool v) ∧ Below w.heap.size w w' := by
  have g := Val.same_any k n b s k' n' b' s' w
  rw [h] at g; exact g
theorem truth_is (k n : Int) (b : Nat) (s : ByteArray) (v : Int) (h : Val.truthI k n b s = v) (w : World) :
    Calls Tryd.prog 18 #[.agg #[.int .i64 k, .int .i64 n, .int .u64 b, .string s]] w fun e w' => e = .returned (.int .i64 v) ∧ Below w.heap.size w w' := by
  have g := Val.truth_any k n b s w
  rw [h] at g; exact g
theorem asf_is (k n : Int) (b : Nat) (s : ByteArray) (v : Nat) (h : Val.asF k n b s = v) (w : World) :
    Calls Tryd.prog 23 #[.agg #[.int .i64 k, .int .i64 n, .int .u64 b, .string s]] w fun e w' => e = .returned (.float .f64 v) ∧ Below w.heap.size w w' := by
  have g := Val.asfloat_any k n b s w
  rw [h] at g; exact g
theorem ref_is (k n : Int) (b : Nat) (s : ByteArray) (hb : b < 18446744073709551616) (v : Bool) (h : Val.rightB k n b s = v) (w : World) :
    Calls Tryd.prog 11 #[.agg #[.int .i64 k, .int .i64 n, .int .u64 b, .string s]] w fun e w' => e = .returned (.bool v) ∧ Below w.heap.size w w' := by
  have g := Ref.right_any k n b s hb w
  rw [h] at g; exact g
set_option maxHeartbeats 4000000 in
set_option maxRecDepth 100000 in
theorem or_l1 (ka na : Int) (ba : Nat) (sa : ByteArray) (kb nb : Int) (bb : Nat) (sb : ByteArray) (kc nc : Int) (bc : Nat) (sc : ByteArray) (w : World) (he : Val.Env w) (_hba : Hid (ba < 18446744073709551616)) (_hbb : Hid (bb < 18446744073709551616)) (_hbc : Hid (bc < 18446744073709551616)) (g1 : decide ((500 : Int) < sa.size) = true) : Calls Tryd.prog 5 #[.agg #[.int .i64 ka, .int .i64 na, .int .u64 ba, .string sa], .agg #[.int .i64 kb, .int .i64 nb, .int .u64 bb, .string sb], .agg #[.int .i64 kc, .int .i64 nc, .int .u64 bc, .string sc]] w fun e w' => e = .returned (.bool true) ∧ Below w.heap.size w w' := by
  have HE0 := Lib.hid (((he.below ((Below.refl w.heap.size w).alloc (Nat.le_refl _) (.cells #[.int .i64 ka, .int .i64 na, .int .u64 ba, .string sa] 24))).below ((Below.refl (w.alloc (.cells #[.int .i64 ka, .int .i64 na, .int .u64 ba, .string sa] 24)).heap.size (w.alloc (.cells #[.int .i64 ka, .int .i64 na, .int .u64 ba, .string sa] 24))).alloc (Nat.le_refl _) (.cells #[.int .i64 kb, .int .i64 nb, .int .u64 bb, .string sb] 24))).below ((Below.refl ((w.alloc (.cells #[.int .i64 ka, .int .i64 na, .int .u64 ba, .string sa] 24)).alloc (.cells #[.int .i64 kb, .int .i64 nb, .int .u64 bb, .string sb] 24)).heap.size ((w.alloc (.cells #[.int .i64 ka, .int .i64 na, .int .u64 ba, .string sa] 24)).alloc (.cells #[.int .i64 kb, .int .i64 nb, .int .u64 bb, .string sb] 24))).alloc (Nat.le_refl _) (.cells #[.int .i64 kc, .int .i64 nc, .int .u64 bc, .string sc] 24)))
  have T30 := Lib.hid (((Rd.Box.new w ka na ba sa).old (.cells #[.int .i64 kb, .int .i64 nb, .int .u64 bb, .string sb] 24)).old (.cells #[.int .i64 kc, .int .i64 nc, .int .u64 bc, .string sc] 24))
  have T40 := Lib.hid (show Rd.Box (((w.alloc (.cells #[.int .i64 ka, .int .i64 na, .int .u64 ba, .string sa] 24)).alloc (.cells #[.int .i64 kb, .int .i64 nb, .int .u64 bb, .string sb] 24)).alloc (.cells #[.int .i64 kc, .int .i64 nc, .int .u64 bc, .string sc] 24)) (w.heap.size + 1) kb nb bb sb from by have h := (Rd.Box.new (w.alloc (.cells #[.int .i64 ka, .int .i64 na, .int .u64 ba, .string sa] 24)) kb nb bb sb).old (.cells #[.int .i64 kc, .int .i64 nc, .int .u64 bc, .string sc] 24); rwa [show (w.alloc (.cells #[.int .i64 ka, .int .i64 na, .int .u64 ba, .string sa] 24)).heap.size = w.heap.size + 1 from by simp] at h)
  have T50 := Lib.hid (show Rd.Box (((w.alloc (.cells #[.int .i64 ka, .int .i64 na, .int .u64 ba, .string sa] 24)).alloc (.cells #[.int .i64 kb, .int .i64 nb, .int .u64 bb, .string sb] 24)).alloc (.cells #[.int .i64 kc, .int .i64 nc, .int .u64 bc, .string sc] 24)) (w.heap.size + 1 + 1) kc nc bc sc from by have h := Rd.Box.new ((w.alloc (.cells #[.int .i64 ka, .int .i64 na, .int .u64 ba, .string sa] 24)).alloc (.cells #[.int .i64 kb, .int .i64 nb, .int .u64 bb, .string sb] 24)) kc nc bc sc; rwa [show ((w.alloc (.cells #[.int .i64 ka, .int .i64 na, .int .u64 ba, .string sa] 24)).alloc (.cells #[.int .i64 kb, .int .i64 nb, .int .u64 bb, .string sb] 24)).heap.size = w.heap.size + 1 + 1 from by simp] at h)
  have B0 := Lib.hid ((((Below.refl w.heap.size w).alloc (Nat.le_refl _) (.cells #[.int .i64 ka, .int .i64 na, .int .u64 ba, .string sa] 24)).alloc (by simp) (.cells #[.int .i64 kb, .int .i64 nb, .int .u64 bb, .string sb] 24)).alloc (by simp; omega) (.cells #[.int .i64 kc, .int .i64 nc, .int .u64 bc, .string sc] 24))
  have Z0 : w.heap.size ≤ (((w.alloc (.cells #[.int .i64 ka, .int .i64 na, .int .u64 ba, .string sa] 24)).alloc (.cells #[.int .i64 kb, .int .i64 nb, .int .u64 bb, .string sb] 24)).alloc (.cells #[.int .i64 kc, .int .i64 nc, .int .u64 bc, .string sc] 24)).heap.size := by simp; omega
  clear he
  go_enter Tryd.func5, Tryd.ntmps5
  go_wp2_with fail
  refine (Rd.known_any _ HE0.out).mono ?_
  rintro e w99 ⟨rfl, hbn⟩
  have B99 := Lib.hid (B0.out.trans (hbn.mono Z0))
  clear hbn
  go_wp2_with fail
  go_ret
  exact ⟨rfl, B99.out⟩
set_option maxHeartbeats 4000000 in
set_option maxRecDepth 100000 in
theorem or_l2 (ka na : Int) (ba : Nat) (sa : ByteArray) (kb nb : Int) (bb : Nat) (sb : ByteArray) (kc nc : Int) (bc : Nat) (sc : ByteArray) (w : World) (he : Val.Env w) (_hba : Hid (ba < 18446744073709551616)) (_hbb : Hid (bb < 18446744073709551616)) (_hbc : Hid (bc < 18446744073709551616)) (g1 : decide ((500 : Int) < sa.size) = false) (g2 : decide ((500 : Int) < sb.size) = true) : Calls Tryd.prog 5 #[.agg #[.int .i64 ka, .int .i64 na, .int .u64 ba, .string sa], .agg #[.int .i64 kb, .int .i64 nb, .int .u64 bb, .string sb], .agg #[.int .i64 kc, .int .i64 nc, .int .u64 bc, .string sc]] w fun e w' => e = .returned (.bool true) ∧ Below w.heap.size w w' := by
  have HE0 := Lib.hid (((he.below ((Below.refl w.heap.size w).alloc (Nat.le_refl _) (.cells #[.int .i64 ka, .int .i64 na, .int .u64 ba, .string sa] 24))).below ((Below.refl (w.alloc (.cells #[.int .i64 ka, .int .i64 na, .int .u64 ba, .string sa] 24)).heap.size (w.alloc (.cells #[.int .i64 ka, .int .i64 na, .int .u64 ba, .string sa] 24))).alloc (Nat.le_refl _) (.cells #[.int .i64 kb, .int .i64 nb, .int .u64 bb, .string sb] 24))).below ((Below.refl ((w.alloc (.cells #[.int .i64 ka, .int .i64 na, .int .u64 ba, .string sa] 24)).alloc (.cells #[.int .i64 kb, .int .i64 nb, .int .u64 bb, .string sb] 24)).heap.size ((w.alloc (.cells #[.int .i64 ka, .int .i64 na, .int .u64 ba, .string sa] 24)).alloc (.cells #[.int .i64 kb, .int .i64 nb, .int .u64 bb, .string sb] 24))).alloc (Nat.le_refl _) (.cells #[.int .i64 kc, .int .i64 nc, .int .u64 bc, .string sc] 24)))
  have T30 := Lib.hid (((Rd.Box.new w ka na ba sa).old (.cells #[.int .i64 kb, .int .i64 nb, .int .u64 bb, .string sb] 24)).old (.cells #[.int .i64 kc, .int .i64 nc, .int .u64 bc, .string sc] 24))
  have T40 := Lib.hid (show Rd.Box (((w.alloc (.cells #[.int .i64 ka, .int .i64 na, .int .u64 ba, .string sa] 24)).alloc (.cells #[.int .i64 kb, .int .i64 nb, .int .u64 bb, .string sb] 24)).alloc (.cells #[.int .i64 kc, .int .i64 nc, .int .u64 bc, .string sc] 24)) (w.heap.size + 1) kb nb bb sb from by have h := (Rd.Box.new (w.alloc (.cells #[.int .i64 ka, .int .i64 na, .int .u64 ba, .string sa] 24)) kb nb bb sb).old (.cells #[.int .i64 kc, .int .i64 nc, .int .u64 bc, .string sc] 24); rwa [show (w.alloc (.cells #[.int .i64 ka, .int .i64 na, .int .u64 ba, .string sa] 24)).heap.size = w.heap.size + 1 from by simp] at h)
  have T50 := Lib.hid (show Rd.Box (((w.alloc (.cells #[.int .i64 ka, .int .i64 na, .int .u64 ba, .string sa] 24)).alloc (.cells #[.int .i64 kb, .int .i64 nb, .int .u64 bb, .string sb] 24)).alloc (.cells #[.int .i64 kc, .int .i64 nc, .int .u64 bc, .string sc] 24)) (w.heap.size + 1 + 1) kc nc bc sc from by have h := Rd.Box.new ((w.alloc (.cells #[.int .i64 ka, .int .i64 na, .int .u64 ba, .string sa] 24)).alloc (.cells #[.int .i64 kb, .int .i64 nb, .int .u64 bb, .string sb] 24)) kc nc bc sc; rwa [show ((w.alloc (.cells #[.int .i64 ka, .int .i64 na, .int .u64 ba, .string sa] 24)).alloc (.cells #[.int .i64 kb, .int .i64 nb, .int .u64 bb, .string sb] 24)).heap.size = w.heap.size + 1 + 1 from by simp] at h)
  have B0 := Lib.hid ((((Below.refl w.heap.size w).alloc (Nat.le_refl _) (.cells #[.int .i64 ka, .int .i64 na, .int .u64 ba, .string sa] 24)).alloc (by simp) (.cells #[.int .i64 kb, .int .i64 nb, .int .u64 bb, .string sb] 24)).alloc (by simp; omega) (.cells #[.int .i64 kc, .int .i64 nc, .int .u64 bc, .string sc] 24))
  have Z0 : w.heap.size ≤ (((w.alloc (.cells #[.int .i64 ka, .int .i64 na, .int .u64 ba, .string sa] 24)).alloc (.cells #[.int .i64 kb, .int .i64 nb, .int .u64 bb, .string sb] 24)).alloc (.cells #[.int .i64 kc, .int .i64 nc, .int .u64 bc, .string sc] 24)).heap.size := by simp; omega
  clear he
  go_enter Tryd.func5, Tryd.ntmps5
  go_wp2_with fail
  refine (Rd.known_any _ HE0.out).mono ?_
  rintro e w99 ⟨rfl, hbn⟩
  have B99 := Lib.hid (B0.out.trans (hbn.mono Z0))
  clear hbn
  go_wp2_with fail
  go_ret
  exact ⟨rfl, B99.out⟩
set_option maxHeartbeats 4000000 in
set_option maxRecDepth 100000 in
theorem or_l3 (ka na : Int) (ba : Nat) (sa : ByteArray) (kb nb : Int) (bb : Nat) (sb : ByteArray) (kc nc : Int) (bc : Nat) (sc : ByteArray) (w : World) (he : Val.Env w) (_hba : Hid (ba < 18446744073709551616)) (_hbb : Hid (bb < 18446744073709551616)) (_hbc : Hid (bc < 18446744073709551616)) (g1 : decide ((500 : Int) < sa.size) = false) (g2 : decide ((500 : Int) < sb.size) = false) (g3 : decide ((500 : Int) < sc.size) = true) : Calls Tryd.prog 5 #[.agg #[.int .i64 ka, .int .i64 na, .int .u64 ba, .string sa], .agg #[.int .i64 kb, .int .i64 nb, .int .u64 bb, .string sb], .agg #[.int .i64 kc, .int .i64 nc, .int .u64 bc, .string sc]] w fun e w' => e = .returned (.bool true) ∧ Below w.heap.size w w' := by
  have HE0 := Lib.hid (((he.below ((Below.refl w.heap.size w).alloc (Nat.le_refl _) (.cells #[.int .i64 ka, .int .i64 na, .int .u64 ba, .string sa] 24))).below ((Below.refl (w.alloc (.cells #[.int .i64 ka, .int .i64 na, .int .u64 ba, .string sa] 24)).heap.size (w.alloc (.cells #[.int .i64 ka, .int .i64 na, .int .u64 ba, .string sa] 24))).alloc (Nat.le_refl _) (.cells #[.int .i64 kb, .int .i64 nb, .int .u64 bb, .string sb] 24))).below ((Below.refl ((w.alloc (.cells #[.int .i64 ka, .int .i64 na, .int .u64 ba, .string sa] 24)).alloc (.cells #[.int .i64 kb, .int .i64 nb, .int .u64 bb, .string sb] 24)).heap.size ((w.alloc (.cells #[.int .i64 ka, .int .i64 na, .int .u64 ba, .string sa] 24)).alloc (.cells #[.int .i64 kb, .int .i64 nb, .int .u64 bb, .string sb] 24))).alloc (Nat.le_refl _) (.cells #[.int .i64 kc, .int .i64 nc, .int .u64 bc, .string sc] 24)))
  have T30 := Lib.hid (((Rd.Box.new w ka na ba sa).old (.cells #[.int .i64 kb, .int .i64 nb, .int .u64 bb, .string sb] 24)).old (.cells #[.int .i64 kc, .int .i64 nc, .int .u64 bc, .string sc] 24))
  have T40 := Lib.hid (show Rd.Box (((w.alloc (.cells #[.int .i64 ka, .int .i64 na, .int .u64 ba, .string sa] 24)).alloc (.cells #[.int .i64 kb, .int .i64 nb, .int .u64 bb, .string sb] 24)).alloc (.cells #[.int .i64 kc, .int .i64 nc, .int .u64 bc, .string sc] 24)) (w.heap.size + 1) kb nb bb sb from by have h := (Rd.Box.new (w.alloc (.cells #[.int .i64 ka, .int .i64 na, .int .u64 ba, .string sa] 24)) kb nb bb sb).old (.cells #[.int .i64 kc, .int .i64 nc, .int .u64 bc, .string sc] 24); rwa [show (w.alloc (.cells #[.int .i64 ka, .int .i64 na, .int .u64 ba, .string sa] 24)).heap.size = w.heap.size + 1 from by simp] at h)
  have T50 := Lib.hid (show Rd.Box (((w.alloc (.cells #[.int .i64 ka, .int .i64 na, .int .u64 ba, .string sa] 24)).alloc (.cells #[.int .i64 kb, .int .i64 nb, .int .u64 bb, .string sb] 24)).alloc (.cells #[.int .i64 kc, .int .i64 nc, .int .u64 bc, .string sc] 24)) (w.heap.size + 1 + 1) kc nc bc sc from by have h := Rd.Box.new ((w.alloc (.cells #[.int .i64 ka, .int .i64 na, .int .u64 ba, .string sa] 24)).alloc (.cells #[.int .i64 kb, .int .i64 nb, .int .u64 bb, .string sb] 24)) kc nc bc sc; rwa [show ((w.alloc (.cells #[.int .i64 ka, .int .i64 na, .int .u64 ba, .string sa] 24)).alloc (.cells #[.int .i64 kb, .int .i64 nb, .int .u64 bb, .string sb] 24)).heap.size = w.heap.size + 1 + 1 from by simp] at h)
  have B0 := Lib.hid ((((Below.refl w.heap.size w).alloc (Nat.le_refl _) (.cells #[.int .i64 ka, .int .i64 na, .int .u64 ba, .string sa] 24)).alloc (by simp) (.cells #[.int .i64 kb, .int .i64 nb, .int .u64 bb, .string sb] 24)).alloc (by simp; omega) (.cells #[.int .i64 kc, .int .i64 nc, .int .u64 bc, .string sc] 24))
  have Z0 : w.heap.size ≤ (((w.alloc (.cells #[.int .i64 ka, .int .i64 na, .int .u64 ba, .string sa] 24)).alloc (.cells #[.int .i64 kb, .int .i64 nb, .int .u64 bb, .string sb] 24)).alloc (.cells #[.int .i64 kc, .int .i64 nc, .int .u64 bc, .string sc] 24)).heap.size := by simp; omega
  clear he
  go_enter Tryd.func5, Tryd.ntmps5
  go_wp2_with fail
  refine (Rd.known_any _ HE0.out).mono ?_
  rintro e w99 ⟨rfl, hbn⟩
  have B99 := Lib.hid (B0.out.trans (hbn.mono Z0))
  clear hbn
  go_wp2_with fail
  go_ret
  exact ⟨rfl, B99.out⟩
set_option maxHeartbeats 4000000 in
set_option maxRecDepth 100000 in
theorem or_ra (ka na : Int) (ba : Nat) (sa : ByteArray) (kb nb : Int) (bb : Nat) (sb : ByteArray) (kc nc : Int) (bc : Nat) (sc : ByteArray) (w : World) (he : Val.Env w) (hba : Hid (ba < 18446744073709551616)) (_hbb : Hid (bb < 18446744073709551616)) (_hbc : Hid (bc < 18446744073709551616)) (g1 : decide ((500 : Int) < sa.size) = false) (g2 : decide ((500 : Int) < sb.size) = false) (g3 : decide ((500 : Int) < sc.size) = false) (ra : Hid (Val.rightB ka na ba sa = false)) : Calls Tryd.prog 5 #[.agg #[.int .i64 ka, .int .i64 na, .int .u64 ba, .string sa], .agg #[.int .i64 kb, .int .i64 nb, .int .u64 bb, .string sb], .agg #[.int .i64 kc, .int .i64 nc, .int .u64 bc, .string sc]] w fun e w' => e = .returned (.bool true) ∧ Below w.heap.size w w' := by
  have HE0 := Lib.hid (((he.below ((Below.refl w.heap.size w).alloc (Nat.le_refl _) (.cells #[.int .i64 ka, .int .i64 na, .int .u64 ba, .string sa] 24))).below ((Below.refl (w.alloc (.cells #[.int .i64 ka, .int .i64 na, .int .u64 ba, .string sa] 24)).heap.size (w.alloc (.cells #[.int .i64 ka, .int .i64 na, .int .u64 ba, .string sa] 24))).alloc (Nat.le_refl _) (.cells #[.int .i64 kb, .int .i64 nb, .int .u64 bb, .string sb] 24))).below ((Below.refl ((w.alloc (.cells #[.int .i64 ka, .int .i64 na, .int .u64 ba, .string sa] 24)).alloc (.cells #[.int .i64 kb, .int .i64 nb, .int .u64 bb, .string sb] 24)).heap.size ((w.alloc (.cells #[.int .i64 ka, .int .i64 na, .int .u64 ba, .string sa] 24)).alloc (.cells #[.int .i64 kb, .int .i64 nb, .int .u64 bb, .string sb] 24))).alloc (Nat.le_refl _) (.cells #[.int .i64 kc, .int .i64 nc, .int .u64 bc, .string sc] 24)))
  have T30 := Lib.hid (((Rd.Box.new w ka na ba sa).old (.cells #[.int .i64 kb, .int .i64 nb, .int .u64 bb, .string sb] 24)).old (.cells #[.int .i64 kc, .int .i64 nc, .int .u64 bc, .string sc] 24))
  have T40 := Lib.hid (show Rd.Box (((w.alloc (.cells #[.int .i64 ka, .int .i64 na, .int .u64 ba, .string sa] 24)).alloc (.cells #[.int .i64 kb, .int .i64 nb, .int .u64 bb, .string sb] 24)).alloc (.cells #[.int .i64 kc, .int .i64 nc, .int .u64 bc, .string sc] 24)) (w.heap.size + 1) kb nb bb sb from by have h := (Rd.Box.new (w.alloc (.cells #[.int .i64 ka, .int .i64 na, .int .u64 ba, .string sa] 24)) kb nb bb sb).old (.cells #[.int .i64 kc, .int .i64 nc, .int .u64 bc, .string sc] 24); rwa [show (w.alloc (.cells #[.int .i64 ka, .int .i64 na, .int .u64 ba, .string sa] 24)).heap.size = w.heap.size + 1 from by simp] at h)
  have T50 := Lib.hid (show Rd.Box (((w.alloc (.cells #[.int .i64 ka, .int .i64 na, .int .u64 ba, .string sa] 24)).alloc (.cells #[.int .i64 kb, .int .i64 nb, .int .u64 bb, .string sb] 24)).alloc (.cells #[.int .i64 kc, .int .i64 nc, .int .u64 bc, .string sc] 24)) (w.heap.size + 1 + 1) kc nc bc sc from by have h := Rd.Box.new ((w.alloc (.cells #[.int .i64 ka, .int .i64 na, .int .u64 ba, .string sa] 24)).alloc (.cells #[.int .i64 kb, .int .i64 nb, .int .u64 bb, .string sb] 24)) kc nc bc sc; rwa [show ((w.alloc (.cells #[.int .i64 ka, .int .i64 na, .int .u64 ba, .string sa] 24)).alloc (.cells #[.int .i64 kb, .int .i64 nb, .int .u64 bb, .string sb] 24)).heap.size = w.heap.size + 1 + 1 from by simp] at h)
  have B0 := Lib.hid ((((Below.refl w.heap.size w).alloc (Nat.le_refl _) (.cells #[.int .i64 ka, .int .i64 na, .int .u64 ba, .string sa] 24)).alloc (by simp) (.cells #[.int .i64 kb, .int .i64 nb, .int .u64 bb, .string sb] 24)).alloc (by simp; omega) (.cells #[.int .i64 kc, .int .i64 nc, .int .u64 bc, .string sc] 24))
  have Z0 : w.heap.size ≤ (((w.alloc (.cells #[.int .i64 ka, .int .i64 na, .int .u64 ba, .string sa] 24)).alloc (.cells #[.int .i64 kb, .int .i64 nb, .int .u64 bb, .string sb] 24)).alloc (.cells #[.int .i64 kc, .int .i64 nc, .int .u64 bc, .string sc] 24)).heap.size := by simp; omega
  clear he
  go_enter Tryd.func5, Tryd.ntmps5
  go_wp2_with fail
  refine (ref_is ka na ba sa hba.out _ ra.out _).mono ?_
  rintro e w1 ⟨rfl, hbn⟩
  have HE1 := Lib.hid (HE0.out.below hbn)
  have T31 := Lib.hid (T30.out.below hbn)
  have T41 := Lib.hid (T40.out.below hbn)
  have T51 := Lib.hid (T50.out.below hbn)
  have B1 := Lib.hid (B0.out.trans (hbn.mono Z0))
  have Z1 : w.heap.size ≤ w1.heap.size := Nat.le_trans Z0 hbn.size
  clear hbn HE0 B0 Z0 T30 T40 T50
  go_wp2_with fail
  refine (Rd.known_any _ HE1.out).mono ?_
  rintro e w99 ⟨rfl, hbn⟩
  have B99 := Lib.hid (B1.out.trans (hbn.mono Z1))
  clear hbn
  go_wp2_with fail
  go_ret
  exact ⟨rfl, B99.out⟩
set_option maxHeartbeats 4000000 in
set_option maxRecDepth 100000 in
theorem or_rb (ka na : Int) (ba : Nat) (sa : ByteArray) (kb nb : Int) (bb : Nat) (sb : ByteArray) (kc nc : Int) (bc : Nat) (sc : ByteArray) (w : World) (he : Val.Env w) (hba : Hid (ba < 18446744073709551616)) (hbb : Hid (bb < 18446744073709551616)) (_hbc : Hid (bc < 18446744073709551616)) (g1 : decide ((500 : Int) < sa.size) = false) (g2 : decide ((500 : Int) < sb.size) = false) (g3 : decide ((500 : Int) < sc.size) = false) (ra : Hid (Val.rightB ka na ba sa = true)) (rb : Hid (Val.rightB kb nb bb sb = false)) : Calls Tryd.prog 5 #[.agg #[.int .i64 ka, .int .i64 na, .int .u64 ba, .string sa], .agg #[.int .i64 kb, .int .i64 nb, .int .u64 bb, .string sb], .agg #[.int .i64 kc, .int .i64 nc, .int .u64 bc, .string sc]] w fun e w' => e = .returned (.bool true) ∧ Below w.heap.size w w' := by
  have HE0 := Lib.hid (((he.below ((Below.refl w.heap.size w).alloc (Nat.le_refl _) (.cells #[.int .i64 ka, .int .i64 na, .int .u64 ba, .string sa] 24))).below ((Below.refl (w.alloc (.cells #[.int .i64 ka, .int .i64 na, .int .u64 ba, .string sa] 24)).heap.size (w.alloc (.cells #[.int .i64 ka, .int .i64 na, .int .u64 ba, .string sa] 24))).alloc (Nat.le_refl _) (.cells #[.int .i64 kb, .int .i64 nb, .int .u64 bb, .string sb] 24))).below ((Below.refl ((w.alloc (.cells #[.int .i64 ka, .int .i64 na, .int .u64 ba, .string sa] 24)).alloc (.cells #[.int .i64 kb, .int .i64 nb, .int .u64 bb, .string sb] 24)).heap.size ((w.alloc (.cells #[.int .i64 ka, .int .i64 na, .int .u64 ba, .string sa] 24)).alloc (.cells #[.int .i64 kb, .int .i64 nb, .int .u64 bb, .string sb] 24))).alloc (Nat.le_refl _) (.cells #[.int .i64 kc, .int .i64 nc, .int .u64 bc, .string sc] 24)))
  have T30 := Lib.hid (((Rd.Box.new w ka na ba sa).old (.cells #[.int .i64 kb, .int .i64 nb, .int .u64 bb, .string sb] 24)).old (.cells #[.int .i64 kc, .int .i64 nc, .int .u64 bc, .string sc] 24))
  have T40 := Lib.hid (show Rd.Box (((w.alloc (.cells #[.int .i64 ka, .int .i64 na, .int .u64 ba, .string sa] 24)).alloc (.cells #[.int .i64 kb, .int .i64 nb, .int .u64 bb, .string sb] 24)).alloc (.cells #[.int .i64 kc, .int .i64 nc, .int .u64 bc, .string sc] 24)) (w.heap.size + 1) kb nb bb sb from by have h := (Rd.Box.new (w.alloc (.cells #[.int .i64 ka, .int .i64 na, .int .u64 ba, .string sa] 24)) kb nb bb sb).old (.cells #[.int .i64 kc, .int .i64 nc, .int .u64 bc, .string sc] 24); rwa [show (w.alloc (.cells #[.int .i64 ka, .int .i64 na, .int .u64 ba, .string sa] 24)).heap.size = w.heap.size + 1 from by simp] at h)
  have T50 := Lib.hid (show Rd.Box (((w.alloc (.cells #[.int .i64 ka, .int .i64 na, .int .u64 ba, .string sa] 24)).alloc (.cells #[.int .i64 kb, .int .i64 nb, .int .u64 bb, .string sb] 24)).alloc (.cells #[.int .i64 kc, .int .i64 nc, .int .u64 bc, .string sc] 24)) (w.heap.size + 1 + 1) kc nc bc sc from by have h := Rd.Box.new ((w.alloc (.cells #[.int .i64 ka, .int .i64 na, .int .u64 ba, .string sa] 24)).alloc (.cells #[.int .i64 kb, .int .i64 nb, .int .u64 bb, .string sb] 24)) kc nc bc sc; rwa [show ((w.alloc (.cells #[.int .i64 ka, .int .i64 na, .int .u64 ba, .string sa] 24)).alloc (.cells #[.int .i64 kb, .int .i64 nb, .int .u64 bb, .string sb] 24)).heap.size = w.heap.size + 1 + 1 from by simp] at h)
  have B0 := Lib.hid ((((Below.refl w.heap.size w).alloc (Nat.le_refl _) (.cells #[.int .i64 ka, .int .i64 na, .int .u64 ba, .string sa] 24)).alloc (by simp) (.cells #[.int .i64 kb, .int .i64 nb, .int .u64 bb, .string sb] 24)).alloc (by simp; omega) (.cells #[.int .i64 kc, .int .i64 nc, .int .u64 bc, .string sc] 24))
  have Z0 : w.heap.size ≤ (((w.alloc (.cells #[.int .i64 ka, .int .i64 na, .int .u64 ba, .string sa] 24)).alloc (.cells #[.int .i64 kb, .int .i64 nb, .int .u64 bb, .string sb] 24)).alloc (.cells #[.int .i64 kc, .int .i64 nc, .int .u64 bc, .string sc] 24)).heap.size := by simp; omega
  clear he
  go_enter Tryd.func5, Tryd.ntmps5
  go_wp2_with fail
  refine (ref_is ka na ba sa hba.out _ ra.out _).mono ?_
  rintro e w1 ⟨rfl, hbn⟩
  have HE1 := Lib.hid (HE0.out.below hbn)
  have T31 := Lib.hid (T30.out.below hbn)
  have T41 := Lib.hid (T40.out.below hbn)
  have T51 := Lib.hid (T50.out.below hbn)
  have B1 := Lib.hid (B0.out.trans (hbn.mono Z0))
  have Z1 : w.heap.size ≤ w1.heap.size := Nat.le_trans Z0 hbn.size
  clear hbn HE0 B0 Z0 T30 T40 T50
  have qT40 := T41.out.c0
  have qT41 := T41.out.c1
  have qT42 := T41.out.c2
  have qT43 := T41.out.c3
  go_wp2_with fail
  refine (ref_is kb nb bb sb hbb.out _ rb.out _).mono ?_
  rintro e w2 ⟨rfl, hbn⟩
  clear qT40 qT41 qT42 qT43
  have HE2 := Lib.hid (HE1.out.below hbn)
  have T32 := Lib.hid (T31.out.below hbn)
  have T42 := Lib.hid (T41.out.below hbn)
  have T52 := Lib.hid (T51.out.below hbn)
  have B2 := Lib.hid (B1.out.trans (hbn.mono Z1))
  have Z2 : w.heap.size ≤ w2.heap.size := Nat.le_trans Z1 hbn.size
  clear hbn HE1 B1 Z1 T31 T41 T51
  go_wp2_with fail
  refine (Rd.known_any _ HE2.out).mono ?_
  rintro e w99 ⟨rfl, hbn⟩
  have B99 := Lib.hid (B2.out.trans (hbn.mono Z2))
  clear hbn
  go_wp2_with fail
  go_ret
  exact ⟨rfl, B99.out⟩
set_option maxHeartbeats 4000000 in
set_option maxRecDepth 100000 in
theorem or_rc (ka na : Int) (ba : Nat) (sa : ByteArray) (kb nb : Int) (bb : Nat) (sb : ByteArray) (kc nc : Int) (bc : Nat) (sc : ByteArray) (w : World) (he : Val.Env w) (hba : Hid (ba < 18446744073709551616)) (hbb : Hid (bb < 18446744073709551616)) (hbc : Hid (bc < 18446744073709551616)) (g1 : decide ((500 : Int) < sa.size) = false) (g2 : decide ((500 : Int) < sb.size) = false) (g3 : decide ((500 : Int) < sc.size) = false) (ra : Hid (Val.rightB ka na ba sa = true)) (rb : Hid (Val.rightB kb nb bb sb = true)) (rc : Hid (Val.rightB kc nc bc sc = false)) : Calls Tryd.prog 5 #[.agg #[.int .i64 ka, .int .i64 na, .int .u64 ba, .string sa], .agg #[.int .i64 kb, .int .i64 nb, .int .u64 bb, .string sb], .agg #[.int .i64 kc, .int .i64 nc, .int .u64 bc, .string sc]] w fun e w' => e = .returned (.bool true) ∧ Below w.heap.size w w' := by
  have HE0 := Lib.hid (((he.below ((Below.refl w.heap.size w).alloc (Nat.le_refl _) (.cells #[.int .i64 ka, .int .i64 na, .int .u64 ba, .string sa] 24))).below ((Below.refl (w.alloc (.cells #[.int .i64 ka, .int .i64 na, .int .u64 ba, .string sa] 24)).heap.size (w.alloc (.cells #[.int .i64 ka, .int .i64 na, .int .u64 ba, .string sa] 24))).alloc (Nat.le_refl _) (.cells #[.int .i64 kb, .int .i64 nb, .int .u64 bb, .string sb] 24))).below ((Below.refl ((w.alloc (.cells #[.int .i64 ka, .int .i64 na, .int .u64 ba, .string sa] 24)).alloc (.cells #[.int .i64 kb, .int .i64 nb, .int .u64 bb, .string sb] 24)).heap.size ((w.alloc (.cells #[.int .i64 ka, .int .i64 na, .int .u64 ba, .string sa] 24)).alloc (.cells #[.int .i64 kb, .int .i64 nb, .int .u64 bb, .string sb] 24))).alloc (Nat.le_refl _) (.cells #[.int .i64 kc, .int .i64 nc, .int .u64 bc, .string sc] 24)))
  have T30 := Lib.hid (((Rd.Box.new w ka na ba sa).old (.cells #[.int .i64 kb, .int .i64 nb, .int .u64 bb, .string sb] 24)).old (.cells #[.int .i64 kc, .int .i64 nc, .int .u64 bc, .string sc] 24))
  have T40 := Lib.hid (show Rd.Box (((w.alloc (.cells #[.int .i64 ka, .int .i64 na, .int .u64 ba, .string sa] 24)).alloc (.cells #[.int .i64 kb, .int .i64 nb, .int .u64 bb, .string sb] 24)).alloc (.cells #[.int .i64 kc, .int .i64 nc, .int .u64 bc, .string sc] 24)) (w.heap.size + 1) kb nb bb sb from by have h := (Rd.Box.new (w.alloc (.cells #[.int .i64 ka, .int .i64 na, .int .u64 ba, .string sa] 24)) kb nb bb sb).old (.cells #[.int .i64 kc, .int .i64 nc, .int .u64 bc, .string sc] 24); rwa [show (w.alloc (.cells #[.int .i64 ka, .int .i64 na, .int .u64 ba, .string sa] 24)).heap.size = w.heap.size + 1 from by simp] at h)
  have T50 := Lib.hid (show Rd.Box (((w.alloc (.cells #[.int .i64 ka, .int .i64 na, .int .u64 ba, .string sa] 24)).alloc (.cells #[.int .i64 kb, .int .i64 nb, .int .u64 bb, .string sb] 24)).alloc (.cells #[.int .i64 kc, .int .i64 nc, .int .u64 bc, .string sc] 24)) (w.heap.size + 1 + 1) kc nc bc sc from by have h := Rd.Box.new ((w.alloc (.cells #[.int .i64 ka, .int .i64 na, .int .u64 ba, .string sa] 24)).alloc (.cells #[.int .i64 kb, .int .i64 nb, .int .u64 bb, .string sb] 24)) kc nc bc sc; rwa [show ((w.alloc (.cells #[.int .i64 ka, .int .i64 na, .int .u64 ba, .string sa] 24)).alloc (.cells #[.int .i64 kb, .int .i64 nb, .int .u64 bb, .string sb] 24)).heap.size = w.heap.size + 1 + 1 from by simp] at h)
  have B0 := Lib.hid ((((Below.refl w.heap.size w).alloc (Nat.le_refl _) (.cells #[.int .i64 ka, .int .i64 na, .int .u64 ba, .string sa] 24)).alloc (by simp) (.cells #[.int .i64 kb, .int .i64 nb, .int .u64 bb, .string sb] 24)).alloc (by simp; omega) (.cells #[.int .i64 kc, .int .i64 nc, .int .u64 bc, .string sc] 24))
  have Z0 : w.heap.size ≤ (((w.alloc (.cells #[.int .i64 ka, .int .i64 na, .int .u64 ba, .string sa] 24)).alloc (.cells #[.int .i64 kb, .int .i64 nb, .int .u64 bb, .string sb] 24)).alloc (.cells #[.int .i64 kc, .int .i64 nc, .int .u64 bc, .string sc] 24)).heap.size := by simp; omega
  clear he
  go_enter Tryd.func5, Tryd.ntmps5
  go_wp2_with fail
  refine (ref_is ka na ba sa hba.out _ ra.out _).mono ?_
  rintro e w1 ⟨rfl, hbn⟩
  have HE1 := Lib.hid (HE0.out.below hbn)
  have T31 := Lib.hid (T30.out.below hbn)
  have T41 := Lib.hid (T40.out.below hbn)
  have T51 := Lib.hid (T50.out.below hbn)
  have B1 := Lib.hid (B0.out.trans (hbn.mono Z0))
  have Z1 : w.heap.size ≤ w1.heap.size := Nat.le_trans Z0 hbn.size
  clear hbn HE0 B0 Z0 T30 T40 T50
  have qT40 := T41.out.c0
  have qT41 := T41.out.c1
  have qT42 := T41.out.c2
  have qT43 := T41.out.c3
  go_wp2_with fail
  refine (ref_is kb nb bb sb hbb.out _ rb.out _).mono ?_
  rintro e w2 ⟨rfl, hbn⟩
  clear qT40 qT41 qT42 qT43
  have HE2 := Lib.hid (HE1.out.below hbn)
  have T32 := Lib.hid (T31.out.below hbn)
  have T42 := Lib.hid (T41.out.below hbn)
  have T52 := Lib.hid (T51.out.below hbn)
  have B2 := Lib.hid (B1.out.trans (hbn.mono Z1))
  have Z2 : w.heap.size ≤ w2.heap.size := Nat.le_trans Z1 hbn.size
  clear hbn HE1 B1 Z1 T31 T41 T51
  have qT50 := T52.out.c0
  have qT51 := T52.out.c1
  have qT52 := T52.out.c2
  have qT53 := T52.out.c3
  go_wp2_with fail
  refine (ref_is kc nc bc sc hbc.out _ rc.out _).mono ?_
  rintro e w3 ⟨rfl, hbn⟩
  clear qT50 qT51 qT52 qT53
  have HE3 := Lib.hid (HE2.out.below hbn)
  have T33 := Lib.hid (T32.out.below hbn)
  have T43 := Lib.hid (T42.out.below hbn)
  have T53 := Lib.hid (T52.out.below hbn)
  have B3 := Lib.hid (B2.out.trans (hbn.mono Z2))
  have Z3 : w.heap.size ≤ w3.heap.size := Nat.le_trans Z2 hbn.size
  clear hbn HE2 B2 Z2 T32 T42 T52
  go_wp2_with fail
  refine (Rd.known_any _ HE3.out).mono ?_
  rintro e w99 ⟨rfl, hbn⟩
  have B99 := Lib.hid (B3.out.trans (hbn.mono Z3))
  clear hbn
  go_wp2_with fail
  go_ret
  exact ⟨rfl, B99.out⟩
set_option maxHeartbeats 4000000 in
set_option maxRecDepth 100000 in
theorem or_p (ka na : Int) (ba : Nat) (sa : ByteArray) (kb nb : Int) (bb : Nat) (sb : ByteArray) (kc nc : Int) (bc : Nat) (sc : ByteArray) (w : World) (he : Val.Env w) (hba : Hid (ba < 18446744073709551616)) (hbb : Hid (bb < 18446744073709551616)) (hbc : Hid (bc < 18446744073709551616)) (g1 : decide ((500 : Int) < sa.size) = false) (g2 : decide ((500 : Int) < sb.size) = false) (g3 : decide ((500 : Int) < sc.size) = false) (ra : Hid (Val.rightB ka na ba sa = true)) (rb : Hid (Val.rightB kb nb bb sb = true)) (rc : Hid (Val.rightB kc nc bc sc = true)) (x y z u : Int) (hx : Hid (Val.cmpV ka na ba sa kb nb bb sb = x)) (hy : Hid (Val.cmpV kb nb bb sb kc nc bc sc = y)) (hz : Hid (Val.cmpV ka na ba sa kc nc bc sc = z)) (hu : Hid (Val.cmpV kb nb bb sb ka na ba sa = u)) (sm : Bool) (hsm : Hid (Val.sameB ka na ba sa kb nb bb sb = sm)) (ex : x = 1) (eu : u = -1) (es : sm = false)  : Calls Tryd.prog 5 #[.agg #[.int .i64 ka, .int .i64 na, .int .u64 ba, .string sa], .agg #[.int .i64 kb, .int .i64 nb, .int .u64 bb, .string sb], .agg #[.int .i64 kc, .int .i64 nc, .int .u64 bc, .string sc]] w fun e w' => e = .returned (.bool true) ∧ Below w.heap.size w w' := by
  subst ex eu es
  have HE0 := Lib.hid (((he.below ((Below.refl w.heap.size w).alloc (Nat.le_refl _) (.cells #[.int .i64 ka, .int .i64 na, .int .u64 ba, .string sa] 24))).below ((Below.refl (w.alloc (.cells #[.int .i64 ka, .int .i64 na, .int .u64 ba, .string sa] 24)).heap.size (w.alloc (.cells #[.int .i64 ka, .int .i64 na, .int .u64 ba, .string sa] 24))).alloc (Nat.le_refl _) (.cells #[.int .i64 kb, .int .i64 nb, .int .u64 bb, .string sb] 24))).below ((Below.refl ((w.alloc (.cells #[.int .i64 ka, .int .i64 na, .int .u64 ba, .string sa] 24)).alloc (.cells #[.int .i64 kb, .int .i64 nb, .int .u64 bb, .string sb] 24)).heap.size ((w.alloc (.cells #[.int .i64 ka, .int .i64 na, .int .u64 ba, .string sa] 24)).alloc (.cells #[.int .i64 kb, .int .i64 nb, .int .u64 bb, .string sb] 24))).alloc (Nat.le_refl _) (.cells #[.int .i64 kc, .int .i64 nc, .int .u64 bc, .string sc] 24)))
  have T30 := Lib.hid (((Rd.Box.new w ka na ba sa).old (.cells #[.int .i64 kb, .int .i64 nb, .int .u64 bb, .string sb] 24)).old (.cells #[.int .i64 kc, .int .i64 nc, .int .u64 bc, .string sc] 24))
  have T40 := Lib.hid (show Rd.Box (((w.alloc (.cells #[.int .i64 ka, .int .i64 na, .int .u64 ba, .string sa] 24)).alloc (.cells #[.int .i64 kb, .int .i64 nb, .int .u64 bb, .string sb] 24)).alloc (.cells #[.int .i64 kc, .int .i64 nc, .int .u64 bc, .string sc] 24)) (w.heap.size + 1) kb nb bb sb from by have h := (Rd.Box.new (w.alloc (.cells #[.int .i64 ka, .int .i64 na, .int .u64 ba, .string sa] 24)) kb nb bb sb).old (.cells #[.int .i64 kc, .int .i64 nc, .int .u64 bc, .string sc] 24); rwa [show (w.alloc (.cells #[.int .i64 ka, .int .i64 na, .int .u64 ba, .string sa] 24)).heap.size = w.heap.size + 1 from by simp] at h)
  have T50 := Lib.hid (show Rd.Box (((w.alloc (.cells #[.int .i64 ka, .int .i64 na, .int .u64 ba, .string sa] 24)).alloc (.cells #[.int .i64 kb, .int .i64 nb, .int .u64 bb, .string sb] 24)).alloc (.cells #[.int .i64 kc, .int .i64 nc, .int .u64 bc, .string sc] 24)) (w.heap.size + 1 + 1) kc nc bc sc from by have h := Rd.Box.new ((w.alloc (.cells #[.int .i64 ka, .int .i64 na, .int .u64 ba, .string sa] 24)).alloc (.cells #[.int .i64 kb, .int .i64 nb, .int .u64 bb, .string sb] 24)) kc nc bc sc; rwa [show ((w.alloc (.cells #[.int .i64 ka, .int .i64 na, .int .u64 ba, .string sa] 24)).alloc (.cells #[.int .i64 kb, .int .i64 nb, .int .u64 bb, .string sb] 24)).heap.size = w.heap.size + 1 + 1 from by simp] at h)
  have B0 := Lib.hid ((((Below.refl w.heap.size w).alloc (Nat.le_refl _) (.cells #[.int .i64 ka, .int .i64 na, .int .u64 ba, .string sa] 24)).alloc (by simp) (.cells #[.int .i64 kb, .int .i64 nb, .int .u64 bb, .string sb] 24)).alloc (by simp; omega) (.cells #[.int .i64 kc, .int .i64 nc, .int .u64 bc, .string sc] 24))
  have Z0 : w.heap.size ≤ (((w.alloc (.cells #[.int .i64 ka, .int .i64 na, .int .u64 ba, .string sa] 24)).alloc (.cells #[.int .i64 kb, .int .i64 nb, .int .u64 bb, .string sb] 24)).alloc (.cells #[.int .i64 kc, .int .i64 nc, .int .u64 bc, .string sc] 24)).heap.size := by simp; omega
  clear he
  go_enter Tryd.func5, Tryd.ntmps5
  go_wp2_with fail
  refine (ref_is ka na ba sa hba.out _ ra.out _).mono ?_
  rintro e w1 ⟨rfl, hbn⟩
  have HE1 := Lib.hid (HE0.out.below hbn)
  have T31 := Lib.hid (T30.out.below hbn)
  have T41 := Lib.hid (T40.out.below hbn)
  have T51 := Lib.hid (T50.out.below hbn)
  have B1 := Lib.hid (B0.out.trans (hbn.mono Z0))
  have Z1 : w.heap.size ≤ w1.heap.size := Nat.le_trans Z0 hbn.size
  clear hbn HE0 B0 Z0 T30 T40 T50
  have qT40 := T41.out.c0
  have qT41 := T41.out.c1
  have qT42 := T41.out.c2
  have qT43 := T41.out.c3
  go_wp2_with fail
  refine (ref_is kb nb bb sb hbb.out _ rb.out _).mono ?_
  rintro e w2 ⟨rfl, hbn⟩
  clear qT40 qT41 qT42 qT43
  have HE2 := Lib.hid (HE1.out.below hbn)
  have T32 := Lib.hid (T31.out.below hbn)
  have T42 := Lib.hid (T41.out.below hbn)
  have T52 := Lib.hid (T51.out.below hbn)
  have B2 := Lib.hid (B1.out.trans (hbn.mono Z1))
  have Z2 : w.heap.size ≤ w2.heap.size := Nat.le_trans Z1 hbn.size
  clear hbn HE1 B1 Z1 T31 T41 T51
  have qT50 := T52.out.c0
  have qT51 := T52.out.c1
  have qT52 := T52.out.c2
  have qT53 := T52.out.c3
  go_wp2_with fail
  refine (ref_is kc nc bc sc hbc.out _ rc.out _).mono ?_
  rintro e w3 ⟨rfl, hbn⟩
  clear qT50 qT51 qT52 qT53
  have HE3 := Lib.hid (HE2.out.below hbn)
  have T33 := Lib.hid (T32.out.below hbn)
  have T43 := Lib.hid (T42.out.below hbn)
  have T53 := Lib.hid (T52.out.below hbn)
  have B3 := Lib.hid (B2.out.trans (hbn.mono Z2))
  have Z3 : w.heap.size ≤ w3.heap.size := Nat.le_trans Z2 hbn.size
  clear hbn HE2 B2 Z2 T32 T42 T52
  have qT30 := T33.out.c0
  have qT31 := T33.out.c1
  have qT32 := T33.out.c2
  have qT33 := T33.out.c3
  have qT40 := T43.out.c0
  have qT41 := T43.out.c1
  have qT42 := T43.out.c2
  have qT43 := T43.out.c3
  go_wp2_with fail
  refine (cmp_is ka na ba sa kb nb bb sb _ hx.out _).mono ?_
  rintro e w4 ⟨rfl, hbn⟩
  clear qT30 qT31 qT32 qT33 qT40 qT41 qT42 qT43
  have HE4 := Lib.hid (HE3.out.below hbn)
  have T34 := Lib.hid (T33.out.below hbn)
  have T44 := Lib.hid (T43.out.below hbn)
  have T54 := Lib.hid (T53.out.below hbn)
  have B4 := Lib.hid (B3.out.trans (hbn.mono Z3))
  have Z4 : w.heap.size ≤ w4.heap.size := Nat.le_trans Z3 hbn.size
  clear hbn HE3 B3 Z3 T33 T43 T53
  have qT40 := T44.out.c0
  have qT41 := T44.out.c1
  have qT42 := T44.out.c2
  have qT43 := T44.out.c3
  have qT50 := T54.out.c0
  have qT51 := T54.out.c1
  have qT52 := T54.out.c2
  have qT53 := T54.out.c3
  go_wp2_with fail
  refine (cmp_is kb nb bb sb kc nc bc sc _ hy.out _).mono ?_
  rintro e w5 ⟨rfl, hbn⟩
  clear qT40 qT41 qT42 qT43 qT50 qT51 qT52 qT53
  have HE5 := Lib.hid (HE4.out.below hbn)
  have T35 := Lib.hid (T34.out.below hbn)
  have T45 := Lib.hid (T44.out.below hbn)
  have T55 := Lib.hid (T54.out.below hbn)
  have B5 := Lib.hid (B4.out.trans (hbn.mono Z4))
  have Z5 : w.heap.size ≤ w5.heap.size := Nat.le_trans Z4 hbn.size
  clear hbn HE4 B4 Z4 T34 T44 T54
  have qT30 := T35.out.c0
  have qT31 := T35.out.c1
  have qT32 := T35.out.c2
  have qT33 := T35.out.c3
  have qT50 := T55.out.c0
  have qT51 := T55.out.c1
  have qT52 := T55.out.c2
  have qT53 := T55.out.c3
  go_wp2_with fail
  refine (cmp_is ka na ba sa kc nc bc sc _ hz.out _).mono ?_
  rintro e w6 ⟨rfl, hbn⟩
  clear qT30 qT31 qT32 qT33 qT50 qT51 qT52 qT53
  have HE6 := Lib.hid (HE5.out.below hbn)
  have T36 := Lib.hid (T35.out.below hbn)
  have T46 := Lib.hid (T45.out.below hbn)
  have T56 := Lib.hid (T55.out.below hbn)
  have B6 := Lib.hid (B5.out.trans (hbn.mono Z5))
  have Z6 : w.heap.size ≤ w6.heap.size := Nat.le_trans Z5 hbn.size
  clear hbn HE5 B5 Z5 T35 T45 T55
  have qT40 := T46.out.c0
  have qT41 := T46.out.c1
  have qT42 := T46.out.c2
  have qT43 := T46.out.c3
  have qT30 := T36.out.c0
  have qT31 := T36.out.c1
  have qT32 := T36.out.c2
  have qT33 := T36.out.c3
  go_wp2_with fail
  refine (cmp_is kb nb bb sb ka na ba sa _ hu.out _).mono ?_
  rintro e w7 ⟨rfl, hbn⟩
  clear qT40 qT41 qT42 qT43 qT30 qT31 qT32 qT33
  have HE7 := Lib.hid (HE6.out.below hbn)
  have T37 := Lib.hid (T36.out.below hbn)
  have T47 := Lib.hid (T46.out.below hbn)
  have T57 := Lib.hid (T56.out.below hbn)
  have B7 := Lib.hid (B6.out.trans (hbn.mono Z6))
  have Z7 : w.heap.size ≤ w7.heap.size := Nat.le_trans Z6 hbn.size
  clear hbn HE6 B6 Z6 T36 T46 T56
  have qT30 := T37.out.c0
  have qT31 := T37.out.c1
  have qT32 := T37.out.c2
  have qT33 := T37.out.c3
  have qT40 := T47.out.c0
  have qT41 := T47.out.c1
  have qT42 := T47.out.c2
  have qT43 := T47.out.c3
  go_wp2_with fail
  refine (same_is ka na ba sa kb nb bb sb _ hsm.out _).mono ?_
  rintro e w8 ⟨rfl, hbn⟩
  clear qT30 qT31 qT32 qT33 qT40 qT41 qT42 qT43
  have HE8 := Lib.hid (HE7.out.below hbn)
  have T38 := Lib.hid (T37.out.below hbn)
  have T48 := Lib.hid (T47.out.below hbn)
  have T58 := Lib.hid (T57.out.below hbn)
  have B8 := Lib.hid (B7.out.trans (hbn.mono Z7))
  have Z8 : w.heap.size ≤ w8.heap.size := Nat.le_trans Z7 hbn.size
  clear hbn HE7 B7 Z7 T37 T47 T57
  go_wp2_with fail
  refine (Rd.known_any _ HE8.out).mono ?_
  rintro e w99 ⟨rfl, hbn⟩
  have B99 := Lib.hid (B8.out.trans (hbn.mono Z8))
  clear hbn
  go_wp2_with fail
  go_ret
  exact ⟨rfl, B99.out⟩
set_option maxHeartbeats 4000000 in
set_option maxRecDepth 100000 in
theorem or_zp (ka na : Int) (ba : Nat) (sa : ByteArray) (kb nb : Int) (bb : Nat) (sb : ByteArray) (kc nc : Int) (bc : Nat) (sc : ByteArray) (w : World) (he : Val.Env w) (hba : Hid (ba < 18446744073709551616)) (hbb : Hid (bb < 18446744073709551616)) (hbc : Hid (bc < 18446744073709551616)) (g1 : decide ((500 : Int) < sa.size) = false) (g2 : decide ((500 : Int) < sb.size) = false) (g3 : decide ((500 : Int) < sc.size) = false) (ra : Hid (Val.rightB ka na ba sa = true)) (rb : Hid (Val.rightB kb nb bb sb = true)) (rc : Hid (Val.rightB kc nc bc sc = true)) (x y z u : Int) (hx : Hid (Val.cmpV ka na ba sa kb nb bb sb = x)) (hy : Hid (Val.cmpV kb nb bb sb kc nc bc sc = y)) (hz : Hid (Val.cmpV ka na ba sa kc nc bc sc = z)) (hu : Hid (Val.cmpV kb nb bb sb ka na ba sa = u)) (sm : Bool) (hsm : Hid (Val.sameB ka na ba sa kb nb bb sb = sm)) (ex : x = 0) (eu : u = 0) (es : sm = true) (fy : decide (0 < y) = true) : Calls Tryd.prog 5 #[.agg #[.int .i64 ka, .int .i64 na, .int .u64 ba, .string sa], .agg #[.int .i64 kb, .int .i64 nb, .int .u64 bb, .string sb], .agg #[.int .i64 kc, .int .i64 nc, .int .u64 bc, .string sc]] w fun e w' => e = .returned (.bool true) ∧ Below w.heap.size w w' := by
  subst ex eu es
  have HE0 := Lib.hid (((he.below ((Below.refl w.heap.size w).alloc (Nat.le_refl _) (.cells #[.int .i64 ka, .int .i64 na, .int .u64 ba, .string sa] 24))).below ((Below.refl (w.alloc (.cells #[.int .i64 ka, .int .i64 na, .int .u64 ba, .string sa] 24)).heap.size (w.alloc (.cells #[.int .i64 ka, .int .i64 na, .int .u64 ba, .string sa] 24))).alloc (Nat.le_refl _) (.cells #[.int .i64 kb, .int .i64 nb, .int .u64 bb, .string sb] 24))).below ((Below.refl ((w.alloc (.cells #[.int .i64 ka, .int .i64 na, .int .u64 ba, .string sa] 24)).alloc (.cells #[.int .i64 kb, .int .i64 nb, .int .u64 bb, .string sb] 24)).heap.size ((w.alloc (.cells #[.int .i64 ka, .int .i64 na, .int .u64 ba, .string sa] 24)).alloc (.cells #[.int .i64 kb, .int .i64 nb, .int .u64 bb, .string sb] 24))).alloc (Nat.le_refl _) (.cells #[.int .i64 kc, .int .i64 nc, .int .u64 bc, .string sc] 24)))
  have T30 := Lib.hid (((Rd.Box.new w ka na ba sa).old (.cells #[.int .i64 kb, .int .i64 nb, .int .u64 bb, .string sb] 24)).old (.cells #[.int .i64 kc, .int .i64 nc, .int .u64 bc, .string sc] 24))
  have T40 := Lib.hid (show Rd.Box (((w.alloc (.cells #[.int .i64 ka, .int .i64 na, .int .u64 ba, .string sa] 24)).alloc (.cells #[.int .i64 kb, .int .i64 nb, .int .u64 bb, .string sb] 24)).alloc (.cells #[.int .i64 kc, .int .i64 nc, .int .u64 bc, .string sc] 24)) (w.heap.size + 1) kb nb bb sb from by have h := (Rd.Box.new (w.alloc (.cells #[.int .i64 ka, .int .i64 na, .int .u64 ba, .string sa] 24)) kb nb bb sb).old (.cells #[.int .i64 kc, .int .i64 nc, .int .u64 bc, .string sc] 24); rwa [show (w.alloc (.cells #[.int .i64 ka, .int .i64 na, .int .u64 ba, .string sa] 24)).heap.size = w.heap.size + 1 from by simp] at h)
  have T50 := Lib.hid (show Rd.Box (((w.alloc (.cells #[.int .i64 ka, .int .i64 na, .int .u64 ba, .string sa] 24)).alloc (.cells #[.int .i64 kb, .int .i64 nb, .int .u64 bb, .string sb] 24)).alloc (.cells #[.int .i64 kc, .int .i64 nc, .int .u64 bc, .string sc] 24)) (w.heap.size + 1 + 1) kc nc bc sc from by have h := Rd.Box.new ((w.alloc (.cells #[.int .i64 ka, .int .i64 na, .int .u64 ba, .string sa] 24)).alloc (.cells #[.int .i64 kb, .int .i64 nb, .int .u64 bb, .string sb] 24)) kc nc bc sc; rwa [show ((w.alloc (.cells #[.int .i64 ka, .int .i64 na, .int .u64 ba, .string sa] 24)).alloc (.cells #[.int .i64 kb, .int .i64 nb, .int .u64 bb, .string sb] 24)).heap.size = w.heap.size + 1 + 1 from by simp] at h)
  have B0 := Lib.hid ((((Below.refl w.heap.size w).alloc (Nat.le_refl _) (.cells #[.int .i64 ka, .int .i64 na, .int .u64 ba, .string sa] 24)).alloc (by simp) (.cells #[.int .i64 kb, .int .i64 nb, .int .u64 bb, .string sb] 24)).alloc (by simp; omega) (.cells #[.int .i64 kc, .int .i64 nc, .int .u64 bc, .string sc] 24))
  have Z0 : w.heap.size ≤ (((w.alloc (.cells #[.int .i64 ka, .int .i64 na, .int .u64 ba, .string sa] 24)).alloc (.cells #[.int .i64 kb, .int .i64 nb, .int .u64 bb, .string sb] 24)).alloc (.cells #[.int .i64 kc, .int .i64 nc, .int .u64 bc, .string sc] 24)).heap.size := by simp; omega
  clear he
  go_enter Tryd.func5, Tryd.ntmps5
  go_wp2_with fail
  refine (ref_is ka na ba sa hba.out _ ra.out _).mono ?_
  rintro e w1 ⟨rfl, hbn⟩
  have HE1 := Lib.hid (HE0.out.below hbn)
  have T31 := Lib.hid (T30.out.below hbn)
  have T41 := Lib.hid (T40.out.below hbn)
  have T51 := Lib.hid (T50.out.below hbn)
  have B1 := Lib.hid (B0.out.trans (hbn.mono Z0))
  have Z1 : w.heap.size ≤ w1.heap.size := Nat.le_trans Z0 hbn.size
  clear hbn HE0 B0 Z0 T30 T40 T50
  have qT40 := T41.out.c0
  have qT41 := T41.out.c1
  have qT42 := T41.out.c2
  have qT43 := T41.out.c3
  go_wp2_with fail
  refine (ref_is kb nb bb sb hbb.out _ rb.out _).mono ?_
  rintro e w2 ⟨rfl, hbn⟩
  clear qT40 qT41 qT42 qT43
  have HE2 := Lib.hid (HE1.out.below hbn)
  have T32 := Lib.hid (T31.out.below hbn)
  have T42 := Lib.hid (T41.out.below hbn)
  have T52 := Lib.hid (T51.out.below hbn)
  have B2 := Lib.hid (B1.out.trans (hbn.mono Z1))
  have Z2 : w.heap.size ≤ w2.heap.size := Nat.le_trans Z1 hbn.size
  clear hbn HE1 B1 Z1 T31 T41 T51
  have qT50 := T52.out.c0
  have qT51 := T52.out.c1
  have qT52 := T52.out.c2
  have qT53 := T52.out.c3
  go_wp2_with fail
  refine (ref_is kc nc bc sc hbc.out _ rc.out _).mono ?_
  rintro e w3 ⟨rfl, hbn⟩
  clear qT50 qT51 qT52 qT53
  have HE3 := Lib.hid (HE2.out.below hbn)
  have T33 := Lib.hid (T32.out.below hbn)
  have T43 := Lib.hid (T42.out.below hbn)
  have T53 := Lib.hid (T52.out.below hbn)
  have B3 := Lib.hid (B2.out.trans (hbn.mono Z2))
  have Z3 : w.heap.size ≤ w3.heap.size := Nat.le_trans Z2 hbn.size
  clear hbn HE2 B2 Z2 T32 T42 T52
  have qT30 := T33.out.c0
  have qT31 := T33.out.c1
  have qT32 := T33.out.c2
  have qT33 := T33.out.c3
  have qT40 := T43.out.c0
  have qT41 := T43.out.c1
  have qT42 := T43.out.c2
  have qT43 := T43.out.c3
  go_wp2_with fail
  refine (cmp_is ka na ba sa kb nb bb sb _ hx.out _).mono ?_
  rintro e w4 ⟨rfl, hbn⟩
  clear qT30 qT31 qT32 qT33 qT40 qT41 qT42 qT43
  have HE4 := Lib.hid (HE3.out.below hbn)
  have T34 := Lib.hid (T33.out.below hbn)
  have T44 := Lib.hid (T43.out.below hbn)
  have T54 := Lib.hid (T53.out.below hbn)
  have B4 := Lib.hid (B3.out.trans (hbn.mono Z3))
  have Z4 : w.heap.size ≤ w4.heap.size := Nat.le_trans Z3 hbn.size
  clear hbn HE3 B3 Z3 T33 T43 T53
  have qT40 := T44.out.c0
  have qT41 := T44.out.c1
  have qT42 := T44.out.c2
  have qT43 := T44.out.c3
  have qT50 := T54.out.c0
  have qT51 := T54.out.c1
  have qT52 := T54.out.c2
  have qT53 := T54.out.c3
  go_wp2_with fail
  refine (cmp_is kb nb bb sb kc nc bc sc _ hy.out _).mono ?_
  rintro e w5 ⟨rfl, hbn⟩
  clear qT40 qT41 qT42 qT43 qT50 qT51 qT52 qT53
  have HE5 := Lib.hid (HE4.out.below hbn)
  have T35 := Lib.hid (T34.out.below hbn)
  have T45 := Lib.hid (T44.out.below hbn)
  have T55 := Lib.hid (T54.out.below hbn)
  have B5 := Lib.hid (B4.out.trans (hbn.mono Z4))
  have Z5 : w.heap.size ≤ w5.heap.size := Nat.le_trans Z4 hbn.size
  clear hbn HE4 B4 Z4 T34 T44 T54
  have qT30 := T35.out.c0
  have qT31 := T35.out.c1
  have qT32 := T35.out.c2
  have qT33 := T35.out.c3
  have qT50 := T55.out.c0
  have qT51 := T55.out.c1
  have qT52 := T55.out.c2
  have qT53 := T55.out.c3
  go_wp2_with fail
  refine (cmp_is ka na ba sa kc nc bc sc _ hz.out _).mono ?_
  rintro e w6 ⟨rfl, hbn⟩
  clear qT30 qT31 qT32 qT33 qT50 qT51 qT52 qT53
  have HE6 := Lib.hid (HE5.out.below hbn)
  have T36 := Lib.hid (T35.out.below hbn)
  have T46 := Lib.hid (T45.out.below hbn)
  have T56 := Lib.hid (T55.out.below hbn)
  have B6 := Lib.hid (B5.out.trans (hbn.mono Z5))
  have Z6 : w.heap.size ≤ w6.heap.size := Nat.le_trans Z5 hbn.size
  clear hbn HE5 B5 Z5 T35 T45 T55
  have qT40 := T46.out.c0
  have qT41 := T46.out.c1
  have qT42 := T46.out.c2
  have qT43 := T46.out.c3
  have qT30 := T36.out.c0
  have qT31 := T36.out.c1
  have qT32 := T36.out.c2
  have qT33 := T36.out.c3
  go_wp2_with fail
  refine (cmp_is kb nb bb sb ka na ba sa _ hu.out _).mono ?_
  rintro e w7 ⟨rfl, hbn⟩
  clear qT40 qT41 qT42 qT43 qT30 qT31 qT32 qT33
  have HE7 := Lib.hid (HE6.out.below hbn)
  have T37 := Lib.hid (T36.out.below hbn)
  have T47 := Lib.hid (T46.out.below hbn)
  have T57 := Lib.hid (T56.out.below hbn)
  have B7 := Lib.hid (B6.out.trans (hbn.mono Z6))
  have Z7 : w.heap.size ≤ w7.heap.size := Nat.le_trans Z6 hbn.size
  clear hbn HE6 B6 Z6 T36 T46 T56
  have qT30 := T37.out.c0
  have qT31 := T37.out.c1
  have qT32 := T37.out.c2
  have qT33 := T37.out.c3
  have qT40 := T47.out.c0
  have qT41 := T47.out.c1
  have qT42 := T47.out.c2
  have qT43 := T47.out.c3
  go_wp2_with fail
  refine (same_is ka na ba sa kb nb bb sb _ hsm.out _).mono ?_
  rintro e w8 ⟨rfl, hbn⟩
  clear qT30 qT31 qT32 qT33 qT40 qT41 qT42 qT43
  have HE8 := Lib.hid (HE7.out.below hbn)
  have T38 := Lib.hid (T37.out.below hbn)
  have T48 := Lib.hid (T47.out.below hbn)
  have T58 := Lib.hid (T57.out.below hbn)
  have B8 := Lib.hid (B7.out.trans (hbn.mono Z7))
  have Z8 : w.heap.size ≤ w8.heap.size := Nat.le_trans Z7 hbn.size
  clear hbn HE7 B7 Z7 T37 T47 T57
  go_wp2_with fail
  refine (Rd.known_any _ HE8.out).mono ?_
  rintro e w99 ⟨rfl, hbn⟩
  have B99 := Lib.hid (B8.out.trans (hbn.mono Z8))
  clear hbn
  go_wp2_with fail
  go_ret
  exact ⟨rfl, B99.out⟩
set_option maxHeartbeats 4000000 in
set_option maxRecDepth 100000 in
theorem or_zn (ka na : Int) (ba : Nat) (sa : ByteArray) (kb nb : Int) (bb : Nat) (sb : ByteArray) (kc nc : Int) (bc : Nat) (sc : ByteArray) (w : World) (he : Val.Env w) (hba : Hid (ba < 18446744073709551616)) (hbb : Hid (bb < 18446744073709551616)) (hbc : Hid (bc < 18446744073709551616)) (g1 : decide ((500 : Int) < sa.size) = false) (g2 : decide ((500 : Int) < sb.size) = false) (g3 : decide ((500 : Int) < sc.size) = false) (ra : Hid (Val.rightB ka na ba sa = true)) (rb : Hid (Val.rightB kb nb bb sb = true)) (rc : Hid (Val.rightB kc nc bc sc = true)) (x y z u : Int) (hx : Hid (Val.cmpV ka na ba sa kb nb bb sb = x)) (hy : Hid (Val.cmpV kb nb bb sb kc nc bc sc = y)) (hz : Hid (Val.cmpV ka na ba sa kc nc bc sc = z)) (hu : Hid (Val.cmpV kb nb bb sb ka na ba sa = u)) (sm : Bool) (hsm : Hid (Val.sameB ka na ba sa kb nb bb sb = sm)) (ex : x = 0) (eu : u = 0) (es : sm = true) (fy : decide (0 < y) = false) (fz : decide (z ≤ 0) = true) : Calls Tryd.prog 5 #[.agg #[.int .i64 ka, .int .i64 na, .int .u64 ba, .string sa], .agg #[.int .i64 kb, .int .i64 nb, .int .u64 bb, .string sb], .agg #[.int .i64 kc, .int .i64 nc, .int .u64 bc, .string sc]] w fun e w' => e = .returned (.bool true) ∧ Below w.heap.size w w' := by
  subst ex eu es
  have HE0 := Lib.hid (((he.below ((Below.refl w.heap.size w).alloc (Nat.le_refl _) (.cells #[.int .i64 ka, .int .i64 na, .int .u64 ba, .string sa] 24))).below ((Below.refl (w.alloc (.cells #[.int .i64 ka, .int .i64 na, .int .u64 ba, .string sa] 24)).heap.size (w.alloc (.cells #[.int .i64 ka, .int .i64 na, .int .u64 ba, .string sa] 24))).alloc (Nat.le_refl _) (.cells #[.int .i64 kb, .int .i64 nb, .int .u64 bb, .string sb] 24))).below ((Below.refl ((w.alloc (.cells #[.int .i64 ka, .int .i64 na, .int .u64 ba, .string sa] 24)).alloc (.cells #[.int .i64 kb, .int .i64 nb, .int .u64 bb, .string sb] 24)).heap.size ((w.alloc (.cells #[.int .i64 ka, .int .i64 na, .int .u64 ba, .string sa] 24)).alloc (.cells #[.int .i64 kb, .int .i64 nb, .int .u64 bb, .string sb] 24))).alloc (Nat.le_refl _) (.cells #[.int .i64 kc, .int .i64 nc, .int .u64 bc, .string sc] 24)))
  have T30 := Lib.hid (((Rd.Box.new w ka na ba sa).old (.cells #[.int .i64 kb, .int .i64 nb, .int .u64 bb, .string sb] 24)).old (.cells #[.int .i64 kc, .int .i64 nc, .int .u64 bc, .string sc] 24))
  have T40 := Lib.hid (show Rd.Box (((w.alloc (.cells #[.int .i64 ka, .int .i64 na, .int .u64 ba, .string sa] 24)).alloc (.cells #[.int .i64 kb, .int .i64 nb, .int .u64 bb, .string sb] 24)).alloc (.cells #[.int .i64 kc, .int .i64 nc, .int .u64 bc, .string sc] 24)) (w.heap.size + 1) kb nb bb sb from by have h := (Rd.Box.new (w.alloc (.cells #[.int .i64 ka, .int .i64 na, .int .u64 ba, .string sa] 24)) kb nb bb sb).old (.cells #[.int .i64 kc, .int .i64 nc, .int .u64 bc, .string sc] 24); rwa [show (w.alloc (.cells #[.int .i64 ka, .int .i64 na, .int .u64 ba, .string sa] 24)).heap.size = w.heap.size + 1 from by simp] at h)
  have T50 := Lib.hid (show Rd.Box (((w.alloc (.cells #[.int .i64 ka, .int .i64 na, .int .u64 ba, .string sa] 24)).alloc (.cells #[.int .i64 kb, .int .i64 nb, .int .u64 bb, .string sb] 24)).alloc (.cells #[.int .i64 kc, .int .i64 nc, .int .u64 bc, .string sc] 24)) (w.heap.size + 1 + 1) kc nc bc sc from by have h := Rd.Box.new ((w.alloc (.cells #[.int .i64 ka, .int .i64 na, .int .u64 ba, .string sa] 24)).alloc (.cells #[.int .i64 kb, .int .i64 nb, .int .u64 bb, .string sb] 24)) kc nc bc sc; rwa [show ((w.alloc (.cells #[.int .i64 ka, .int .i64 na, .int .u64 ba, .string sa] 24)).alloc (.cells #[.int .i64 kb, .int .i64 nb, .int .u64 bb, .string sb] 24)).heap.size = w.heap.size + 1 + 1 from by simp] at h)
  have B0 := Lib.hid ((((Below.refl w.heap.size w).alloc (Nat.le_refl _) (.cells #[.int .i64 ka, .int .i64 na, .int .u64 ba, .string sa] 24)).alloc (by simp) (.cells #[.int .i64 kb, .int .i64 nb, .int .u64 bb, .string sb] 24)).alloc (by simp; omega) (.cells #[.int .i64 kc, .int .i64 nc, .int .u64 bc, .string sc] 24))
  have Z0 : w.heap.size ≤ (((w.alloc (.cells #[.int .i64 ka, .int .i64 na, .int .u64 ba, .string sa] 24)).alloc (.cells #[.int .i64 kb, .int .i64 nb, .int .u64 bb, .string sb] 24)).alloc (.cells #[.int .i64 kc, .int .i64 nc, .int .u64 bc, .string sc] 24)).heap.size := by simp; omega
  clear he
  go_enter Tryd.func5, Tryd.ntmps5
  go_wp2_with fail
  refine (ref_is ka na ba sa hba.out _ ra.out _).mono ?_
  rintro e w1 ⟨rfl, hbn⟩
  have HE1 := Lib.hid (HE0.out.below hbn)
  have T31 := Lib.hid (T30.out.below hbn)
  have T41 := Lib.hid (T40.out.below hbn)
  have T51 := Lib.hid (T50.out.below hbn)
  have B1 := Lib.hid (B0.out.trans (hbn.mono Z0))
  have Z1 : w.heap.size ≤ w1.heap.size := Nat.le_trans Z0 hbn.size
  clear hbn HE0 B0 Z0 T30 T40 T50
  have qT40 := T41.out.c0
  have qT41 := T41.out.c1
  have qT42 := T41.out.c2
  have qT43 := T41.out.c3
  go_wp2_with fail
  refine (ref_is kb nb bb sb hbb.out _ rb.out _).mono ?_
  rintro e w2 ⟨rfl, hbn⟩
  clear qT40 qT41 qT42 qT43
  have HE2 := Lib.hid (HE1.out.below hbn)
  have T32 := Lib.hid (T31.out.below hbn)
  have T42 := Lib.hid (T41.out.below hbn)
  have T52 := Lib.hid (T51.out.below hbn)
  have B2 := Lib.hid (B1.out.trans (hbn.mono Z1))
  have Z2 : w.heap.size ≤ w2.heap.size := Nat.le_trans Z1 hbn.size
  clear hbn HE1 B1 Z1 T31 T41 T51
  have qT50 := T52.out.c0
  have qT51 := T52.out.c1
  have qT52 := T52.out.c2
  have qT53 := T52.out.c3
  go_wp2_with fail
  refine (ref_is kc nc bc sc hbc.out _ rc.out _).mono ?_
  rintro e w3 ⟨rfl, hbn⟩
  clear qT50 qT51 qT52 qT53
  have HE3 := Lib.hid (HE2.out.below hbn)
  have T33 := Lib.hid (T32.out.below hbn)
  have T43 := Lib.hid (T42.out.below hbn)
  have T53 := Lib.hid (T52.out.below hbn)
  have B3 := Lib.hid (B2.out.trans (hbn.mono Z2))
  have Z3 : w.heap.size ≤ w3.heap.size := Nat.le_trans Z2 hbn.size
  clear hbn HE2 B2 Z2 T32 T42 T52
  have qT30 := T33.out.c0
  have qT31 := T33.out.c1
  have qT32 := T33.out.c2
  have qT33 := T33.out.c3
  have qT40 := T43.out.c0
  have qT41 := T43.out.c1
  have qT42 := T43.out.c2
  have qT43 := T43.out.c3
  go_wp2_with fail
  refine (cmp_is ka na ba sa kb nb bb sb _ hx.out _).mono ?_
  rintro e w4 ⟨rfl, hbn⟩
  clear qT30 qT31 qT32 qT33 qT40 qT41 qT42 qT43
  have HE4 := Lib.hid (HE3.out.below hbn)
  have T34 := Lib.hid (T33.out.below hbn)
  have T44 := Lib.hid (T43.out.below hbn)
  have T54 := Lib.hid (T53.out.below hbn)
  have B4 := Lib.hid (B3.out.trans (hbn.mono Z3))
  have Z4 : w.heap.size ≤ w4.heap.size := Nat.le_trans Z3 hbn.size
  clear hbn HE3 B3 Z3 T33 T43 T53
  have qT40 := T44.out.c0
  have qT41 := T44.out.c1
  have qT42 := T44.out.c2
  have qT43 := T44.out.c3
  have qT50 := T54.out.c0
  have qT51 := T54.out.c1
  have qT52 := T54.out.c2
  have qT53 := T54.out.c3
  go_wp2_with fail
  refine (cmp_is kb nb bb sb kc nc bc sc _ hy.out _).mono ?_
  rintro e w5 ⟨rfl, hbn⟩
  clear qT40 qT41 qT42 qT43 qT50 qT51 qT52 qT53
  have HE5 := Lib.hid (HE4.out.below hbn)
  have T35 := Lib.hid (T34.out.below hbn)
  have T45 := Lib.hid (T44.out.below hbn)
  have T55 := Lib.hid (T54.out.below hbn)
  have B5 := Lib.hid (B4.out.trans (hbn.mono Z4))
  have Z5 : w.heap.size ≤ w5.heap.size := Nat.le_trans Z4 hbn.size
  clear hbn HE4 B4 Z4 T34 T44 T54
  have qT30 := T35.out.c0
  have qT31 := T35.out.c1
  have qT32 := T35.out.c2
  have qT33 := T35.out.c3
  have qT50 := T55.out.c0
  have qT51 := T55.out.c1
  have qT52 := T55.out.c2
  have qT53 := T55.out.c3
  go_wp2_with fail
  refine (cmp_is ka na ba sa kc nc bc sc _ hz.out _).mono ?_
  rintro e w6 ⟨rfl, hbn⟩
  clear qT30 qT31 qT32 qT33 qT50 qT51 qT52 qT53
  have HE6 := Lib.hid (HE5.out.below hbn)
  have T36 := Lib.hid (T35.out.below hbn)
  have T46 := Lib.hid (T45.out.below hbn)
  have T56 := Lib.hid (T55.out.below hbn)
  have B6 := Lib.hid (B5.out.trans (hbn.mono Z5))
  have Z6 : w.heap.size ≤ w6.heap.size := Nat.le_trans Z5 hbn.size
  clear hbn HE5 B5 Z5 T35 T45 T55
  have qT40 := T46.out.c0
  have qT41 := T46.out.c1
  have qT42 := T46.out.c2
  have qT43 := T46.out.c3
  have qT30 := T36.out.c0
  have qT31 := T36.out.c1
  have qT32 := T36.out.c2
  have qT33 := T36.out.c3
  go_wp2_with fail
  refine (cmp_is kb nb bb sb ka na ba sa _ hu.out _).mono ?_
  rintro e w7 ⟨rfl, hbn⟩
  clear qT40 qT41 qT42 qT43 qT30 qT31 qT32 qT33
  have HE7 := Lib.hid (HE6.out.below hbn)
  have T37 := Lib.hid (T36.out.below hbn)
  have T47 := Lib.hid (T46.out.below hbn)
  have T57 := Lib.hid (T56.out.below hbn)
  have B7 := Lib.hid (B6.out.trans (hbn.mono Z6))
  have Z7 : w.heap.size ≤ w7.heap.size := Nat.le_trans Z6 hbn.size
  clear hbn HE6 B6 Z6 T36 T46 T56
  have qT30 := T37.out.c0
  have qT31 := T37.out.c1
  have qT32 := T37.out.c2
  have qT33 := T37.out.c3
  have qT40 := T47.out.c0
  have qT41 := T47.out.c1
  have qT42 := T47.out.c2
  have qT43 := T47.out.c3
  go_wp2_with fail
  refine (same_is ka na ba sa kb nb bb sb _ hsm.out _).mono ?_
  rintro e w8 ⟨rfl, hbn⟩
  clear qT30 qT31 qT32 qT33 qT40 qT41 qT42 qT43
  have HE8 := Lib.hid (HE7.out.below hbn)
  have T38 := Lib.hid (T37.out.below hbn)
  have T48 := Lib.hid (T47.out.below hbn)
  have T58 := Lib.hid (T57.out.below hbn)
  have B8 := Lib.hid (B7.out.trans (hbn.mono Z7))
  have Z8 : w.heap.size ≤ w8.heap.size := Nat.le_trans Z7 hbn.size
  clear hbn HE7 B7 Z7 T37 T47 T57
  go_wp2_with fail
  refine (Rd.known_any _ HE8.out).mono ?_
  rintro e w99 ⟨rfl, hbn⟩
  have B99 := Lib.hid (B8.out.trans (hbn.mono Z8))
  clear hbn
  go_wp2_with fail
  go_ret
  exact ⟨rfl, B99.out⟩
set_option maxHeartbeats 4000000 in
set_option maxRecDepth 100000 in
theorem or_mp (ka na : Int) (ba : Nat) (sa : ByteArray) (kb nb : Int) (bb : Nat) (sb : ByteArray) (kc nc : Int) (bc : Nat) (sc : ByteArray) (w : World) (he : Val.Env w) (hba : Hid (ba < 18446744073709551616)) (hbb : Hid (bb < 18446744073709551616)) (hbc : Hid (bc < 18446744073709551616)) (g1 : decide ((500 : Int) < sa.size) = false) (g2 : decide ((500 : Int) < sb.size) = false) (g3 : decide ((500 : Int) < sc.size) = false) (ra : Hid (Val.rightB ka na ba sa = true)) (rb : Hid (Val.rightB kb nb bb sb = true)) (rc : Hid (Val.rightB kc nc bc sc = true)) (x y z u : Int) (hx : Hid (Val.cmpV ka na ba sa kb nb bb sb = x)) (hy : Hid (Val.cmpV kb nb bb sb kc nc bc sc = y)) (hz : Hid (Val.cmpV ka na ba sa kc nc bc sc = z)) (hu : Hid (Val.cmpV kb nb bb sb ka na ba sa = u)) (sm : Bool) (hsm : Hid (Val.sameB ka na ba sa kb nb bb sb = sm)) (ex : x = -1) (eu : u = 1) (es : sm = false) (fy : decide (0 < y) = true) : Calls Tryd.prog 5 #[.agg #[.int .i64 ka, .int .i64 na, .int .u64 ba, .string sa], .agg #[.int .i64 kb, .int .i64 nb, .int .u64 bb, .string sb], .agg #[.int .i64 kc, .int .i64 nc, .int .u64 bc, .string sc]] w fun e w' => e = .returned (.bool true) ∧ Below w.heap.size w w' := by
  subst ex eu es
  have HE0 := Lib.hid (((he.below ((Below.refl w.heap.size w).alloc (Nat.le_refl _) (.cells #[.int .i64 ka, .int .i64 na, .int .u64 ba, .string sa] 24))).below ((Below.refl (w.alloc (.cells #[.int .i64 ka, .int .i64 na, .int .u64 ba, .string sa] 24)).heap.size (w.alloc (.cells #[.int .i64 ka, .int .i64 na, .int .u64 ba, .string sa] 24))).alloc (Nat.le_refl _) (.cells #[.int .i64 kb, .int .i64 nb, .int .u64 bb, .string sb] 24))).below ((Below.refl ((w.alloc (.cells #[.int .i64 ka, .int .i64 na, .int .u64 ba, .string sa] 24)).alloc (.cells #[.int .i64 kb, .int .i64 nb, .int .u64 bb, .string sb] 24)).heap.size ((w.alloc (.cells #[.int .i64 ka, .int .i64 na, .int .u64 ba, .string sa] 24)).alloc (.cells #[.int .i64 kb, .int .i64 nb, .int .u64 bb, .string sb] 24))).alloc (Nat.le_refl _) (.cells #[.int .i64 kc, .int .i64 nc, .int .u64 bc, .string sc] 24)))
  have T30 := Lib.hid (((Rd.Box.new w ka na ba sa).old (.cells #[.int .i64 kb, .int .i64 nb, .int .u64 bb, .string sb] 24)).old (.cells #[.int .i64 kc, .int .i64 nc, .int .u64 bc, .string sc] 24))
  have T40 := Lib.hid (show Rd.Box (((w.alloc (.cells #[.int .i64 ka, .int .i64 na, .int .u64 ba, .string sa] 24)).alloc (.cells #[.int .i64 kb, .int .i64 nb, .int .u64 bb, .string sb] 24)).alloc (.cells #[.int .i64 kc, .int .i64 nc, .int .u64 bc, .string sc] 24)) (w.heap.size + 1) kb nb bb sb from by have h := (Rd.Box.new (w.alloc (.cells #[.int .i64 ka, .int .i64 na, .int .u64 ba, .string sa] 24)) kb nb bb sb).old (.cells #[.int .i64 kc, .int .i64 nc, .int .u64 bc, .string sc] 24); rwa [show (w.alloc (.cells #[.int .i64 ka, .int .i64 na, .int .u64 ba, .string sa] 24)).heap.size = w.heap.size + 1 from by simp] at h)
  have T50 := Lib.hid (show Rd.Box (((w.alloc (.cells #[.int .i64 ka, .int .i64 na, .int .u64 ba, .string sa] 24)).alloc (.cells #[.int .i64 kb, .int .i64 nb, .int .u64 bb, .string sb] 24)).alloc (.cells #[.int .i64 kc, .int .i64 nc, .int .u64 bc, .string sc] 24)) (w.heap.size + 1 + 1) kc nc bc sc from by have h := Rd.Box.new ((w.alloc (.cells #[.int .i64 ka, .int .i64 na, .int .u64 ba, .string sa] 24)).alloc (.cells #[.int .i64 kb, .int .i64 nb, .int .u64 bb, .string sb] 24)) kc nc bc sc; rwa [show ((w.alloc (.cells #[.int .i64 ka, .int .i64 na, .int .u64 ba, .string sa] 24)).alloc (.cells #[.int .i64 kb, .int .i64 nb, .int .u64 bb, .string sb] 24)).heap.size = w.heap.size + 1 + 1 from by simp] at h)
  have B0 := Lib.hid ((((Below.refl w.heap.size w).alloc (Nat.le_refl _) (.cells #[.int .i64 ka, .int .i64 na, .int .u64 ba, .string sa] 24)).alloc (by simp) (.cells #[.int .i64 kb, .int .i64 nb, .int .u64 bb, .string sb] 24)).alloc (by simp; omega) (.cells #[.int .i64 kc, .int .i64 nc, .int .u64 bc, .string sc] 24))
  have Z0 : w.heap.size ≤ (((w.alloc (.cells #[.int .i64 ka, .int .i64 na, .int .u64 ba, .string sa] 24)).alloc (.cells #[.int .i64 kb, .int .i64 nb, .int .u64 bb, .string sb] 24)).alloc (.cells #[.int .i64 kc, .int .i64 nc, .int .u64 bc, .string sc] 24)).heap.size := by simp; omega
  clear he
  go_enter Tryd.func5, Tryd.ntmps5
  go_wp2_with fail
  refine (ref_is ka na ba sa hba.out _ ra.out _).mono ?_
  rintro e w1 ⟨rfl, hbn⟩
  have HE1 := Lib.hid (HE0.out.below hbn)
  have T31 := Lib.hid (T30.out.below hbn)
  have T41 := Lib.hid (T40.out.below hbn)
  have T51 := Lib.hid (T50.out.below hbn)
  have B1 := Lib.hid (B0.out.trans (hbn.mono Z0))
  have Z1 : w.heap.size ≤ w1.heap.size := Nat.le_trans Z0 hbn.size
  clear hbn HE0 B0 Z0 T30 T40 T50
  have qT40 := T41.out.c0
  have qT41 := T41.out.c1
  have qT42 := T41.out.c2
  have qT43 := T41.out.c3
  go_wp2_with fail
  refine (ref_is kb nb bb sb hbb.out _ rb.out _).mono ?_
  rintro e w2 ⟨rfl, hbn⟩
  clear qT40 qT41 qT42 qT43
  have HE2 := Lib.hid (HE1.out.below hbn)
  have T32 := Lib.hid (T31.out.below hbn)
  have T42 := Lib.hid (T41.out.below hbn)
  have T52 := Lib.hid (T51.out.below hbn)
  have B2 := Lib.hid (B1.out.trans (hbn.mono Z1))
  have Z2 : w.heap.size ≤ w2.heap.size := Nat.le_trans Z1 hbn.size
  clear hbn HE1 B1 Z1 T31 T41 T51
  have qT50 := T52.out.c0
  have qT51 := T52.out.c1
  have qT52 := T52.out.c2
  have qT53 := T52.out.c3
  go_wp2_with fail
  refine (ref_is kc nc bc sc hbc.out _ rc.out _).mono ?_
  rintro e w3 ⟨rfl, hbn⟩
  clear qT50 qT51 qT52 qT53
  have HE3 := Lib.hid (HE2.out.below hbn)
  have T33 := Lib.hid (T32.out.below hbn)
  have T43 := Lib.hid (T42.out.below hbn)
  have T53 := Lib.hid (T52.out.below hbn)
  have B3 := Lib.hid (B2.out.trans (hbn.mono Z2))
  have Z3 : w.heap.size ≤ w3.heap.size := Nat.le_trans Z2 hbn.size
  clear hbn HE2 B2 Z2 T32 T42 T52
  have qT30 := T33.out.c0
  have qT31 := T33.out.c1
  have qT32 := T33.out.c2
  have qT33 := T33.out.c3
  have qT40 := T43.out.c0
  have qT41 := T43.out.c1
  have qT42 := T43.out.c2
  have qT43 := T43.out.c3
  go_wp2_with fail
  refine (cmp_is ka na ba sa kb nb bb sb _ hx.out _).mono ?_
  rintro e w4 ⟨rfl, hbn⟩
  clear qT30 qT31 qT32 qT33 qT40 qT41 qT42 qT43
  have HE4 := Lib.hid (HE3.out.below hbn)
  have T34 := Lib.hid (T33.out.below hbn)
  have T44 := Lib.hid (T43.out.below hbn)
  have T54 := Lib.hid (T53.out.below hbn)
  have B4 := Lib.hid (B3.out.trans (hbn.mono Z3))
  have Z4 : w.heap.size ≤ w4.heap.size := Nat.le_trans Z3 hbn.size
  clear hbn HE3 B3 Z3 T33 T43 T53
  have qT40 := T44.out.c0
  have qT41 := T44.out.c1
  have qT42 := T44.out.c2
  have qT43 := T44.out.c3
  have qT50 := T54.out.c0
  have qT51 := T54.out.c1
  have qT52 := T54.out.c2
  have qT53 := T54.out.c3
  go_wp2_with fail
  refine (cmp_is kb nb bb sb kc nc bc sc _ hy.out _).mono ?_
  rintro e w5 ⟨rfl, hbn⟩
  clear qT40 qT41 qT42 qT43 qT50 qT51 qT52 qT53
  have HE5 := Lib.hid (HE4.out.below hbn)
  have T35 := Lib.hid (T34.out.below hbn)
  have T45 := Lib.hid (T44.out.below hbn)
  have T55 := Lib.hid (T54.out.below hbn)
  have B5 := Lib.hid (B4.out.trans (hbn.mono Z4))
  have Z5 : w.heap.size ≤ w5.heap.size := Nat.le_trans Z4 hbn.size
  clear hbn HE4 B4 Z4 T34 T44 T54
  have qT30 := T35.out.c0
  have qT31 := T35.out.c1
  have qT32 := T35.out.c2
  have qT33 := T35.out.c3
  have qT50 := T55.out.c0
  have qT51 := T55.out.c1
  have qT52 := T55.out.c2
  have qT53 := T55.out.c3
  go_wp2_with fail
  refine (cmp_is ka na ba sa kc nc bc sc _ hz.out _).mono ?_
  rintro e w6 ⟨rfl, hbn⟩
  clear qT30 qT31 qT32 qT33 qT50 qT51 qT52 qT53
  have HE6 := Lib.hid (HE5.out.below hbn)
  have T36 := Lib.hid (T35.out.below hbn)
  have T46 := Lib.hid (T45.out.below hbn)
  have T56 := Lib.hid (T55.out.below hbn)
  have B6 := Lib.hid (B5.out.trans (hbn.mono Z5))
  have Z6 : w.heap.size ≤ w6.heap.size := Nat.le_trans Z5 hbn.size
  clear hbn HE5 B5 Z5 T35 T45 T55
  have qT40 := T46.out.c0
  have qT41 := T46.out.c1
  have qT42 := T46.out.c2
  have qT43 := T46.out.c3
  have qT30 := T36.out.c0
  have qT31 := T36.out.c1
  have qT32 := T36.out.c2
  have qT33 := T36.out.c3
  go_wp2_with fail
  refine (cmp_is kb nb bb sb ka na ba sa _ hu.out _).mono ?_
  rintro e w7 ⟨rfl, hbn⟩
  clear qT40 qT41 qT42 qT43 qT30 qT31 qT32 qT33
  have HE7 := Lib.hid (HE6.out.below hbn)
  have T37 := Lib.hid (T36.out.below hbn)
  have T47 := Lib.hid (T46.out.below hbn)
  have T57 := Lib.hid (T56.out.below hbn)
  have B7 := Lib.hid (B6.out.trans (hbn.mono Z6))
  have Z7 : w.heap.size ≤ w7.heap.size := Nat.le_trans Z6 hbn.size
  clear hbn HE6 B6 Z6 T36 T46 T56
  have qT30 := T37.out.c0
  have qT31 := T37.out.c1
  have qT32 := T37.out.c2
  have qT33 := T37.out.c3
  have qT40 := T47.out.c0
  have qT41 := T47.out.c1
  have qT42 := T47.out.c2
  have qT43 := T47.out.c3
  go_wp2_with fail
  refine (same_is ka na ba sa kb nb bb sb _ hsm.out _).mono ?_
  rintro e w8 ⟨rfl, hbn⟩
  clear qT30 qT31 qT32 qT33 qT40 qT41 qT42 qT43
  have HE8 := Lib.hid (HE7.out.below hbn)
  have T38 := Lib.hid (T37.out.below hbn)
  have T48 := Lib.hid (T47.out.below hbn)
  have T58 := Lib.hid (T57.out.below hbn)
  have B8 := Lib.hid (B7.out.trans (hbn.mono Z7))
  have Z8 : w.heap.size ≤ w8.heap.size := Nat.le_trans Z7 hbn.size
  clear hbn HE7 B7 Z7 T37 T47 T57
  go_wp2_with fail
  refine (Rd.known_any _ HE8.out).mono ?_
  rintro e w99 ⟨rfl, hbn⟩
  have B99 := Lib.hid (B8.out.trans (hbn.mono Z8))
  clear hbn
  go_wp2_with fail
  go_ret
  exact ⟨rfl, B99.out⟩
set_option maxHeartbeats 4000000 in
set_option maxRecDepth 100000 in
theorem or_mn (ka na : Int) (ba : Nat) (sa : ByteArray) (kb nb : Int) (bb : Nat) (sb : ByteArray) (kc nc : Int) (bc : Nat) (sc : ByteArray) (w : World) (he : Val.Env w) (hba : Hid (ba < 18446744073709551616)) (hbb : Hid (bb < 18446744073709551616)) (hbc : Hid (bc < 18446744073709551616)) (g1 : decide ((500 : Int) < sa.size) = false) (g2 : decide ((500 : Int) < sb.size) = false) (g3 : decide ((500 : Int) < sc.size) = false) (ra : Hid (Val.rightB ka na ba sa = true)) (rb : Hid (Val.rightB kb nb bb sb = true)) (rc : Hid (Val.rightB kc nc bc sc = true)) (x y z u : Int) (hx : Hid (Val.cmpV ka na ba sa kb nb bb sb = x)) (hy : Hid (Val.cmpV kb nb bb sb kc nc bc sc = y)) (hz : Hid (Val.cmpV ka na ba sa kc nc bc sc = z)) (hu : Hid (Val.cmpV kb nb bb sb ka na ba sa = u)) (sm : Bool) (hsm : Hid (Val.sameB ka na ba sa kb nb bb sb = sm)) (ex : x = -1) (eu : u = 1) (es : sm = false) (fy : decide (0 < y) = false) (fz : decide (z ≤ 0) = true) (fw : decide (z < 0) = true) : Calls Tryd.prog 5 #[.agg #[.int .i64 ka, .int .i64 na, .int .u64 ba, .string sa], .agg #[.int .i64 kb, .int .i64 nb, .int .u64 bb, .string sb], .agg #[.int .i64 kc, .int .i64 nc, .int .u64 bc, .string sc]] w fun e w' => e = .returned (.bool true) ∧ Below w.heap.size w w' := by
  subst ex eu es
  have HE0 := Lib.hid (((he.below ((Below.refl w.heap.size w).alloc (Nat.le_refl _) (.cells #[.int .i64 ka, .int .i64 na, .int .u64 ba, .string sa] 24))).below ((Below.refl (w.alloc (.cells #[.int .i64 ka, .int .i64 na, .int .u64 ba, .string sa] 24)).heap.size (w.alloc (.cells #[.int .i64 ka, .int .i64 na, .int .u64 ba, .string sa] 24))).alloc (Nat.le_refl _) (.cells #[.int .i64 kb, .int .i64 nb, .int .u64 bb, .string sb] 24))).below ((Below.refl ((w.alloc (.cells #[.int .i64 ka, .int .i64 na, .int .u64 ba, .string sa] 24)).alloc (.cells #[.int .i64 kb, .int .i64 nb, .int .u64 bb, .string sb] 24)).heap.size ((w.alloc (.cells #[.int .i64 ka, .int .i64 na, .int .u64 ba, .string sa] 24)).alloc (.cells #[.int .i64 kb, .int .i64 nb, .int .u64 bb, .string sb] 24))).alloc (Nat.le_refl _) (.cells #[.int .i64 kc, .int .i64 nc, .int .u64 bc, .string sc] 24)))
  have T30 := Lib.hid (((Rd.Box.new w ka na ba sa).old (.cells #[.int .i64 kb, .int .i64 nb, .int .u64 bb, .string sb] 24)).old (.cells #[.int .i64 kc, .int .i64 nc, .int .u64 bc, .string sc] 24))
  have T40 := Lib.hid (show Rd.Box (((w.alloc (.cells #[.int .i64 ka, .int .i64 na, .int .u64 ba, .string sa] 24)).alloc (.cells #[.int .i64 kb, .int .i64 nb, .int .u64 bb, .string sb] 24)).alloc (.cells #[.int .i64 kc, .int .i64 nc, .int .u64 bc, .string sc] 24)) (w.heap.size + 1) kb nb bb sb from by have h := (Rd.Box.new (w.alloc (.cells #[.int .i64 ka, .int .i64 na, .int .u64 ba, .string sa] 24)) kb nb bb sb).old (.cells #[.int .i64 kc, .int .i64 nc, .int .u64 bc, .string sc] 24); rwa [show (w.alloc (.cells #[.int .i64 ka, .int .i64 na, .int .u64 ba, .string sa] 24)).heap.size = w.heap.size + 1 from by simp] at h)
  have T50 := Lib.hid (show Rd.Box (((w.alloc (.cells #[.int .i64 ka, .int .i64 na, .int .u64 ba, .string sa] 24)).alloc (.cells #[.int .i64 kb, .int .i64 nb, .int .u64 bb, .string sb] 24)).alloc (.cells #[.int .i64 kc, .int .i64 nc, .int .u64 bc, .string sc] 24)) (w.heap.size + 1 + 1) kc nc bc sc from by have h := Rd.Box.new ((w.alloc (.cells #[.int .i64 ka, .int .i64 na, .int .u64 ba, .string sa] 24)).alloc (.cells #[.int .i64 kb, .int .i64 nb, .int .u64 bb, .string sb] 24)) kc nc bc sc; rwa [show ((w.alloc (.cells #[.int .i64 ka, .int .i64 na, .int .u64 ba, .string sa] 24)).alloc (.cells #[.int .i64 kb, .int .i64 nb, .int .u64 bb, .string sb] 24)).heap.size = w.heap.size + 1 + 1 from by simp] at h)
  have B0 := Lib.hid ((((Below.refl w.heap.size w).alloc (Nat.le_refl _) (.cells #[.int .i64 ka, .int .i64 na, .int .u64 ba, .string sa] 24)).alloc (by simp) (.cells #[.int .i64 kb, .int .i64 nb, .int .u64 bb, .string sb] 24)).alloc (by simp; omega) (.cells #[.int .i64 kc, .int .i64 nc, .int .u64 bc, .string sc] 24))
  have Z0 : w.heap.size ≤ (((w.alloc (.cells #[.int .i64 ka, .int .i64 na, .int .u64 ba, .string sa] 24)).alloc (.cells #[.int .i64 kb, .int .i64 nb, .int .u64 bb, .string sb] 24)).alloc (.cells #[.int .i64 kc, .int .i64 nc, .int .u64 bc, .string sc] 24)).heap.size := by simp; omega
  clear he
  go_enter Tryd.func5, Tryd.ntmps5
  go_wp2_with fail
  refine (ref_is ka na ba sa hba.out _ ra.out _).mono ?_
  rintro e w1 ⟨rfl, hbn⟩
  have HE1 := Lib.hid (HE0.out.below hbn)
  have T31 := Lib.hid (T30.out.below hbn)
  have T41 := Lib.hid (T40.out.below hbn)
  have T51 := Lib.hid (T50.out.below hbn)
  have B1 := Lib.hid (B0.out.trans (hbn.mono Z0))
  have Z1 : w.heap.size ≤ w1.heap.size := Nat.le_trans Z0 hbn.size
  clear hbn HE0 B0 Z0 T30 T40 T50
  have qT40 := T41.out.c0
  have qT41 := T41.out.c1
  have qT42 := T41.out.c2
  have qT43 := T41.out.c3
  go_wp2_with fail
  refine (ref_is kb nb bb sb hbb.out _ rb.out _).mono ?_
  rintro e w2 ⟨rfl, hbn⟩
  clear qT40 qT41 qT42 qT43
  have HE2 := Lib.hid (HE1.out.below hbn)
  have T32 := Lib.hid (T31.out.below hbn)
  have T42 := Lib.hid (T41.out.below hbn)
  have T52 := Lib.hid (T51.out.below hbn)
  have B2 := Lib.hid (B1.out.trans (hbn.mono Z1))
  have Z2 : w.heap.size ≤ w2.heap.size := Nat.le_trans Z1 hbn.size
  clear hbn HE1 B1 Z1 T31 T41 T51
  have qT50 := T52.out.c0
  have qT51 := T52.out.c1
  have qT52 := T52.out.c2
  have qT53 := T52.out.c3
  go_wp2_with fail
  refine (ref_is kc nc bc sc hbc.out _ rc.out _).mono ?_
  rintro e w3 ⟨rfl, hbn⟩
  clear qT50 qT51 qT52 qT53
  have HE3 := Lib.hid (HE2.out.below hbn)
  have T33 := Lib.hid (T32.out.below hbn)
  have T43 := Lib.hid (T42.out.below hbn)
  have T53 := Lib.hid (T52.out.below hbn)
  have B3 := Lib.hid (B2.out.trans (hbn.mono Z2))
  have Z3 : w.heap.size ≤ w3.heap.size := Nat.le_trans Z2 hbn.size
  clear hbn HE2 B2 Z2 T32 T42 T52
  have qT30 := T33.out.c0
  have qT31 := T33.out.c1
  have qT32 := T33.out.c2
  have qT33 := T33.out.c3
  have qT40 := T43.out.c0
  have qT41 := T43.out.c1
  have qT42 := T43.out.c2
  have qT43 := T43.out.c3
  go_wp2_with fail
  refine (cmp_is ka na ba sa kb nb bb sb _ hx.out _).mono ?_
  rintro e w4 ⟨rfl, hbn⟩
  clear qT30 qT31 qT32 qT33 qT40 qT41 qT42 qT43
  have HE4 := Lib.hid (HE3.out.below hbn)
  have T34 := Lib.hid (T33.out.below hbn)
  have T44 := Lib.hid (T43.out.below hbn)
  have T54 := Lib.hid (T53.out.below hbn)
  have B4 := Lib.hid (B3.out.trans (hbn.mono Z3))
  have Z4 : w.heap.size ≤ w4.heap.size := Nat.le_trans Z3 hbn.size
  clear hbn HE3 B3 Z3 T33 T43 T53
  have qT40 := T44.out.c0
  have qT41 := T44.out.c1
  have qT42 := T44.out.c2
  have qT43 := T44.out.c3
  have qT50 := T54.out.c0
  have qT51 := T54.out.c1
  have qT52 := T54.out.c2
  have qT53 := T54.out.c3
  go_wp2_with fail
  refine (cmp_is kb nb bb sb kc nc bc sc _ hy.out _).mono ?_
  rintro e w5 ⟨rfl, hbn⟩
  clear qT40 qT41 qT42 qT43 qT50 qT51 qT52 qT53
  have HE5 := Lib.hid (HE4.out.below hbn)
  have T35 := Lib.hid (T34.out.below hbn)
  have T45 := Lib.hid (T44.out.below hbn)
  have T55 := Lib.hid (T54.out.below hbn)
  have B5 := Lib.hid (B4.out.trans (hbn.mono Z4))
  have Z5 : w.heap.size ≤ w5.heap.size := Nat.le_trans Z4 hbn.size
  clear hbn HE4 B4 Z4 T34 T44 T54
  have qT30 := T35.out.c0
  have qT31 := T35.out.c1
  have qT32 := T35.out.c2
  have qT33 := T35.out.c3
  have qT50 := T55.out.c0
  have qT51 := T55.out.c1
  have qT52 := T55.out.c2
  have qT53 := T55.out.c3
  go_wp2_with fail
  refine (cmp_is ka na ba sa kc nc bc sc _ hz.out _).mono ?_
  rintro e w6 ⟨rfl, hbn⟩
  clear qT30 qT31 qT32 qT33 qT50 qT51 qT52 qT53
  have HE6 := Lib.hid (HE5.out.below hbn)
  have T36 := Lib.hid (T35.out.below hbn)
  have T46 := Lib.hid (T45.out.below hbn)
  have T56 := Lib.hid (T55.out.below hbn)
  have B6 := Lib.hid (B5.out.trans (hbn.mono Z5))
  have Z6 : w.heap.size ≤ w6.heap.size := Nat.le_trans Z5 hbn.size
  clear hbn HE5 B5 Z5 T35 T45 T55
  have qT40 := T46.out.c0
  have qT41 := T46.out.c1
  have qT42 := T46.out.c2
  have qT43 := T46.out.c3
  have qT30 := T36.out.c0
  have qT31 := T36.out.c1
  have qT32 := T36.out.c2
  have qT33 := T36.out.c3
  go_wp2_with fail
  refine (cmp_is kb nb bb sb ka na ba sa _ hu.out _).mono ?_
  rintro e w7 ⟨rfl, hbn⟩
  clear qT40 qT41 qT42 qT43 qT30 qT31 qT32 qT33
  have HE7 := Lib.hid (HE6.out.below hbn)
  have T37 := Lib.hid (T36.out.below hbn)
  have T47 := Lib.hid (T46.out.below hbn)
  have T57 := Lib.hid (T56.out.below hbn)
  have B7 := Lib.hid (B6.out.trans (hbn.mono Z6))
  have Z7 : w.heap.size ≤ w7.heap.size := Nat.le_trans Z6 hbn.size
  clear hbn HE6 B6 Z6 T36 T46 T56
  have qT30 := T37.out.c0
  have qT31 := T37.out.c1
  have qT32 := T37.out.c2
  have qT33 := T37.out.c3
  have qT40 := T47.out.c0
  have qT41 := T47.out.c1
  have qT42 := T47.out.c2
  have qT43 := T47.out.c3
  go_wp2_with fail
  refine (same_is ka na ba sa kb nb bb sb _ hsm.out _).mono ?_
  rintro e w8 ⟨rfl, hbn⟩
  clear qT30 qT31 qT32 qT33 qT40 qT41 qT42 qT43
  have HE8 := Lib.hid (HE7.out.below hbn)
  have T38 := Lib.hid (T37.out.below hbn)
  have T48 := Lib.hid (T47.out.below hbn)
  have T58 := Lib.hid (T57.out.below hbn)
  have B8 := Lib.hid (B7.out.trans (hbn.mono Z7))
  have Z8 : w.heap.size ≤ w8.heap.size := Nat.le_trans Z7 hbn.size
  clear hbn HE7 B7 Z7 T37 T47 T57
  go_wp2_with fail
  refine (Rd.known_any _ HE8.out).mono ?_
  rintro e w99 ⟨rfl, hbn⟩
  have B99 := Lib.hid (B8.out.trans (hbn.mono Z8))
  clear hbn
  go_wp2_with fail
  go_ret
  exact ⟨rfl, B99.out⟩
theorem cmpV_right {k n : Int} {b : Nat} {s : ByteArray} {k' n' : Int} {b' : Nat} {s' : ByteArray} (h : Val.rightB k n b s = true) (h' : Val.rightB k' n' b' s' = true) : Val.cmpV k n b s k' n' b' s' = if k ≠ k' then Val.cmpI k k' else if k = 3 then Val.cmpF b b' else if k = 4 ∨ k = 5 then Val.cmpS s s' else Val.cmpI n n' := by
  unfold Val.cmpV
  rw [if_neg (by simp [h]), if_neg (by simp [h'])]
theorem cmpV_same {k n : Int} {b : Nat} {s : ByteArray} {n' : Int} {b' : Nat} {s' : ByteArray} (h : Val.rightB k n b s = true) (h' : Val.rightB k n' b' s' = true) : Val.cmpV k n b s k n' b' s' = if k = 3 then Val.cmpF b b' else if k = 4 ∨ k = 5 then Val.cmpS s s' else Val.cmpI n n' := by
  rw [cmpV_right h h', if_neg (fun x => x rfl)]
theorem cmpV_diff {k n : Int} {b : Nat} {s : ByteArray} {k' n' : Int} {b' : Nat} {s' : ByteArray} (h : Val.rightB k n b s = true) (h' : Val.rightB k' n' b' s' = true) (e : k ≠ k') : Val.cmpV k n b s k' n' b' s' = Val.cmpI k k' := by
  rw [cmpV_right h h', if_pos e]
theorem rng {k n : Int} {b : Nat} {s : ByteArray} {k' n' : Int} {b' : Nat} {s' : ByteArray} (h : Val.rightB k n b s = true) (h' : Val.rightB k' n' b' s' = true) : Val.cmpV k n b s k' n' b' s' = -1 ∨ Val.cmpV k n b s k' n' b' s' = 0 ∨ Val.cmpV k n b s k' n' b' s' = 1 := by
  by_cases e : k = k'
  · subst e
    rw [cmpV_same h h']
    by_cases k3 : k = 3
    · rw [if_pos k3]; exact Ord.cmpF_tot.rng _ _
    · rw [if_neg k3]
      by_cases k4 : k = 4 ∨ k = 5
      · rw [if_pos k4]; exact Ord.cmpS_tot.rng _ _
      · rw [if_neg k4]; exact Ord.cmpI_tot.rng _ _
  · rw [cmpV_diff h h' e]; exact Ord.cmpI_tot.rng _ _
theorem swp {k n : Int} {b : Nat} {s : ByteArray} {k' n' : Int} {b' : Nat} {s' : ByteArray} (h : Val.rightB k n b s = true) (h' : Val.rightB k' n' b' s' = true) : Val.cmpV k' n' b' s' k n b s = -Val.cmpV k n b s k' n' b' s' := by
  by_cases e : k = k'
  · subst e
    rw [cmpV_same h h', cmpV_same h' h]
    by_cases k3 : k = 3
    · rw [if_pos k3, if_pos k3]; exact Ord.cmpF_tot.swap _ _
    · rw [if_neg k3, if_neg k3]
      by_cases k4 : k = 4 ∨ k = 5
      · rw [if_pos k4, if_pos k4]; exact Ord.cmpS_tot.swap _ _
      · rw [if_neg k4, if_neg k4]; exact Ord.cmpI_tot.swap _ _
  · rw [cmpV_diff h h' e, cmpV_diff h' h (fun x => e x.symm)]
    exact Ord.cmpI_tot.swap _ _
theorem cI {p q : Int} (h : Val.cmpI p q = 0) : p = q := by
  unfold Val.cmpI at h
  by_cases x : p < q
  · rw [if_pos x] at h; omega
  · rw [if_neg x] at h
    by_cases y : q < p
    · rw [if_pos y] at h; omega
    · omega
theorem trn {k n : Int} {b : Nat} {s : ByteArray} {k' n' : Int} {b' : Nat} {s' : ByteArray} {k2 n2 : Int} {b2 : Nat} {s2 : ByteArray} (h : Val.rightB k n b s = true) (h' : Val.rightB k' n' b' s' = true) (h2 : Val.rightB k2 n2 b2 s2 = true)
    (g : Val.cmpV k n b s k' n' b' s' ≤ 0) (g' : Val.cmpV k' n' b' s' k2 n2 b2 s2 ≤ 0) : Val.cmpV k n b s k2 n2 b2 s2 ≤ 0 ∧ (Val.cmpV k n b s k' n' b' s' < 0 → Val.cmpV k n b s k2 n2 b2 s2 < 0) := by
  have lt : ∀ {p q : Int}, p ≠ q → Val.cmpI p q ≤ 0 → p < q := fun {p q} ne hc => by
    unfold Val.cmpI at hc
    by_cases x : p < q
    · exact x
    · rw [if_neg x, if_pos (by omega)] at hc; omega
  have neg : ∀ {p q : Int}, p < q → Val.cmpI p q = -1 := fun x => by unfold Val.cmpI; rw [if_pos x]
  by_cases e : k = k'
  · subst e
    by_cases e2 : k = k2
    · subst e2
      rw [cmpV_same h h'] at g ⊢
      rw [cmpV_same h' h2] at g'
      rw [cmpV_same h h2]
      by_cases k3 : k = 3
      · rw [if_pos k3] at g g' ⊢
        rw [if_pos k3]
        exact Ord.cmpF_tot.tr _ _ _ g g'
      · rw [if_neg k3] at g g' ⊢
        rw [if_neg k3]
        by_cases k4 : k = 4 ∨ k = 5
        · rw [if_pos k4] at g g' ⊢
          rw [if_pos k4]
          exact Ord.cmpS_tot.tr _ _ _ g g'
        · rw [if_neg k4] at g g' ⊢
          rw [if_neg k4]
          exact Ord.cmpI_tot.tr _ _ _ g g'
    · rw [cmpV_diff h' h2 e2] at g'
      rw [cmpV_diff h h2 e2]
      have := neg (lt e2 g')
      omega
  · rw [cmpV_diff h h' e] at g
    have l1 := lt e g
    by_cases e2 : k' = k2
    · subst e2
      rw [cmpV_diff h h2 e]
      have := neg l1
      omega
    · rw [cmpV_diff h' h2 e2] at g'
      have l2 := lt e2 g'
      rw [cmpV_diff h h2 (by omega)]
      have := neg (show k < k2 by omega)
      omega
theorem kinds {k n : Int} {b : Nat} {s : ByteArray} (h : Val.rightB k n b s = true) : (k = 3 → n = 0 ∧ s.data.toList = [] ∧ Flo.canon b = b) ∧ (k = 4 ∨ k = 5 → n = 0 ∧ b = 0) ∧ (k ≠ 3 → ¬ (k = 4 ∨ k = 5) → b = 0 ∧ s.data.toList = []) := by
  have hv : Rd.right ⟨k, n, b, s.data.toList⟩ = true := by
    show Val.rightB k n b ⟨s.data.toList.toArray⟩ = true
    rw [eta]; exact h
  rcases Rd.right_shape hv with q | q | q | ⟨m, q⟩ | ⟨m, q, c⟩ | ⟨m, q, c⟩ | ⟨m, q, c⟩ <;> (injection q with q1 q2 q3 q4; subst q1 q3)
  · exact ⟨by omega, by omega, fun _ _ => ⟨rfl, q4⟩⟩
  · exact ⟨by omega, by omega, fun _ _ => ⟨rfl, q4⟩⟩
  · exact ⟨by omega, by omega, fun _ _ => ⟨rfl, q4⟩⟩
  · exact ⟨by omega, by omega, fun _ _ => ⟨rfl, q4⟩⟩
  · exact ⟨fun _ => ⟨q2, q4, c.symm⟩, by omega, fun x => absurd rfl x⟩
  · exact ⟨by omega, fun _ => ⟨q2, rfl⟩, fun _ x => absurd (Or.inl rfl) x⟩
  · exact ⟨by omega, fun _ => ⟨q2, rfl⟩, fun _ x => absurd (Or.inr rfl) x⟩
theorem zero_kind {n : Int} {b : Nat} {s : ByteArray} (h : Val.rightB 0 n b s = true) : n = 0 := by
  unfold Val.rightB at h
  rw [if_pos rfl, Rd.eqV_iff] at h
  exact h.2.1
theorem key_inj {x y : Nat} (hx : x < 18446744073709551616) (hy : y < 18446744073709551616) (cx : Flo.canon x = x) (cy : Flo.canon y = y) (h : Val.cmpF x y = 0) : x = y := by
  unfold Val.cmpF at h
  cases nx : Flo.nanB x
  · cases ny : Flo.nanB y
    · rw [nx, ny, if_neg (by simp), if_neg (by simp)] at h
      have k := cI h
      cases zx : Flo.zeroB x
      · have kx : Flo.key x ≠ 0 := fun e => by rw [(Flo.key_eq_zero x).1 e] at zx; cases zx
        have e1 : x = x / 9223372036854775808 * 9223372036854775808 + x % 9223372036854775808 := by omega
        unfold Flo.key Flo.isNeg Flo.rung Flo.sgn at k kx
        have d1 : x / 9223372036854775808 < 2 := by omega
        have d2 : y / 9223372036854775808 < 2 := by omega
        have b1 : x / 9223372036854775808 % 2 = x / 9223372036854775808 := by omega
        have b2 : y / 9223372036854775808 % 2 = y / 9223372036854775808 := by omega
        rw [b1, b2] at k
        rw [b1] at kx
        rcases Nat.lt_or_ge (x / 9223372036854775808) 1 with u | u <;> rcases Nat.lt_or_ge (y / 9223372036854775808) 1 with v | v
        · rw [show x / 9223372036854775808 = 0 by omega, show y / 9223372036854775808 = 0 by omega] at k
          simp at k; omega
        · rw [show x / 9223372036854775808 = 0 by omega, show y / 9223372036854775808 = 1 by omega] at k
          rw [show x / 9223372036854775808 = 0 by omega] at kx
          simp at k kx; omega
        · rw [show x / 9223372036854775808 = 1 by omega, show y / 9223372036854775808 = 0 by omega] at k
          rw [show x / 9223372036854775808 = 1 by omega] at kx
          simp at k kx; omega
        · rw [show x / 9223372036854775808 = 1 by omega, show y / 9223372036854775808 = 1 by omega] at k
          simp at k; omega
      · have k0 := (Flo.key_eq_zero x).2 zx
        have zy : Flo.zeroB y = true := (Flo.key_eq_zero y).1 (by rw [← k]; exact k0)
        rw [← cx, ← cy, Flo.canon_zero nx zx, Flo.canon_zero ny zy]
    · rw [nx, ny] at h; simp at h
  · cases ny : Flo.nanB y
    · rw [nx, ny] at h; simp at h
    · rw [← cx, ← cy, Flo.canon_nan nx, Flo.canon_nan ny]
theorem cF_self (x : Nat) : Val.cmpF x x = 0 := by have := Ord.cmpF_tot.swap x x; omega
theorem cI_self (x : Int) : Val.cmpI x x = 0 := by have := Ord.cmpI_tot.swap x x; omega
theorem cS_self (x y : ByteArray) : Val.cmpS x y = 0 ↔ x.data.toList = y.data.toList := by
  rw [← ByteArray.toList_eq, ← ByteArray.toList_eq]
  unfold Val.cmpS
  by_cases h : x.toList = y.toList
  · rw [if_neg (by rw [h, Ord.less_irrefl]; simp), if_pos h]; simp [h]
  · constructor
    · intro g
      by_cases q : Op.bytesLess x.toList y.toList = true
      · rw [if_pos q] at g; omega
      · rw [if_neg q, if_neg h] at g; omega
    · intro g; exact absurd g h
theorem same_iff {k n : Int} {b : Nat} {s : ByteArray} {k' n' : Int} {b' : Nat} {s' : ByteArray} (hb : b < 18446744073709551616) (hb' : b' < 18446744073709551616) (h : Val.rightB k n b s = true) (h' : Val.rightB k' n' b' s' = true) : Val.sameB k n b s k' n' b' s' = decide (Val.cmpV k n b s k' n' b' s' = 0) := by
  have e0 : Val.sameB k n b s k' n' b' s' = Val.eqV k n b s k' n' b' s' := by unfold Val.sameB; rw [h, Bool.and_true]
  rw [e0, Bool.eq_iff_iff, Rd.eqV_iff, decide_eq_true_iff]
  by_cases e : k = k'
  · subst e
    rw [cmpV_same h h']
    obtain ⟨a3, a4, a5⟩ := kinds h
    obtain ⟨c3, c4, c5⟩ := kinds h'
    by_cases k3 : k = 3
    · rw [if_pos k3]
      obtain ⟨x1, x2, x3⟩ := a3 k3
      obtain ⟨y1, y2, y3⟩ := c3 k3
      constructor
      · rintro ⟨_, _, g, _⟩
        have : b = b' := by omega
        subst this; exact cF_self b
      · intro g
        have := key_inj hb hb' x3 y3 g
        exact ⟨rfl, by omega, by omega, by rw [x2, y2]⟩
    · rw [if_neg k3]
      by_cases k4 : k = 4 ∨ k = 5
      · rw [if_pos k4, cS_self]
        obtain ⟨x1, x2⟩ := a4 k4
        obtain ⟨y1, y2⟩ := c4 k4
        exact ⟨fun g => g.2.2.2, fun g => ⟨rfl, by omega, by omega, g⟩⟩
      · rw [if_neg k4]
        obtain ⟨x1, x2⟩ := a5 k3 k4
        obtain ⟨y1, y2⟩ := c5 k3 k4
        constructor
        · rintro ⟨_, g, _, _⟩
          subst g; exact cI_self n
        · intro g
          exact ⟨rfl, cI g, by omega, by rw [x2, y2]⟩
  · rw [cmpV_diff h h' e]
    exact ⟨fun g => absurd g.1 e, fun g => absurd (cI g) e⟩
theorem law_any (ka na : Int) (ba : Nat) (sa : ByteArray) (kb nb : Int) (bb : Nat) (sb : ByteArray) (kc nc : Int) (bc : Nat) (sc : ByteArray) (w : World) (he : Val.Env w) (hba : Hid (ba < 18446744073709551616)) (hbb : Hid (bb < 18446744073709551616)) (hbc : Hid (bc < 18446744073709551616)) : Calls Tryd.prog 5 #[.agg #[.int .i64 ka, .int .i64 na, .int .u64 ba, .string sa], .agg #[.int .i64 kb, .int .i64 nb, .int .u64 bb, .string sb], .agg #[.int .i64 kc, .int .i64 nc, .int .u64 bc, .string sc]] w fun e w' => e = .returned (.bool true) ∧ Below w.heap.size w w' := by
  by_cases g1 : (500 : Int) < sa.size
  · exact or_l1 ka na ba sa kb nb bb sb kc nc bc sc w he hba hbb hbc (decide_eq_true g1)
  · have d1 := decide_eq_false g1
    by_cases g2 : (500 : Int) < sb.size
    · exact or_l2 ka na ba sa kb nb bb sb kc nc bc sc w he hba hbb hbc d1 (decide_eq_true g2)
    · have d2 := decide_eq_false g2
      by_cases g3 : (500 : Int) < sc.size
      · exact or_l3 ka na ba sa kb nb bb sb kc nc bc sc w he hba hbb hbc d1 d2 (decide_eq_true g3)
      · have d3 := decide_eq_false g3
        cases ra : Val.rightB ka na ba sa
        · exact or_ra ka na ba sa kb nb bb sb kc nc bc sc w he hba hbb hbc d1 d2 d3 ra
        · cases rb : Val.rightB kb nb bb sb
          · exact or_rb ka na ba sa kb nb bb sb kc nc bc sc w he hba hbb hbc d1 d2 d3 ra rb
          · cases rc : Val.rightB kc nc bc sc
            · exact or_rc ka na ba sa kb nb bb sb kc nc bc sc w he hba hbb hbc d1 d2 d3 ra rb rc
            · have sm := same_iff hba.out hbb.out ra rb
              have sw := swp ra rb
              have tr := trn ra rb rc
              rcases rng ra rb with x | x | x
              · rw [x] at sm sw
                by_cases y : 0 < Val.cmpV kb nb bb sb kc nc bc sc
                · exact or_mp ka na ba sa kb nb bb sb kc nc bc sc w he hba hbb hbc d1 d2 d3 ra rb rc _ _ _ _ x rfl rfl sw _ sm rfl rfl rfl (decide_eq_true y)
                · have t := tr (by omega) (by omega)
                  exact or_mn ka na ba sa kb nb bb sb kc nc bc sc w he hba hbb hbc d1 d2 d3 ra rb rc _ _ _ _ x rfl rfl sw _ sm rfl rfl rfl (decide_eq_false y) (decide_eq_true t.1) (decide_eq_true (t.2 (by omega)))
              · rw [x] at sm sw
                by_cases y : 0 < Val.cmpV kb nb bb sb kc nc bc sc
                · exact or_zp ka na ba sa kb nb bb sb kc nc bc sc w he hba hbb hbc d1 d2 d3 ra rb rc _ _ _ _ x rfl rfl sw _ sm rfl rfl rfl (decide_eq_true y)
                · have t := tr (by omega) (by omega)
                  exact or_zn ka na ba sa kb nb bb sb kc nc bc sc w he hba hbb hbc d1 d2 d3 ra rb rc _ _ _ _ x rfl rfl sw _ sm rfl rfl rfl (decide_eq_false y) (decide_eq_true t.1)
              · rw [x] at sm sw
                exact or_p ka na ba sa kb nb bb sb kc nc bc sc w he hba hbb hbc d1 d2 d3 ra rb rc _ _ _ _ x rfl rfl sw _ sm rfl rfl rfl
set_option maxRecDepth 100000 in
theorem contract (H : Type) (enc : TypeId × Value → H) (W : World) (base : Nat) (args : Array Value) (ds gs : List (DataW H)) (before : List MemPlace)
    (hval : ∀ (j : Nat) t v, Tryd.f5.params[j]? = some t → args[j]? = some v → Value.okWide Tryd.prog W .any base t v)
    (hW : DataW.Whole enc Tryd.prog Tryd.f5.params.toList Rows.valueOrdersSpec.vars false W args.toList ds gs before) (hL : laidMet Tryd.prog Rows.valueOrdersRow.laid W) :
    Calls Tryd.prog 5 args W fun e W' => ∃ v, e = .returned v ∧ Rows.valueOrdersSpec.post enc Tryd.prog Tryd.f5 false true false false W args v W' := by
  have hW' := hW
  obtain ⟨p, q, hA0, hV, rfl, hfz, hnd⟩ := hW
  have hA : DataW.TrodAll enc Tryd.prog W 0 (fun _ => true) true Tryd.f5.params.toList args.toList ds p := hA0
  rw [Tryd.params5] at hA hval
  obtain ⟨v0, vs0, d0, ds0, p0, q0, hargs, rfl, rfl, h0, r0⟩ := trodAll_cons hA
  obtain ⟨v1, vs1, d1, ds1, p1, q1, rfl, rfl, rfl, h1, r1⟩ := trodAll_cons r0
  obtain ⟨v2, vs2, d2, ds2, p2, q2, rfl, rfl, rfl, h2, r2⟩ := trodAll_cons r1
  obtain ⟨rfl, rfl, rfl⟩ := trodAll_nil r2
  obtain rfl : args = #[v0, v1, v2] := by cases args; simp_all
  obtain ⟨rfl, rfl⟩ := trodVars_none hV
  obtain ⟨xk, xn, xb, xs, rfl, rfl, rfl, wxk, wxn, wxb, wxs⟩ := Fr.open_val (hval 0 24 v0 rfl rfl) h0
  obtain ⟨yk, yn, yb, ys, rfl, rfl, rfl, wyk, wyn, wyb, wys⟩ := Fr.open_val (hval 1 24 v1 rfl rfl) h1
  obtain ⟨zk, zn, zb, zs, rfl, rfl, rfl, wzk, wzn, wzb, wzs⟩ := Fr.open_val (hval 2 24 v2 rfl rfl) h2
  clear hA0
  simp only [List.append_nil] at hW'
  have he := Fr.env_of hL
  have hb1 := bounds_u64 wxb
  have hb2 := bounds_u64 wyb
  have hb3 := bounds_u64 wzb
  obtain ⟨xb, rfl⟩ := Int.eq_ofNat_of_zero_le hb1.1
  obtain ⟨yb, rfl⟩ := Int.eq_ofNat_of_zero_le hb2.1
  obtain ⟨zb, rfl⟩ := Int.eq_ofNat_of_zero_le hb3.1
  have walk := law_any xk xn xb xs yk yn yb ys zk zn zb zs W he (Lib.hid (by omega)) (Lib.hid (by omega)) (Lib.hid (by omega))
  clear hb1 hb2 hb3
  refine walk.mono fun e W' ⟨he, hg⟩ => ?_
  subst he
  exact ⟨_, rfl, Fr.post_made (pa := []) (pv := []) hW' (fun _ _ _ => trodAll_cons_mk (shut_bool Tryd.underlying4 _) trodAll_mk0) (fun _ _ => (trodAll_cons_mk (Fr.shut_val wxk wxn wxb wxs) (trodAll_cons_mk (Fr.shut_val wyk wyn wyb wys) (trodAll_cons_mk (Fr.shut_val wzk wzn wzb wzs) trodAll_mk0)))) (fun _ _ => rfl) rfl hg (ok_one (by kernel_rfl) rfl (okWide_bool_mk Tryd.underlying4 _))⟩
theorem reads (os : Os) {H : Type} (enc : TypeId × Value → H) : ∃ places, DataW.whole enc Tryd.prog ((World.doorLaid Tryd.prog 600 os).forCall (fun _ _ => 0) ⟨#[], #[.agg #[.int .i64 0, .int .i64 0, .int .u64 0, .string ⟨#[]⟩], .agg #[.int .i64 0, .int .i64 0, .int .u64 0, .string ⟨#[]⟩], .agg #[.int .i64 0, .int .i64 0, .int .u64 0, .string ⟨#[]⟩]], []⟩).memory Tryd.f5.params.toList Rows.valueOrdersSpec.vars false (#[.agg #[.int .i64 0, .int .i64 0, .int .u64 0, .string ⟨#[]⟩], .agg #[.int .i64 0, .int .i64 0, .int .u64 0, .string ⟨#[]⟩], .agg #[.int .i64 0, .int .i64 0, .int .u64 0, .string ⟨#[]⟩]] : Array Value).toList 8 = some ([.agg [.lit (.int .i64 0), .lit (.int .i64 0), .lit (.int .u64 0), .lit (.string [])], .agg [.lit (.int .i64 0), .lit (.int .i64 0), .lit (.int .u64 0), .lit (.string [])], .agg [.lit (.int .i64 0), .lit (.int .i64 0), .lit (.int .u64 0), .lit (.string [])]], [], places) :=
  ⟨[], by kernel_rfl⟩
set_option maxRecDepth 100000 in
theorem lifted (os : Os) (started : os.Started) (H : Type) (enc : TypeId × Value → H) (F : Stop.Interp) :
    ReturnsInHanded {} Tryd.checked os 5 .any ((OpenSpec.ofChange Rows.valueOrdersSpec).preRow enc Tryd.prog Tryd.f5 Rows.valueOrdersRow.domain false Rows.valueOrdersRow.laid) (((OpenSpec.ofChange Rows.valueOrdersSpec).at F).post enc Tryd.prog Tryd.f5 false true false false) := by
  obtain ⟨places, hx⟩ := reads os enc
  refine returnsInHanded_of_row (C := Tryd.checked) (s := OpenSpec.ofChange Rows.valueOrdersSpec) Fr.own started (by kernel_rfl) Tryd.func5
    (witness_row_atRef (enc := enc) (C := Tryd.checked) false (World.doorLaid Tryd.prog 600 os) #[.agg #[.int .i64 0, .int .i64 0, .int .u64 0, .string ⟨#[]⟩], .agg #[.int .i64 0, .int .i64 0, .int .u64 0, .string ⟨#[]⟩], .agg #[.int .i64 0, .int .i64 0, .int .u64 0, .string ⟨#[]⟩]] rfl (by kernel_rfl) (by kernel_rfl) (by kernel_rfl)
      (OpenSpec.preRow_of_cond 8 hx (by kernel_rfl) (fun k hk => by cases hk) (by kernel_rfl) (Fr.door_met os _))) ?_
  intro W base args ds gs before hval hW _ _ _ hL _ _
  exact contract H enc W base args ds gs before hval hW hL
theorem said : Rows.ValueOrdersSaid :=
  OpenClaim.holds_of_cond 5 Tryd.f5 rfl rfl rfl rfl rfl rfl rfl ⟨rfl, rfl, rfl, rfl, rfl⟩ rfl rfl rfl rfl rfl (by kernel_rfl) Tryd.func5 (by kernel_rfl)
    (of_decide_eq_true (by kernel_rfl)) (by unfold Func.isWrapper; first | (rw [if_pos (by decide +kernel)]; kernel_rfl) | (rw [if_neg (by decide +kernel)]; exact ⟨rfl, rfl⟩))
    (fun os started H enc _ F => by rw [OpenClaim.pre_eq_preRow]; exact lifted os started H enc F)
theorem plain (f : FuncId) (fn : Func) (hf : Tryd.pinned.checked.prog.funcNamed "memoir/memoirlaw01.ValueOrders" = some f) (hfn : Tryd.pinned.checked.prog.funcs[f]? = some fn) :
    true = Tryd.pinned.checked.prog.looks [] ∧ ∀ (j : Nat) t, fn.params[j]? = some t → Tryd.pinned.checked.prog.wantsStandIn t = false := by
  obtain rfl : f = 5 := Option.some.inj ((show Tryd.prog.funcNamed "memoir/memoirlaw01.ValueOrders" = some 5 by kernel_rfl).symm.trans hf) |>.symm
  obtain rfl : fn = Tryd.f5 := (Option.some.inj (Tryd.func5.symm.trans hfn)).symm
  refine ⟨by kernel_rfl, fun j t ht => ?_⟩
  rw [Tryd.params5] at ht
  have hm := Array.mem_of_getElem? ht
  simp only [List.mem_toArray, List.mem_cons, List.not_mem_nil, or_false] at hm
  rcases hm with rfl | rfl | rfl
  all_goals exact (show Tryd.prog.wantsStandIn 24 = false by kernel_rfl)
theorem card : Rows.ValueOrdersCardSaid :=
  Claim7.holds_tied_plain_at .later [] _ _ _ _ said (fun _ h => by cases h) (by kernel_rfl) (fun _ h => by cases h) valueOrders_row_tie rfl ⟨rfl, rfl⟩ (by kernel_rfl) rfl plain (by kernel_rfl)
end LaValueOrders
end Go.Proofs.YtdagblpaiopfiaaDoor
