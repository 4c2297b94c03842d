/- The contract of the document's own Compare (layer 1). Conditions: words below 2^64, texts at most 2^45. -/
import Derived.Test.YtppdebhcaodcnaaDoorTb
import Derived.Test.YtppdebhcaodcnaaDoorKnown
namespace Go.Proofs.YtppdebhcaodcnaaDoor
open Go.RowKit
namespace Ref
set_option maxHeartbeats 2000000 in
set_option maxRecDepth 100000 in
theorem cmp_wrong1 (k n : Int) (b : Nat) (s : ByteArray) (k' n' : Int) (b' : Nat) (s' : ByteArray) (hb : b < 18446744073709551616) (hb' : b' < 18446744073709551616) (w : World) (r1 : Val.rightB k n b s = false) : Calls Tryd.prog 45 #[.agg #[.int .i64 k, .int .i64 n, .int .u64 b, .string s], .agg #[.int .i64 k', .int .i64 n', .int .u64 b', .string s']] w fun e w' => e = .returned (.int .i64 0) ∧ Below w.heap.size w w' := by
  have T0 := Lib.hid ((Rd.Box.new w k n b s).old (.cells #[.int .i64 k', .int .i64 n', .int .u64 b', .string s'] 25))
  have U0 := Lib.hid (show Rd.Box ((w.alloc (.cells #[.int .i64 k, .int .i64 n, .int .u64 b, .string s] 25)).alloc (.cells #[.int .i64 k', .int .i64 n', .int .u64 b', .string s'] 25)) (w.heap.size + 1) k' n' b' s' from by have h := Rd.Box.new (w.alloc (.cells #[.int .i64 k, .int .i64 n, .int .u64 b, .string s] 25)) k' n' b' s'; rwa [show (w.alloc (.cells #[.int .i64 k, .int .i64 n, .int .u64 b, .string s] 25)).heap.size = w.heap.size + 1 from by simp] at h)
  have B0 := Lib.hid (((Below.refl w.heap.size w).alloc (Nat.le_refl _) (.cells #[.int .i64 k, .int .i64 n, .int .u64 b, .string s] 25)).alloc (by simp) (.cells #[.int .i64 k', .int .i64 n', .int .u64 b', .string s'] 25))
  have Z0 : w.heap.size ≤ ((w.alloc (.cells #[.int .i64 k, .int .i64 n, .int .u64 b, .string s] 25)).alloc (.cells #[.int .i64 k', .int .i64 n', .int .u64 b', .string s'] 25)).heap.size := by simp; omega
  have ca := fun u => right_any k n b s hb u
  have cb := fun u => right_any k' n' b' s' hb' u
  rw [r1] at ca
  clear r1
  go_enter Tryd.func45, Tryd.ntmps45
  go_wp2_with fail
  refine (ca _).mono ?_
  rintro e w1 ⟨rfl, hbn⟩
  have T1 := Lib.hid (T0.out.below hbn)
  have U1 := Lib.hid (U0.out.below hbn)
  have B1 := Lib.hid (B0.out.trans (hbn.mono Z0))
  have Z1 : w.heap.size ≤ w1.heap.size := Nat.le_trans Z0 hbn.size
  clear hbn T0 U0 B0 Z0
  go_wp2_with fail
  go_ret
  exact ⟨rfl, B1.out⟩
set_option maxHeartbeats 2000000 in
set_option maxRecDepth 100000 in
theorem cmp_wrong2 (k n : Int) (b : Nat) (s : ByteArray) (k' n' : Int) (b' : Nat) (s' : ByteArray) (hb : b < 18446744073709551616) (hb' : b' < 18446744073709551616) (w : World) (r1 : Val.rightB k n b s = true) (r2 : Val.rightB k' n' b' s' = false) : Calls Tryd.prog 45 #[.agg #[.int .i64 k, .int .i64 n, .int .u64 b, .string s], .agg #[.int .i64 k', .int .i64 n', .int .u64 b', .string s']] w fun e w' => e = .returned (.int .i64 0) ∧ Below w.heap.size w w' := by
  have T0 := Lib.hid ((Rd.Box.new w k n b s).old (.cells #[.int .i64 k', .int .i64 n', .int .u64 b', .string s'] 25))
  have U0 := Lib.hid (show Rd.Box ((w.alloc (.cells #[.int .i64 k, .int .i64 n, .int .u64 b, .string s] 25)).alloc (.cells #[.int .i64 k', .int .i64 n', .int .u64 b', .string s'] 25)) (w.heap.size + 1) k' n' b' s' from by have h := Rd.Box.new (w.alloc (.cells #[.int .i64 k, .int .i64 n, .int .u64 b, .string s] 25)) k' n' b' s'; rwa [show (w.alloc (.cells #[.int .i64 k, .int .i64 n, .int .u64 b, .string s] 25)).heap.size = w.heap.size + 1 from by simp] at h)
  have B0 := Lib.hid (((Below.refl w.heap.size w).alloc (Nat.le_refl _) (.cells #[.int .i64 k, .int .i64 n, .int .u64 b, .string s] 25)).alloc (by simp) (.cells #[.int .i64 k', .int .i64 n', .int .u64 b', .string s'] 25))
  have Z0 : w.heap.size ≤ ((w.alloc (.cells #[.int .i64 k, .int .i64 n, .int .u64 b, .string s] 25)).alloc (.cells #[.int .i64 k', .int .i64 n', .int .u64 b', .string s'] 25)).heap.size := by simp; omega
  have ca := fun u => right_any k n b s hb u
  have cb := fun u => right_any k' n' b' s' hb' u
  rw [r1] at ca
  rw [r2] at cb
  clear r1 r2
  go_enter Tryd.func45, Tryd.ntmps45
  go_wp2_with fail
  refine (ca _).mono ?_
  rintro e w1 ⟨rfl, hbn⟩
  have T1 := Lib.hid (T0.out.below hbn)
  have U1 := Lib.hid (U0.out.below hbn)
  have B1 := Lib.hid (B0.out.trans (hbn.mono Z0))
  have Z1 : w.heap.size ≤ w1.heap.size := Nat.le_trans Z0 hbn.size
  clear hbn T0 U0 B0 Z0
  have p0 := T1.out.c0
  have q0 := U1.out.c0
  have p1 := T1.out.c1
  have q1 := U1.out.c1
  have p2 := T1.out.c2
  have q2 := U1.out.c2
  have p3 := T1.out.c3
  have q3 := U1.out.c3
  go_wp2_with fail
  refine (cb _).mono ?_
  rintro e w2 ⟨rfl, hbn⟩
  have T2 := Lib.hid (T1.out.below hbn)
  have U2 := Lib.hid (U1.out.below hbn)
  have B2 := Lib.hid (B1.out.trans (hbn.mono Z1))
  have Z2 : w.heap.size ≤ w2.heap.size := Nat.le_trans Z1 hbn.size
  clear hbn T1 U1 B1 Z1
  clear p0 p1 p2 p3 q0 q1 q2 q3
  go_wp2_with fail
  go_ret
  exact ⟨rfl, B2.out⟩
set_option maxHeartbeats 2000000 in
set_option maxRecDepth 100000 in
theorem cmp_kinds (k n : Int) (b : Nat) (s : ByteArray) (k' n' : Int) (b' : Nat) (s' : ByteArray) (hb : b < 18446744073709551616) (hb' : b' < 18446744073709551616) (w : World) (r1 : Val.rightB k n b s = true) (r2 : Val.rightB k' n' b' s' = true) (hk : k ≠ k') : Calls Tryd.prog 45 #[.agg #[.int .i64 k, .int .i64 n, .int .u64 b, .string s], .agg #[.int .i64 k', .int .i64 n', .int .u64 b', .string s']] w fun e w' => e = .returned (.int .i64 (Val.cmpI k k')) ∧ Below w.heap.size w w' := by
  have g1 : (k == k') = false := by simp [hk]
  have g2 : (k != k') = true := by simp [hk]
  clear hk
  have T0 := Lib.hid ((Rd.Box.new w k n b s).old (.cells #[.int .i64 k', .int .i64 n', .int .u64 b', .string s'] 25))
  have U0 := Lib.hid (show Rd.Box ((w.alloc (.cells #[.int .i64 k, .int .i64 n, .int .u64 b, .string s] 25)).alloc (.cells #[.int .i64 k', .int .i64 n', .int .u64 b', .string s'] 25)) (w.heap.size + 1) k' n' b' s' from by have h := Rd.Box.new (w.alloc (.cells #[.int .i64 k, .int .i64 n, .int .u64 b, .string s] 25)) k' n' b' s'; rwa [show (w.alloc (.cells #[.int .i64 k, .int .i64 n, .int .u64 b, .string s] 25)).heap.size = w.heap.size + 1 from by simp] at h)
  have B0 := Lib.hid (((Below.refl w.heap.size w).alloc (Nat.le_refl _) (.cells #[.int .i64 k, .int .i64 n, .int .u64 b, .string s] 25)).alloc (by simp) (.cells #[.int .i64 k', .int .i64 n', .int .u64 b', .string s'] 25))
  have Z0 : w.heap.size ≤ ((w.alloc (.cells #[.int .i64 k, .int .i64 n, .int .u64 b, .string s] 25)).alloc (.cells #[.int .i64 k', .int .i64 n', .int .u64 b', .string s'] 25)).heap.size := by simp; omega
  have ca := fun u => right_any k n b s hb u
  have cb := fun u => right_any k' n' b' s' hb' u
  rw [r1] at ca
  rw [r2] at cb
  clear r1 r2
  go_enter Tryd.func45, Tryd.ntmps45
  go_wp2_with fail
  refine (ca _).mono ?_
  rintro e w1 ⟨rfl, hbn⟩
  have T1 := Lib.hid (T0.out.below hbn)
  have U1 := Lib.hid (U0.out.below hbn)
  have B1 := Lib.hid (B0.out.trans (hbn.mono Z0))
  have Z1 : w.heap.size ≤ w1.heap.size := Nat.le_trans Z0 hbn.size
  clear hbn T0 U0 B0 Z0
  have p0 := T1.out.c0
  have q0 := U1.out.c0
  have p1 := T1.out.c1
  have q1 := U1.out.c1
  have p2 := T1.out.c2
  have q2 := U1.out.c2
  have p3 := T1.out.c3
  have q3 := U1.out.c3
  go_wp2_with fail
  refine (cb _).mono ?_
  rintro e w2 ⟨rfl, hbn⟩
  have T2 := Lib.hid (T1.out.below hbn)
  have U2 := Lib.hid (U1.out.below hbn)
  have B2 := Lib.hid (B1.out.trans (hbn.mono Z1))
  have Z2 : w.heap.size ≤ w2.heap.size := Nat.le_trans Z1 hbn.size
  clear hbn T1 U1 B1 Z1
  clear p0 p1 p2 p3 q0 q1 q2 q3
  have p0 := T2.out.c0
  have q0 := U2.out.c0
  have p1 := T2.out.c1
  have q1 := U2.out.c1
  have p2 := T2.out.c2
  have q2 := U2.out.c2
  have p3 := T2.out.c3
  have q3 := U2.out.c3
  go_wp2_with fail
  refine (ints_any k k' _).mono ?_
  rintro e w3 ⟨rfl, rfl⟩
  go_wp2_with fail
  go_ret
  exact ⟨rfl, B2.out⟩
set_option maxHeartbeats 2000000 in
set_option maxRecDepth 100000 in
theorem cmp_nums (k n : Int) (b : Nat) (s : ByteArray) (k' n' : Int) (b' : Nat) (s' : ByteArray) (hb : b < 18446744073709551616) (hb' : b' < 18446744073709551616) (w : World) (r1 : Val.rightB k n b s = true) (r2 : Val.rightB k' n' b' s' = true) (hk : k = k') (h3 : k ≠ 3) (h4 : k ≠ 4) (h5 : k ≠ 5) : Calls Tryd.prog 45 #[.agg #[.int .i64 k, .int .i64 n, .int .u64 b, .string s], .agg #[.int .i64 k', .int .i64 n', .int .u64 b', .string s']] w fun e w' => e = .returned (.int .i64 (Val.cmpI n n')) ∧ Below w.heap.size w w' := by
  subst hk
  have g1 : (k == 3) = false := by simp [h3]
  have g2 : (k == 4) = false := by simp [h4]
  have g3 : (k == 5) = false := by simp [h5]
  clear h3 h4 h5
  have T0 := Lib.hid ((Rd.Box.new w k n b s).old (.cells #[.int .i64 k, .int .i64 n', .int .u64 b', .string s'] 25))
  have U0 := Lib.hid (show Rd.Box ((w.alloc (.cells #[.int .i64 k, .int .i64 n, .int .u64 b, .string s] 25)).alloc (.cells #[.int .i64 k, .int .i64 n', .int .u64 b', .string s'] 25)) (w.heap.size + 1) k n' b' s' from by have h := Rd.Box.new (w.alloc (.cells #[.int .i64 k, .int .i64 n, .int .u64 b, .string s] 25)) k n' b' s'; rwa [show (w.alloc (.cells #[.int .i64 k, .int .i64 n, .int .u64 b, .string s] 25)).heap.size = w.heap.size + 1 from by simp] at h)
  have B0 := Lib.hid (((Below.refl w.heap.size w).alloc (Nat.le_refl _) (.cells #[.int .i64 k, .int .i64 n, .int .u64 b, .string s] 25)).alloc (by simp) (.cells #[.int .i64 k, .int .i64 n', .int .u64 b', .string s'] 25))
  have Z0 : w.heap.size ≤ ((w.alloc (.cells #[.int .i64 k, .int .i64 n, .int .u64 b, .string s] 25)).alloc (.cells #[.int .i64 k, .int .i64 n', .int .u64 b', .string s'] 25)).heap.size := by simp; omega
  have ca := fun u => right_any k n b s hb u
  have cb := fun u => right_any k n' b' s' hb' u
  rw [r1] at ca
  rw [r2] at cb
  clear r1 r2
  go_enter Tryd.func45, Tryd.ntmps45
  go_wp2_with fail
  refine (ca _).mono ?_
  rintro e w1 ⟨rfl, hbn⟩
  have T1 := Lib.hid (T0.out.below hbn)
  have U1 := Lib.hid (U0.out.below hbn)
  have B1 := Lib.hid (B0.out.trans (hbn.mono Z0))
  have Z1 : w.heap.size ≤ w1.heap.size := Nat.le_trans Z0 hbn.size
  clear hbn T0 U0 B0 Z0
  have p0 := T1.out.c0
  have q0 := U1.out.c0
  have p1 := T1.out.c1
  have q1 := U1.out.c1
  have p2 := T1.out.c2
  have q2 := U1.out.c2
  have p3 := T1.out.c3
  have q3 := U1.out.c3
  go_wp2_with fail
  refine (cb _).mono ?_
  rintro e w2 ⟨rfl, hbn⟩
  have T2 := Lib.hid (T1.out.below hbn)
  have U2 := Lib.hid (U1.out.below hbn)
  have B2 := Lib.hid (B1.out.trans (hbn.mono Z1))
  have Z2 : w.heap.size ≤ w2.heap.size := Nat.le_trans Z1 hbn.size
  clear hbn T1 U1 B1 Z1
  clear p0 p1 p2 p3 q0 q1 q2 q3
  have p0 := T2.out.c0
  have q0 := U2.out.c0
  have p1 := T2.out.c1
  have q1 := U2.out.c1
  have p2 := T2.out.c2
  have q2 := U2.out.c2
  have p3 := T2.out.c3
  have q3 := U2.out.c3
  go_wp2_with fail
  refine (ints_any n n' _).mono ?_
  rintro e w3 ⟨rfl, rfl⟩
  go_wp2_with fail
  go_ret
  exact ⟨rfl, B2.out⟩
set_option maxHeartbeats 2000000 in
set_option maxRecDepth 100000 in
theorem cmp_text4 (k n : Int) (b : Nat) (s : ByteArray) (k' n' : Int) (b' : Nat) (s' : ByteArray) (hb : b < 18446744073709551616) (hb' : b' < 18446744073709551616) (w : World) (r1 : Val.rightB k n b s = true) (r2 : Val.rightB k' n' b' s' = true) (hk : k = 4) (hk' : k' = 4) (hs : s.size ≤ 35184372088832) (hs' : s'.size ≤ 35184372088832) : Calls Tryd.prog 45 #[.agg #[.int .i64 k, .int .i64 n, .int .u64 b, .string s], .agg #[.int .i64 k', .int .i64 n', .int .u64 b', .string s']] w fun e w' => e = .returned (.int .i64 (Val.cmpS s s')) ∧ Below w.heap.size w w' := by
  subst hk
  subst hk'
  have T0 := Lib.hid ((Rd.Box.new w 4 n b s).old (.cells #[.int .i64 4, .int .i64 n', .int .u64 b', .string s'] 25))
  have U0 := Lib.hid (show Rd.Box ((w.alloc (.cells #[.int .i64 4, .int .i64 n, .int .u64 b, .string s] 25)).alloc (.cells #[.int .i64 4, .int .i64 n', .int .u64 b', .string s'] 25)) (w.heap.size + 1) 4 n' b' s' from by have h := Rd.Box.new (w.alloc (.cells #[.int .i64 4, .int .i64 n, .int .u64 b, .string s] 25)) 4 n' b' s'; rwa [show (w.alloc (.cells #[.int .i64 4, .int .i64 n, .int .u64 b, .string s] 25)).heap.size = w.heap.size + 1 from by simp] at h)
  have B0 := Lib.hid (((Below.refl w.heap.size w).alloc (Nat.le_refl _) (.cells #[.int .i64 4, .int .i64 n, .int .u64 b, .string s] 25)).alloc (by simp) (.cells #[.int .i64 4, .int .i64 n', .int .u64 b', .string s'] 25))
  have Z0 : w.heap.size ≤ ((w.alloc (.cells #[.int .i64 4, .int .i64 n, .int .u64 b, .string s] 25)).alloc (.cells #[.int .i64 4, .int .i64 n', .int .u64 b', .string s'] 25)).heap.size := by simp; omega
  have ca := fun u => right_any 4 n b s hb u
  have cb := fun u => right_any 4 n' b' s' hb' u
  rw [r1] at ca
  rw [r2] at cb
  clear r1 r2
  go_enter Tryd.func45, Tryd.ntmps45
  go_wp2_with fail
  refine (ca _).mono ?_
  rintro e w1 ⟨rfl, hbn⟩
  have T1 := Lib.hid (T0.out.below hbn)
  have U1 := Lib.hid (U0.out.below hbn)
  have B1 := Lib.hid (B0.out.trans (hbn.mono Z0))
  have Z1 : w.heap.size ≤ w1.heap.size := Nat.le_trans Z0 hbn.size
  clear hbn T0 U0 B0 Z0
  have p0 := T1.out.c0
  have q0 := U1.out.c0
  have p1 := T1.out.c1
  have q1 := U1.out.c1
  have p2 := T1.out.c2
  have q2 := U1.out.c2
  have p3 := T1.out.c3
  have q3 := U1.out.c3
  go_wp2_with fail
  refine (cb _).mono ?_
  rintro e w2 ⟨rfl, hbn⟩
  have T2 := Lib.hid (T1.out.below hbn)
  have U2 := Lib.hid (U1.out.below hbn)
  have B2 := Lib.hid (B1.out.trans (hbn.mono Z1))
  have Z2 : w.heap.size ≤ w2.heap.size := Nat.le_trans Z1 hbn.size
  clear hbn T1 U1 B1 Z1
  clear p0 p1 p2 p3 q0 q1 q2 q3
  have p0 := T2.out.c0
  have q0 := U2.out.c0
  have p1 := T2.out.c1
  have q1 := U2.out.c1
  have p2 := T2.out.c2
  have q2 := U2.out.c2
  have p3 := T2.out.c3
  have q3 := U2.out.c3
  go_wp2_with fail
  refine (bytes_any s s' _ (by omega) (by omega)).mono ?_
  rintro e w3 ⟨rfl, hbn⟩
  have B3 := Lib.hid (B2.out.trans (hbn.mono Z2))
  clear hbn
  go_wp2_with fail
  go_ret
  exact ⟨rfl, B3.out⟩
set_option maxHeartbeats 2000000 in
set_option maxRecDepth 100000 in
theorem cmp_text5 (k n : Int) (b : Nat) (s : ByteArray) (k' n' : Int) (b' : Nat) (s' : ByteArray) (hb : b < 18446744073709551616) (hb' : b' < 18446744073709551616) (w : World) (r1 : Val.rightB k n b s = true) (r2 : Val.rightB k' n' b' s' = true) (hk : k = 5) (hk' : k' = 5) (hs : s.size ≤ 35184372088832) (hs' : s'.size ≤ 35184372088832) : Calls Tryd.prog 45 #[.agg #[.int .i64 k, .int .i64 n, .int .u64 b, .string s], .agg #[.int .i64 k', .int .i64 n', .int .u64 b', .string s']] w fun e w' => e = .returned (.int .i64 (Val.cmpS s s')) ∧ Below w.heap.size w w' := by
  subst hk
  subst hk'
  have T0 := Lib.hid ((Rd.Box.new w 5 n b s).old (.cells #[.int .i64 5, .int .i64 n', .int .u64 b', .string s'] 25))
  have U0 := Lib.hid (show Rd.Box ((w.alloc (.cells #[.int .i64 5, .int .i64 n, .int .u64 b, .string s] 25)).alloc (.cells #[.int .i64 5, .int .i64 n', .int .u64 b', .string s'] 25)) (w.heap.size + 1) 5 n' b' s' from by have h := Rd.Box.new (w.alloc (.cells #[.int .i64 5, .int .i64 n, .int .u64 b, .string s] 25)) 5 n' b' s'; rwa [show (w.alloc (.cells #[.int .i64 5, .int .i64 n, .int .u64 b, .string s] 25)).heap.size = w.heap.size + 1 from by simp] at h)
  have B0 := Lib.hid (((Below.refl w.heap.size w).alloc (Nat.le_refl _) (.cells #[.int .i64 5, .int .i64 n, .int .u64 b, .string s] 25)).alloc (by simp) (.cells #[.int .i64 5, .int .i64 n', .int .u64 b', .string s'] 25))
  have Z0 : w.heap.size ≤ ((w.alloc (.cells #[.int .i64 5, .int .i64 n, .int .u64 b, .string s] 25)).alloc (.cells #[.int .i64 5, .int .i64 n', .int .u64 b', .string s'] 25)).heap.size := by simp; omega
  have ca := fun u => right_any 5 n b s hb u
  have cb := fun u => right_any 5 n' b' s' hb' u
  rw [r1] at ca
  rw [r2] at cb
  clear r1 r2
  go_enter Tryd.func45, Tryd.ntmps45
  go_wp2_with fail
  refine (ca _).mono ?_
  rintro e w1 ⟨rfl, hbn⟩
  have T1 := Lib.hid (T0.out.below hbn)
  have U1 := Lib.hid (U0.out.below hbn)
  have B1 := Lib.hid (B0.out.trans (hbn.mono Z0))
  have Z1 : w.heap.size ≤ w1.heap.size := Nat.le_trans Z0 hbn.size
  clear hbn T0 U0 B0 Z0
  have p0 := T1.out.c0
  have q0 := U1.out.c0
  have p1 := T1.out.c1
  have q1 := U1.out.c1
  have p2 := T1.out.c2
  have q2 := U1.out.c2
  have p3 := T1.out.c3
  have q3 := U1.out.c3
  go_wp2_with fail
  refine (cb _).mono ?_
  rintro e w2 ⟨rfl, hbn⟩
  have T2 := Lib.hid (T1.out.below hbn)
  have U2 := Lib.hid (U1.out.below hbn)
  have B2 := Lib.hid (B1.out.trans (hbn.mono Z1))
  have Z2 : w.heap.size ≤ w2.heap.size := Nat.le_trans Z1 hbn.size
  clear hbn T1 U1 B1 Z1
  clear p0 p1 p2 p3 q0 q1 q2 q3
  have p0 := T2.out.c0
  have q0 := U2.out.c0
  have p1 := T2.out.c1
  have q1 := U2.out.c1
  have p2 := T2.out.c2
  have q2 := U2.out.c2
  have p3 := T2.out.c3
  have q3 := U2.out.c3
  go_wp2_with fail
  refine (bytes_any s s' _ (by omega) (by omega)).mono ?_
  rintro e w3 ⟨rfl, hbn⟩
  have B3 := Lib.hid (B2.out.trans (hbn.mono Z2))
  clear hbn
  go_wp2_with fail
  go_ret
  exact ⟨rfl, B3.out⟩
set_option maxHeartbeats 2000000 in
set_option maxRecDepth 100000 in
theorem cmp_float (k n : Int) (b : Nat) (s : ByteArray) (k' n' : Int) (b' : Nat) (s' : ByteArray) (hb : b < 18446744073709551616) (hb' : b' < 18446744073709551616) (w : World) (r1 : Val.rightB k n b s = true) (r2 : Val.rightB k' n' b' s' = true) (hk : k = 3) (hk' : k' = 3) : Calls Tryd.prog 45 #[.agg #[.int .i64 k, .int .i64 n, .int .u64 b, .string s], .agg #[.int .i64 k', .int .i64 n', .int .u64 b', .string s']] w fun e w' => e = .returned (.int .i64 (Val.cmpF b b')) ∧ Below w.heap.size w w' := by
  subst hk
  subst hk'
  have hF := cmpF_less hb hb' (right_float r1) (right_float r2)
  obtain ⟨F, hFF⟩ : ∃ F, F = Val.cmpF b b' := ⟨_, rfl⟩
  rw [← hFF] at hF ⊢
  have l1 := fun u => less_any b b' hb hb' u
  have l2 := fun u => less_any b' b hb' hb u
  clear hFF
  have T0 := Lib.hid ((Rd.Box.new w 3 n b s).old (.cells #[.int .i64 3, .int .i64 n', .int .u64 b', .string s'] 25))
  have U0 := Lib.hid (show Rd.Box ((w.alloc (.cells #[.int .i64 3, .int .i64 n, .int .u64 b, .string s] 25)).alloc (.cells #[.int .i64 3, .int .i64 n', .int .u64 b', .string s'] 25)) (w.heap.size + 1) 3 n' b' s' from by have h := Rd.Box.new (w.alloc (.cells #[.int .i64 3, .int .i64 n, .int .u64 b, .string s] 25)) 3 n' b' s'; rwa [show (w.alloc (.cells #[.int .i64 3, .int .i64 n, .int .u64 b, .string s] 25)).heap.size = w.heap.size + 1 from by simp] at h)
  have B0 := Lib.hid (((Below.refl w.heap.size w).alloc (Nat.le_refl _) (.cells #[.int .i64 3, .int .i64 n, .int .u64 b, .string s] 25)).alloc (by simp) (.cells #[.int .i64 3, .int .i64 n', .int .u64 b', .string s'] 25))
  have Z0 : w.heap.size ≤ ((w.alloc (.cells #[.int .i64 3, .int .i64 n, .int .u64 b, .string s] 25)).alloc (.cells #[.int .i64 3, .int .i64 n', .int .u64 b', .string s'] 25)).heap.size := by simp; omega
  have ca := fun u => right_any 3 n b s hb u
  have cb := fun u => right_any 3 n' b' s' hb' u
  rw [r1] at ca
  rw [r2] at cb
  clear r1 r2
  go_enter Tryd.func45, Tryd.ntmps45
  go_wp2_with fail
  refine (ca _).mono ?_
  rintro e w1 ⟨rfl, hbn⟩
  have T1 := Lib.hid (T0.out.below hbn)
  have U1 := Lib.hid (U0.out.below hbn)
  have B1 := Lib.hid (B0.out.trans (hbn.mono Z0))
  have Z1 : w.heap.size ≤ w1.heap.size := Nat.le_trans Z0 hbn.size
  clear hbn T0 U0 B0 Z0
  have p0 := T1.out.c0
  have q0 := U1.out.c0
  have p1 := T1.out.c1
  have q1 := U1.out.c1
  have p2 := T1.out.c2
  have q2 := U1.out.c2
  have p3 := T1.out.c3
  have q3 := U1.out.c3
  go_wp2_with fail
  refine (cb _).mono ?_
  rintro e w2 ⟨rfl, hbn⟩
  have T2 := Lib.hid (T1.out.below hbn)
  have U2 := Lib.hid (U1.out.below hbn)
  have B2 := Lib.hid (B1.out.trans (hbn.mono Z1))
  have Z2 : w.heap.size ≤ w2.heap.size := Nat.le_trans Z1 hbn.size
  clear hbn T1 U1 B1 Z1
  clear p0 p1 p2 p3 q0 q1 q2 q3
  have p0 := T2.out.c0
  have q0 := U2.out.c0
  have p1 := T2.out.c1
  have q1 := U2.out.c1
  have p2 := T2.out.c2
  have q2 := U2.out.c2
  have p3 := T2.out.c3
  have q3 := U2.out.c3
  cases h1 : lessB b b' with
  | true =>
    rw [h1] at l1
    have e : F = -1 := by rw [hF, h1]; rfl
    subst e
    clear hF h1 l2
    go_wp2_with fail
    refine (l1 _).mono ?_
    rintro e w3 ⟨rfl, rfl⟩
    go_wp2_with fail
    go_ret
    exact ⟨rfl, B2.out⟩
  | false =>
    rw [h1] at l1
    cases h2 : lessB b' b with
    | true =>
      rw [h2] at l2
      have e : F = 1 := by rw [hF, h1, h2]; rfl
      subst e
      clear hF h1 h2
      go_wp2_with fail
      refine (l1 _).mono ?_
      rintro e w3 ⟨rfl, rfl⟩
      go_wp2_with fail
      refine (l2 _).mono ?_
      rintro e w4 ⟨rfl, rfl⟩
      go_wp2_with fail
      go_ret
      exact ⟨rfl, B2.out⟩
    | false =>
      rw [h2] at l2
      have e : F = 0 := by rw [hF, h1, h2]; rfl
      subst e
      clear hF h1 h2
      go_wp2_with fail
      refine (l1 _).mono ?_
      rintro e w3 ⟨rfl, rfl⟩
      go_wp2_with fail
      refine (l2 _).mono ?_
      rintro e w4 ⟨rfl, rfl⟩
      go_wp2_with fail
      go_ret
      exact ⟨rfl, B2.out⟩
theorem compare_any (k n : Int) (b : Nat) (s : ByteArray) (k' n' : Int) (b' : Nat) (s' : ByteArray) (hb : b < 18446744073709551616) (hb' : b' < 18446744073709551616) (w : World) (hs : s.size ≤ 35184372088832) (hs' : s'.size ≤ 35184372088832) : Calls Tryd.prog 45 #[.agg #[.int .i64 k, .int .i64 n, .int .u64 b, .string s], .agg #[.int .i64 k', .int .i64 n', .int .u64 b', .string s']] w fun e w' => e = .returned (.int .i64 (Val.cmpV k n b s k' n' b' s')) ∧ Below w.heap.size w w' := by
  cases r1 : Val.rightB k n b s
  · rw [show Val.cmpV k n b s k' n' b' s' = 0 by unfold Val.cmpV; rw [if_pos r1]]
    exact cmp_wrong1 k n b s k' n' b' s' hb hb' w r1
  · cases r2 : Val.rightB k' n' b' s'
    · rw [show Val.cmpV k n b s k' n' b' s' = 0 by unfold Val.cmpV; rw [if_neg (by rw [r1]; simp), if_pos r2]]
      exact cmp_wrong2 k n b s k' n' b' s' hb hb' w r1 r2
    · have e0 : Val.cmpV k n b s k' n' b' s' = if k ≠ k' then Val.cmpI k k' else if k = 3 then Val.cmpF b b' else if k = 4 ∨ k = 5 then Val.cmpS s s' else Val.cmpI n n' := by
        unfold Val.cmpV; rw [if_neg (by rw [r1]; simp), if_neg (by rw [r2]; simp)]
      rw [e0]
      by_cases hk : k = k'
      · rw [if_neg (by simp [hk])]
        by_cases h3 : k = 3
        · rw [if_pos h3]
          exact cmp_float k n b s k' n' b' s' hb hb' w r1 r2 h3 (by omega)
        · rw [if_neg h3]
          by_cases h4 : k = 4
          · rw [if_pos (Or.inl h4)]
            exact cmp_text4 k n b s k' n' b' s' hb hb' w r1 r2 h4 (by omega) hs hs'
          · by_cases h5 : k = 5
            · rw [if_pos (Or.inr h5)]
              exact cmp_text5 k n b s k' n' b' s' hb hb' w r1 r2 h5 (by omega) hs hs'
            · rw [if_neg (by omega)]
              exact cmp_nums k n b s k' n' b' s' hb hb' w r1 r2 hk h3 h4 h5
      · rw [if_pos hk]
        exact cmp_kinds k n b s k' n' b' s' hb hb' w r1 r2 hk
end Ref
end Go.Proofs.YtppdebhcaodcnaaDoor
