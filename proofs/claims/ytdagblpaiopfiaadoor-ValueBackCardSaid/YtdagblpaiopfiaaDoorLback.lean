/- ValueBack is proved: for every input the law returns true and its arguments read as they did; its listed variables are tied to the program's text. No other condition. -/
import Derived.Test.YtdagblpaiopfiaaDoorFrV
import Derived.Lib.ItoaLen
namespace Go.Proofs.YtdagblpaiopfiaaDoor
open Go.ChangeShapes Go.WideShapes Go.ChangeAt Go.RowKit
namespace LaValueBack
theorem eta (s : ByteArray) : (⟨s.data.toList.toArray⟩ : ByteArray) = s := by
  rw [Array.toArray_toList]
theorem parse_some (T : ByteArray) (hmax : T.size ≤ 35184372088832) (k n : Int) (b : Nat) (s : ByteArray) (h : Rd.parse T.data.toList = some ⟨k, n, b, s.data.toList⟩) (w : World) (he : Val.Env w) :
    Calls Tryd.prog 19 #[.string T] w fun e w' => e = .returned (.tuple #[.agg #[.int .i64 k, .int .i64 n, .int .u64 b, .string s], .int .i64 0]) ∧ Below w.heap.size w w' := by
  have g := Rd.parse_any T hmax w he
  rw [h] at g
  refine g.mono ?_
  rintro e w' ⟨rfl, hb⟩
  exact ⟨by rw [eta], hb⟩
theorem parse_none (T : ByteArray) (hmax : T.size ≤ 35184372088832) (h : Rd.parse T.data.toList = none) (w : World) (he : Val.Env w) :
    Calls Tryd.prog 19 #[.string T] w fun e w' => e = .returned (.tuple #[.agg #[.int .i64 0, .int .i64 0, .int .u64 0, .string ⟨#[]⟩], .int .i64 7]) ∧ Below w.heap.size w w' := by
  have g := Rd.parse_any T hmax w he
  rw [h] at g
  exact g
theorem show_is (k n : Int) (b : Nat) (s T : ByteArray) (h0 : -9223372036854775808 ≤ n) (h1 : n ≤ 9223372036854775807) (hb : b < 18446744073709551616) (h : T.data.toList = Val.showL k n b s) (w : World) (he : Val.Env w) :
    Calls Tryd.prog 16 #[.agg #[.int .i64 k, .int .i64 n, .int .u64 b, .string s]] w fun e w' => e = .returned (.string T) ∧ Below w.heap.size w w' := by
  refine (Val.show_any k n b s w he h0 h1 hb).mono ?_
  rintro e w' ⟨rfl, hb⟩
  exact ⟨by rw [← h, eta], hb⟩
theorem right_is (k n : Int) (b : Nat) (s : ByteArray) (v : Bool) (h : Val.rightB k n b s = v) (w : World) :
    Calls Tryd.prog 12 #[.agg #[.int .i64 k, .int .i64 n, .int .u64 b, .string s]] w fun e w' => e = .returned (.bool v) ∧ Below w.heap.size w w' := by
  have g := Val.right_any k n b s w
  rw [h] at g; exact g
theorem self_eqV (k n : Int) (b : Nat) (s : ByteArray) : Val.eqV k n b s k n b s = true := (Rd.eqV_iff _ _ _ _ _ _ _ _).2 ⟨rfl, rfl, rfl, rfl⟩
theorem show_len (k n : Int) (b : Nat) (s : ByteArray) (n0 : -9223372036854775808 ≤ n) (n1 : n ≤ 9223372036854775807) (hs : s.size ≤ 4096) : (Val.showL k n b s).length ≤ 20000 := by
  have hl : s.data.toList.length = s.size := by simp
  unfold Val.showL
  split
  · simp
  · split
    · simp
    · split
      · cases (n == 1) <;> decide
      · split
        · have := Lib.itoa_length_le n n0 n1; omega
        · split
          · unfold Txt.showBits; rw [Txt.bitsTo_len]; omega
          · split
            · unfold Txt.showBytes
              have := Txt.bytesTo_len s.data.toList s.data.toList.length
              omega
            · unfold Txt.showText
              have := Txt.textTo_len s.data.toList s.data.toList.length
              rw [List.length_append]
              simp only [List.length_cons, List.length_nil]
              omega
set_option maxHeartbeats 4000000 in
set_option maxRecDepth 100000 in
theorem bk_long1 (k n : Int) (b : Nat) (s q : ByteArray) (w : World) (he : Val.Env w) (g1 : decide ((500 : Int) < s.size) = true) : Calls Tryd.prog 6 #[.agg #[.int .i64 k, .int .i64 n, .int .u64 b, .string s], .string q] w fun e w' => e = .returned (.bool true) ∧ Below w.heap.size w w' := by
  have HE := Lib.hid (he.below ((Below.refl w.heap.size w).alloc (Nat.le_refl _) (.cells #[.int .i64 k, .int .i64 n, .int .u64 b, .string s] 24)))
  clear he
  go_enter Tryd.func6, Tryd.ntmps6
  go_wp2_with fail
  refine (Rd.known_any _ HE.out).mono ?_
  rintro e w1 ⟨rfl, hb⟩
  go_wp2_with fail
  go_ret
  exact ⟨rfl, ((Below.refl _ _).alloc (Nat.le_refl _) _).trans (hb.mono (by simp))⟩
set_option maxHeartbeats 4000000 in
set_option maxRecDepth 100000 in
theorem bk_long2 (k n : Int) (b : Nat) (s q : ByteArray) (w : World) (he : Val.Env w) (g1 : decide ((500 : Int) < s.size) = false) (g2 : decide ((300 : Int) < q.size) = true) : Calls Tryd.prog 6 #[.agg #[.int .i64 k, .int .i64 n, .int .u64 b, .string s], .string q] w fun e w' => e = .returned (.bool true) ∧ Below w.heap.size w w' := by
  have HE := Lib.hid (he.below ((Below.refl w.heap.size w).alloc (Nat.le_refl _) (.cells #[.int .i64 k, .int .i64 n, .int .u64 b, .string s] 24)))
  clear he
  go_enter Tryd.func6, Tryd.ntmps6
  go_wp2_with fail
  refine (Rd.known_any _ HE.out).mono ?_
  rintro e w1 ⟨rfl, hb⟩
  go_wp2_with fail
  go_ret
  exact ⟨rfl, ((Below.refl _ _).alloc (Nat.le_refl _) _).trans (hb.mono (by simp))⟩
set_option maxHeartbeats 4000000 in
set_option maxRecDepth 100000 in
theorem bk_rs (k n : Int) (b : Nat) (s q : ByteArray) (w : World) (he : Val.Env w) (g1 : decide ((500 : Int) < s.size) = false) (g2 : decide ((300 : Int) < q.size) = false) (hs : s.size ≤ 500) (hq : q.size ≤ 300) (n0 : -9223372036854775808 ≤ n) (n1 : n ≤ 9223372036854775807) (nb : b < 18446744073709551616) (T : ByteArray) (hT : T.data.toList = Val.showL k n b s) (hTs : T.size ≤ 35184372088832) (hr : Val.rightB k n b s = true) (hp : Rd.parse T.data.toList = some ⟨k, n, b, s.data.toList⟩) (k' n' : Int) (b' : Nat) (s' : ByteArray) (hp' : Rd.parse q.data.toList = some ⟨k', n', b', s'.data.toList⟩) (hr' : Val.rightB k' n' b' s' = true) (hT' : q.data.toList = Val.showL k' n' b' s') (m0 : -9223372036854775808 ≤ n') (m1 : n' ≤ 9223372036854775807) (mb : b' < 18446744073709551616) : Calls Tryd.prog 6 #[.agg #[.int .i64 k, .int .i64 n, .int .u64 b, .string s], .string q] w fun e w' => e = .returned (.bool true) ∧ Below w.heap.size w w' := by
  have hT_ := Lib.hid hT
  have hTs_ := Lib.hid hTs
  have hr_ := Lib.hid hr
  have hp_ := Lib.hid hp
  have n0_ := Lib.hid n0
  have n1_ := Lib.hid n1
  have nb_ := Lib.hid nb
  have hs_ := Lib.hid hs
  have hq_ := Lib.hid hq
  have hp'_ := Lib.hid hp'
  have hr'_ := Lib.hid hr'
  have hT'_ := Lib.hid hT'
  have m0_ := Lib.hid m0
  have m1_ := Lib.hid m1
  have mb_ := Lib.hid mb
  clear hT hTs hr hp n0 n1 nb hs hq hp' hr' hT' m0 m1 mb
  have HE0 := Lib.hid (he.below ((Below.refl w.heap.size w).alloc (Nat.le_refl _) (.cells #[.int .i64 k, .int .i64 n, .int .u64 b, .string s] 24)))
  have T20 := Lib.hid (Rd.Box.new w k n b s)
  have B0 := Lib.hid ((Below.refl w.heap.size w).alloc (Nat.le_refl _) (.cells #[.int .i64 k, .int .i64 n, .int .u64 b, .string s] 24))
  have Z0 : w.heap.size ≤ (w.alloc (.cells #[.int .i64 k, .int .i64 n, .int .u64 b, .string s] 24)).heap.size := by simp
  clear he
  have gq := self_eqV k n b s
  have gs : (q.toList == q.toList) = true := by simp
  go_enter Tryd.func6, Tryd.ntmps6
  go_wp2_with fail
  refine (show_is k n b s T n0_.out n1_.out nb_.out hT_.out _ HE0.out).mono ?_
  rintro e w1 ⟨rfl, hbn⟩
  have HE1 := Lib.hid (HE0.out.below hbn)
  have T21 := Lib.hid (T20.out.below hbn)
  have B1 := Lib.hid (B0.out.trans (hbn.mono Z0))
  have Z1 : w.heap.size ≤ w1.heap.size := Nat.le_trans Z0 hbn.size
  clear hbn HE0 B0 Z0 T20
  go_wp2_with fail
  refine (parse_some T hTs_.out k n b s hp_.out _ HE1.out).mono ?_
  rintro e w2 ⟨rfl, hbn⟩
  have HE2 := Lib.hid (HE1.out.below hbn)
  have T22 := Lib.hid (T21.out.below hbn)
  have B2 := Lib.hid (B1.out.trans (hbn.mono Z1))
  have Z2 : w.heap.size ≤ w2.heap.size := Nat.le_trans Z1 hbn.size
  clear hbn HE1 B1 Z1 T21
  have HE2a := Lib.hid (HE2.out.below ((Below.refl w2.heap.size w2).alloc (Nat.le_refl _) (.cells #[.int .i64 k, .int .i64 n, .int .u64 b, .string s] 24)))
  have T22a := Lib.hid (T22.out.old (.cells #[.int .i64 k, .int .i64 n, .int .u64 b, .string s] 24))
  have T62a := Lib.hid (Rd.Box.new w2 k n b s)
  have B2a := Lib.hid (B2.out.alloc Z2 (.cells #[.int .i64 k, .int .i64 n, .int .u64 b, .string s] 24))
  have Z2a : w.heap.size ≤ (w2.alloc (.cells #[.int .i64 k, .int .i64 n, .int .u64 b, .string s] 24)).heap.size := by simp; omega
  clear HE2 B2 Z2 T22
  go_wp2_with fail
  refine (parse_some q (by have := hq_.out; omega) k' n' b' s' hp'_.out _ HE2a.out).mono ?_
  rintro e w3 ⟨rfl, hbn⟩
  have HE3 := Lib.hid (HE2a.out.below hbn)
  have T23 := Lib.hid (T22a.out.below hbn)
  have T63 := Lib.hid (T62a.out.below hbn)
  have B3 := Lib.hid (B2a.out.trans (hbn.mono Z2a))
  have Z3 : w.heap.size ≤ w3.heap.size := Nat.le_trans Z2a hbn.size
  clear hbn HE2a B2a Z2a T22a T62a
  have HE3a := Lib.hid (HE3.out.below ((Below.refl w3.heap.size w3).alloc (Nat.le_refl _) (.cells #[.int .i64 k', .int .i64 n', .int .u64 b', .string s'] 24)))
  have T23a := Lib.hid (T23.out.old (.cells #[.int .i64 k', .int .i64 n', .int .u64 b', .string s'] 24))
  have T63a := Lib.hid (T63.out.old (.cells #[.int .i64 k', .int .i64 n', .int .u64 b', .string s'] 24))
  have T83a := Lib.hid (Rd.Box.new w3 k' n' b' s')
  have B3a := Lib.hid (B3.out.alloc Z3 (.cells #[.int .i64 k', .int .i64 n', .int .u64 b', .string s'] 24))
  have Z3a : w.heap.size ≤ (w3.alloc (.cells #[.int .i64 k', .int .i64 n', .int .u64 b', .string s'] 24)).heap.size := by simp; omega
  clear HE3 B3 Z3 T23 T63
  have qT20 := T23a.out.c0
  have qT21 := T23a.out.c1
  have qT22 := T23a.out.c2
  have qT23 := T23a.out.c3
  go_wp2_with fail
  refine (right_is k n b s _ hr_.out _).mono ?_
  rintro e w4 ⟨rfl, hbn⟩
  clear qT20 qT21 qT22 qT23
  have HE4 := Lib.hid (HE3a.out.below hbn)
  have T24 := Lib.hid (T23a.out.below hbn)
  have T64 := Lib.hid (T63a.out.below hbn)
  have T84 := Lib.hid (T83a.out.below hbn)
  have B4 := Lib.hid (B3a.out.trans (hbn.mono Z3a))
  have Z4 : w.heap.size ≤ w4.heap.size := Nat.le_trans Z3a hbn.size
  clear hbn HE3a B3a Z3a T23a T63a T83a
  have qT60 := T64.out.c0
  have qT61 := T64.out.c1
  have qT62 := T64.out.c2
  have qT63 := T64.out.c3
  have qT20 := T24.out.c0
  have qT21 := T24.out.c1
  have qT22 := T24.out.c2
  have qT23 := T24.out.c3
  have qT80 := T84.out.c0
  have qT81 := T84.out.c1
  have qT82 := T84.out.c2
  have qT83 := T84.out.c3
  go_wp2_with fail
  refine (show_is k' n' b' s' q m0_.out m1_.out mb_.out hT'_.out _ HE4.out).mono ?_
  rintro e w5 ⟨rfl, hbn⟩
  clear qT60 qT61 qT62 qT63 qT20 qT21 qT22 qT23 qT80 qT81 qT82 qT83
  have HE5 := Lib.hid (HE4.out.below hbn)
  have T25 := Lib.hid (T24.out.below hbn)
  have T65 := Lib.hid (T64.out.below hbn)
  have T85 := Lib.hid (T84.out.below hbn)
  have B5 := Lib.hid (B4.out.trans (hbn.mono Z4))
  have Z5 : w.heap.size ≤ w5.heap.size := Nat.le_trans Z4 hbn.size
  clear hbn HE4 B4 Z4 T24 T64 T84
  have qT80 := T85.out.c0
  have qT81 := T85.out.c1
  have qT82 := T85.out.c2
  have qT83 := T85.out.c3
  go_wp2_with fail
  refine (right_is k' n' b' s' _ hr'_.out _).mono ?_
  rintro e w6 ⟨rfl, hbn⟩
  clear qT80 qT81 qT82 qT83
  have HE6 := Lib.hid (HE5.out.below hbn)
  have T26 := Lib.hid (T25.out.below hbn)
  have T66 := Lib.hid (T65.out.below hbn)
  have T86 := Lib.hid (T85.out.below hbn)
  have B6 := Lib.hid (B5.out.trans (hbn.mono Z5))
  have Z6 : w.heap.size ≤ w6.heap.size := Nat.le_trans Z5 hbn.size
  clear hbn HE5 B5 Z5 T25 T65 T85
  go_wp2_with fail
  refine (Rd.known_any _ HE6.out).mono ?_
  rintro e w7 ⟨rfl, hbn⟩
  have B7 := Lib.hid (B6.out.trans (hbn.mono Z6))
  clear hbn
  go_wp2_with fail
  go_ret
  exact ⟨rfl, B7.out⟩
set_option maxHeartbeats 4000000 in
set_option maxRecDepth 100000 in
theorem bk_rn (k n : Int) (b : Nat) (s q : ByteArray) (w : World) (he : Val.Env w) (g1 : decide ((500 : Int) < s.size) = false) (g2 : decide ((300 : Int) < q.size) = false) (hs : s.size ≤ 500) (hq : q.size ≤ 300) (n0 : -9223372036854775808 ≤ n) (n1 : n ≤ 9223372036854775807) (nb : b < 18446744073709551616) (T : ByteArray) (hT : T.data.toList = Val.showL k n b s) (hTs : T.size ≤ 35184372088832) (hr : Val.rightB k n b s = true) (hp : Rd.parse T.data.toList = some ⟨k, n, b, s.data.toList⟩) (hp' : Rd.parse q.data.toList = none) : Calls Tryd.prog 6 #[.agg #[.int .i64 k, .int .i64 n, .int .u64 b, .string s], .string q] w fun e w' => e = .returned (.bool true) ∧ Below w.heap.size w w' := by
  have hT_ := Lib.hid hT
  have hTs_ := Lib.hid hTs
  have hr_ := Lib.hid hr
  have hp_ := Lib.hid hp
  have n0_ := Lib.hid n0
  have n1_ := Lib.hid n1
  have nb_ := Lib.hid nb
  have hs_ := Lib.hid hs
  have hq_ := Lib.hid hq
  have hp'_ := Lib.hid hp'
  clear hT hTs hr hp n0 n1 nb hs hq hp'
  have HE0 := Lib.hid (he.below ((Below.refl w.heap.size w).alloc (Nat.le_refl _) (.cells #[.int .i64 k, .int .i64 n, .int .u64 b, .string s] 24)))
  have T20 := Lib.hid (Rd.Box.new w k n b s)
  have B0 := Lib.hid ((Below.refl w.heap.size w).alloc (Nat.le_refl _) (.cells #[.int .i64 k, .int .i64 n, .int .u64 b, .string s] 24))
  have Z0 : w.heap.size ≤ (w.alloc (.cells #[.int .i64 k, .int .i64 n, .int .u64 b, .string s] 24)).heap.size := by simp
  clear he
  have gq := self_eqV k n b s
  go_enter Tryd.func6, Tryd.ntmps6
  go_wp2_with fail
  refine (show_is k n b s T n0_.out n1_.out nb_.out hT_.out _ HE0.out).mono ?_
  rintro e w1 ⟨rfl, hbn⟩
  have HE1 := Lib.hid (HE0.out.below hbn)
  have T21 := Lib.hid (T20.out.below hbn)
  have B1 := Lib.hid (B0.out.trans (hbn.mono Z0))
  have Z1 : w.heap.size ≤ w1.heap.size := Nat.le_trans Z0 hbn.size
  clear hbn HE0 B0 Z0 T20
  go_wp2_with fail
  refine (parse_some T hTs_.out k n b s hp_.out _ HE1.out).mono ?_
  rintro e w2 ⟨rfl, hbn⟩
  have HE2 := Lib.hid (HE1.out.below hbn)
  have T22 := Lib.hid (T21.out.below hbn)
  have B2 := Lib.hid (B1.out.trans (hbn.mono Z1))
  have Z2 : w.heap.size ≤ w2.heap.size := Nat.le_trans Z1 hbn.size
  clear hbn HE1 B1 Z1 T21
  have HE2a := Lib.hid (HE2.out.below ((Below.refl w2.heap.size w2).alloc (Nat.le_refl _) (.cells #[.int .i64 k, .int .i64 n, .int .u64 b, .string s] 24)))
  have T22a := Lib.hid (T22.out.old (.cells #[.int .i64 k, .int .i64 n, .int .u64 b, .string s] 24))
  have T62a := Lib.hid (Rd.Box.new w2 k n b s)
  have B2a := Lib.hid (B2.out.alloc Z2 (.cells #[.int .i64 k, .int .i64 n, .int .u64 b, .string s] 24))
  have Z2a : w.heap.size ≤ (w2.alloc (.cells #[.int .i64 k, .int .i64 n, .int .u64 b, .string s] 24)).heap.size := by simp; omega
  clear HE2 B2 Z2 T22
  go_wp2_with fail
  refine (parse_none q (by have := hq_.out; omega) hp'_.out _ HE2a.out).mono ?_
  rintro e w3 ⟨rfl, hbn⟩
  have HE3 := Lib.hid (HE2a.out.below hbn)
  have T23 := Lib.hid (T22a.out.below hbn)
  have T63 := Lib.hid (T62a.out.below hbn)
  have B3 := Lib.hid (B2a.out.trans (hbn.mono Z2a))
  have Z3 : w.heap.size ≤ w3.heap.size := Nat.le_trans Z2a hbn.size
  clear hbn HE2a B2a Z2a T22a T62a
  have HE3a := Lib.hid (HE3.out.below ((Below.refl w3.heap.size w3).alloc (Nat.le_refl _) (.cells #[.int .i64 0, .int .i64 0, .int .u64 0, .string ⟨#[]⟩] 24)))
  have T23a := Lib.hid (T23.out.old (.cells #[.int .i64 0, .int .i64 0, .int .u64 0, .string ⟨#[]⟩] 24))
  have T63a := Lib.hid (T63.out.old (.cells #[.int .i64 0, .int .i64 0, .int .u64 0, .string ⟨#[]⟩] 24))
  have T83a := Lib.hid (Rd.Box.new w3 0 0 0 ⟨#[]⟩)
  have B3a := Lib.hid (B3.out.alloc Z3 (.cells #[.int .i64 0, .int .i64 0, .int .u64 0, .string ⟨#[]⟩] 24))
  have Z3a : w.heap.size ≤ (w3.alloc (.cells #[.int .i64 0, .int .i64 0, .int .u64 0, .string ⟨#[]⟩] 24)).heap.size := by simp; omega
  clear HE3 B3 Z3 T23 T63
  have qT20 := T23a.out.c0
  have qT21 := T23a.out.c1
  have qT22 := T23a.out.c2
  have qT23 := T23a.out.c3
  go_wp2_with fail
  refine (right_is k n b s _ hr_.out _).mono ?_
  rintro e w4 ⟨rfl, hbn⟩
  clear qT20 qT21 qT22 qT23
  have HE4 := Lib.hid (HE3a.out.below hbn)
  have T24 := Lib.hid (T23a.out.below hbn)
  have T64 := Lib.hid (T63a.out.below hbn)
  have T84 := Lib.hid (T83a.out.below hbn)
  have B4 := Lib.hid (B3a.out.trans (hbn.mono Z3a))
  have Z4 : w.heap.size ≤ w4.heap.size := Nat.le_trans Z3a hbn.size
  clear hbn HE3a B3a Z3a T23a T63a T83a
  have qT60 := T64.out.c0
  have qT61 := T64.out.c1
  have qT62 := T64.out.c2
  have qT63 := T64.out.c3
  have qT20 := T24.out.c0
  have qT21 := T24.out.c1
  have qT22 := T24.out.c2
  have qT23 := T24.out.c3
  go_wp2_with fail
  refine (Rd.known_any _ HE4.out).mono ?_
  rintro e w7 ⟨rfl, hbn⟩
  have B7 := Lib.hid (B4.out.trans (hbn.mono Z4))
  clear hbn
  go_wp2_with fail
  go_ret
  exact ⟨rfl, B7.out⟩
set_option maxHeartbeats 4000000 in
set_option maxRecDepth 100000 in
theorem bk_ws (k n : Int) (b : Nat) (s q : ByteArray) (w : World) (he : Val.Env w) (g1 : decide ((500 : Int) < s.size) = false) (g2 : decide ((300 : Int) < q.size) = false) (hs : s.size ≤ 500) (hq : q.size ≤ 300) (n0 : -9223372036854775808 ≤ n) (n1 : n ≤ 9223372036854775807) (nb : b < 18446744073709551616) (T : ByteArray) (hT : T.data.toList = Val.showL k n b s) (hTs : T.size ≤ 35184372088832) (hr : Val.rightB k n b s = false) (hp : Rd.parse T.data.toList = none) (k' n' : Int) (b' : Nat) (s' : ByteArray) (hp' : Rd.parse q.data.toList = some ⟨k', n', b', s'.data.toList⟩) (hr' : Val.rightB k' n' b' s' = true) (hT' : q.data.toList = Val.showL k' n' b' s') (m0 : -9223372036854775808 ≤ n') (m1 : n' ≤ 9223372036854775807) (mb : b' < 18446744073709551616) : Calls Tryd.prog 6 #[.agg #[.int .i64 k, .int .i64 n, .int .u64 b, .string s], .string q] w fun e w' => e = .returned (.bool true) ∧ Below w.heap.size w w' := by
  have hT_ := Lib.hid hT
  have hTs_ := Lib.hid hTs
  have hr_ := Lib.hid hr
  have hp_ := Lib.hid hp
  have n0_ := Lib.hid n0
  have n1_ := Lib.hid n1
  have nb_ := Lib.hid nb
  have hs_ := Lib.hid hs
  have hq_ := Lib.hid hq
  have hp'_ := Lib.hid hp'
  have hr'_ := Lib.hid hr'
  have hT'_ := Lib.hid hT'
  have m0_ := Lib.hid m0
  have m1_ := Lib.hid m1
  have mb_ := Lib.hid mb
  clear hT hTs hr hp n0 n1 nb hs hq hp' hr' hT' m0 m1 mb
  have HE0 := Lib.hid (he.below ((Below.refl w.heap.size w).alloc (Nat.le_refl _) (.cells #[.int .i64 k, .int .i64 n, .int .u64 b, .string s] 24)))
  have T20 := Lib.hid (Rd.Box.new w k n b s)
  have B0 := Lib.hid ((Below.refl w.heap.size w).alloc (Nat.le_refl _) (.cells #[.int .i64 k, .int .i64 n, .int .u64 b, .string s] 24))
  have Z0 : w.heap.size ≤ (w.alloc (.cells #[.int .i64 k, .int .i64 n, .int .u64 b, .string s] 24)).heap.size := by simp
  clear he
  have gs : (q.toList == q.toList) = true := by simp
  go_enter Tryd.func6, Tryd.ntmps6
  go_wp2_with fail
  refine (show_is k n b s T n0_.out n1_.out nb_.out hT_.out _ HE0.out).mono ?_
  rintro e w1 ⟨rfl, hbn⟩
  have HE1 := Lib.hid (HE0.out.below hbn)
  have T21 := Lib.hid (T20.out.below hbn)
  have B1 := Lib.hid (B0.out.trans (hbn.mono Z0))
  have Z1 : w.heap.size ≤ w1.heap.size := Nat.le_trans Z0 hbn.size
  clear hbn HE0 B0 Z0 T20
  go_wp2_with fail
  refine (parse_none T hTs_.out hp_.out _ HE1.out).mono ?_
  rintro e w2 ⟨rfl, hbn⟩
  have HE2 := Lib.hid (HE1.out.below hbn)
  have T22 := Lib.hid (T21.out.below hbn)
  have B2 := Lib.hid (B1.out.trans (hbn.mono Z1))
  have Z2 : w.heap.size ≤ w2.heap.size := Nat.le_trans Z1 hbn.size
  clear hbn HE1 B1 Z1 T21
  have HE2a := Lib.hid (HE2.out.below ((Below.refl w2.heap.size w2).alloc (Nat.le_refl _) (.cells #[.int .i64 0, .int .i64 0, .int .u64 0, .string ⟨#[]⟩] 24)))
  have T22a := Lib.hid (T22.out.old (.cells #[.int .i64 0, .int .i64 0, .int .u64 0, .string ⟨#[]⟩] 24))
  have T62a := Lib.hid (Rd.Box.new w2 0 0 0 ⟨#[]⟩)
  have B2a := Lib.hid (B2.out.alloc Z2 (.cells #[.int .i64 0, .int .i64 0, .int .u64 0, .string ⟨#[]⟩] 24))
  have Z2a : w.heap.size ≤ (w2.alloc (.cells #[.int .i64 0, .int .i64 0, .int .u64 0, .string ⟨#[]⟩] 24)).heap.size := by simp; omega
  clear HE2 B2 Z2 T22
  go_wp2_with fail
  refine (parse_some q (by have := hq_.out; omega) k' n' b' s' hp'_.out _ HE2a.out).mono ?_
  rintro e w3 ⟨rfl, hbn⟩
  have HE3 := Lib.hid (HE2a.out.below hbn)
  have T23 := Lib.hid (T22a.out.below hbn)
  have T63 := Lib.hid (T62a.out.below hbn)
  have B3 := Lib.hid (B2a.out.trans (hbn.mono Z2a))
  have Z3 : w.heap.size ≤ w3.heap.size := Nat.le_trans Z2a hbn.size
  clear hbn HE2a B2a Z2a T22a T62a
  have HE3a := Lib.hid (HE3.out.below ((Below.refl w3.heap.size w3).alloc (Nat.le_refl _) (.cells #[.int .i64 k', .int .i64 n', .int .u64 b', .string s'] 24)))
  have T23a := Lib.hid (T23.out.old (.cells #[.int .i64 k', .int .i64 n', .int .u64 b', .string s'] 24))
  have T63a := Lib.hid (T63.out.old (.cells #[.int .i64 k', .int .i64 n', .int .u64 b', .string s'] 24))
  have T83a := Lib.hid (Rd.Box.new w3 k' n' b' s')
  have B3a := Lib.hid (B3.out.alloc Z3 (.cells #[.int .i64 k', .int .i64 n', .int .u64 b', .string s'] 24))
  have Z3a : w.heap.size ≤ (w3.alloc (.cells #[.int .i64 k', .int .i64 n', .int .u64 b', .string s'] 24)).heap.size := by simp; omega
  clear HE3 B3 Z3 T23 T63
  have qT20 := T23a.out.c0
  have qT21 := T23a.out.c1
  have qT22 := T23a.out.c2
  have qT23 := T23a.out.c3
  go_wp2_with fail
  refine (right_is k n b s _ hr_.out _).mono ?_
  rintro e w4 ⟨rfl, hbn⟩
  clear qT20 qT21 qT22 qT23
  have HE4 := Lib.hid (HE3a.out.below hbn)
  have T24 := Lib.hid (T23a.out.below hbn)
  have T64 := Lib.hid (T63a.out.below hbn)
  have T84 := Lib.hid (T83a.out.below hbn)
  have B4 := Lib.hid (B3a.out.trans (hbn.mono Z3a))
  have Z4 : w.heap.size ≤ w4.heap.size := Nat.le_trans Z3a hbn.size
  clear hbn HE3a B3a Z3a T23a T63a T83a
  have qT80 := T84.out.c0
  have qT81 := T84.out.c1
  have qT82 := T84.out.c2
  have qT83 := T84.out.c3
  go_wp2_with fail
  refine (show_is k' n' b' s' q m0_.out m1_.out mb_.out hT'_.out _ HE4.out).mono ?_
  rintro e w5 ⟨rfl, hbn⟩
  clear qT80 qT81 qT82 qT83
  have HE5 := Lib.hid (HE4.out.below hbn)
  have T25 := Lib.hid (T24.out.below hbn)
  have T65 := Lib.hid (T64.out.below hbn)
  have T85 := Lib.hid (T84.out.below hbn)
  have B5 := Lib.hid (B4.out.trans (hbn.mono Z4))
  have Z5 : w.heap.size ≤ w5.heap.size := Nat.le_trans Z4 hbn.size
  clear hbn HE4 B4 Z4 T24 T64 T84
  have qT80 := T85.out.c0
  have qT81 := T85.out.c1
  have qT82 := T85.out.c2
  have qT83 := T85.out.c3
  go_wp2_with fail
  refine (right_is k' n' b' s' _ hr'_.out _).mono ?_
  rintro e w6 ⟨rfl, hbn⟩
  clear qT80 qT81 qT82 qT83
  have HE6 := Lib.hid (HE5.out.below hbn)
  have T26 := Lib.hid (T25.out.below hbn)
  have T66 := Lib.hid (T65.out.below hbn)
  have T86 := Lib.hid (T85.out.below hbn)
  have B6 := Lib.hid (B5.out.trans (hbn.mono Z5))
  have Z6 : w.heap.size ≤ w6.heap.size := Nat.le_trans Z5 hbn.size
  clear hbn HE5 B5 Z5 T25 T65 T85
  go_wp2_with fail
  refine (Rd.known_any _ HE6.out).mono ?_
  rintro e w7 ⟨rfl, hbn⟩
  have B7 := Lib.hid (B6.out.trans (hbn.mono Z6))
  clear hbn
  go_wp2_with fail
  go_ret
  exact ⟨rfl, B7.out⟩
set_option maxHeartbeats 4000000 in
set_option maxRecDepth 100000 in
theorem bk_wn (k n : Int) (b : Nat) (s q : ByteArray) (w : World) (he : Val.Env w) (g1 : decide ((500 : Int) < s.size) = false) (g2 : decide ((300 : Int) < q.size) = false) (hs : s.size ≤ 500) (hq : q.size ≤ 300) (n0 : -9223372036854775808 ≤ n) (n1 : n ≤ 9223372036854775807) (nb : b < 18446744073709551616) (T : ByteArray) (hT : T.data.toList = Val.showL k n b s) (hTs : T.size ≤ 35184372088832) (hr : Val.rightB k n b s = false) (hp : Rd.parse T.data.toList = none) (hp' : Rd.parse q.data.toList = none) : Calls Tryd.prog 6 #[.agg #[.int .i64 k, .int .i64 n, .int .u64 b, .string s], .string q] w fun e w' => e = .returned (.bool true) ∧ Below w.heap.size w w' := by
  have hT_ := Lib.hid hT
  have hTs_ := Lib.hid hTs
  have hr_ := Lib.hid hr
  have hp_ := Lib.hid hp
  have n0_ := Lib.hid n0
  have n1_ := Lib.hid n1
  have nb_ := Lib.hid nb
  have hs_ := Lib.hid hs
  have hq_ := Lib.hid hq
  have hp'_ := Lib.hid hp'
  clear hT hTs hr hp n0 n1 nb hs hq hp'
  have HE0 := Lib.hid (he.below ((Below.refl w.heap.size w).alloc (Nat.le_refl _) (.cells #[.int .i64 k, .int .i64 n, .int .u64 b, .string s] 24)))
  have T20 := Lib.hid (Rd.Box.new w k n b s)
  have B0 := Lib.hid ((Below.refl w.heap.size w).alloc (Nat.le_refl _) (.cells #[.int .i64 k, .int .i64 n, .int .u64 b, .string s] 24))
  have Z0 : w.heap.size ≤ (w.alloc (.cells #[.int .i64 k, .int .i64 n, .int .u64 b, .string s] 24)).heap.size := by simp
  clear he
  go_enter Tryd.func6, Tryd.ntmps6
  go_wp2_with fail
  refine (show_is k n b s T n0_.out n1_.out nb_.out hT_.out _ HE0.out).mono ?_
  rintro e w1 ⟨rfl, hbn⟩
  have HE1 := Lib.hid (HE0.out.below hbn)
  have T21 := Lib.hid (T20.out.below hbn)
  have B1 := Lib.hid (B0.out.trans (hbn.mono Z0))
  have Z1 : w.heap.size ≤ w1.heap.size := Nat.le_trans Z0 hbn.size
  clear hbn HE0 B0 Z0 T20
  go_wp2_with fail
  refine (parse_none T hTs_.out hp_.out _ HE1.out).mono ?_
  rintro e w2 ⟨rfl, hbn⟩
  have HE2 := Lib.hid (HE1.out.below hbn)
  have T22 := Lib.hid (T21.out.below hbn)
  have B2 := Lib.hid (B1.out.trans (hbn.mono Z1))
  have Z2 : w.heap.size ≤ w2.heap.size := Nat.le_trans Z1 hbn.size
  clear hbn HE1 B1 Z1 T21
  have HE2a := Lib.hid (HE2.out.below ((Below.refl w2.heap.size w2).alloc (Nat.le_refl _) (.cells #[.int .i64 0, .int .i64 0, .int .u64 0, .string ⟨#[]⟩] 24)))
  have T22a := Lib.hid (T22.out.old (.cells #[.int .i64 0, .int .i64 0, .int .u64 0, .string ⟨#[]⟩] 24))
  have T62a := Lib.hid (Rd.Box.new w2 0 0 0 ⟨#[]⟩)
  have B2a := Lib.hid (B2.out.alloc Z2 (.cells #[.int .i64 0, .int .i64 0, .int .u64 0, .string ⟨#[]⟩] 24))
  have Z2a : w.heap.size ≤ (w2.alloc (.cells #[.int .i64 0, .int .i64 0, .int .u64 0, .string ⟨#[]⟩] 24)).heap.size := by simp; omega
  clear HE2 B2 Z2 T22
  go_wp2_with fail
  refine (parse_none q (by have := hq_.out; omega) hp'_.out _ HE2a.out).mono ?_
  rintro e w3 ⟨rfl, hbn⟩
  have HE3 := Lib.hid (HE2a.out.below hbn)
  have T23 := Lib.hid (T22a.out.below hbn)
  have T63 := Lib.hid (T62a.out.below hbn)
  have B3 := Lib.hid (B2a.out.trans (hbn.mono Z2a))
  have Z3 : w.heap.size ≤ w3.heap.size := Nat.le_trans Z2a hbn.size
  clear hbn HE2a B2a Z2a T22a T62a
  have HE3a := Lib.hid (HE3.out.below ((Below.refl w3.heap.size w3).alloc (Nat.le_refl _) (.cells #[.int .i64 0, .int .i64 0, .int .u64 0, .string ⟨#[]⟩] 24)))
  have T23a := Lib.hid (T23.out.old (.cells #[.int .i64 0, .int .i64 0, .int .u64 0, .string ⟨#[]⟩] 24))
  have T63a := Lib.hid (T63.out.old (.cells #[.int .i64 0, .int .i64 0, .int .u64 0, .string ⟨#[]⟩] 24))
  have T83a := Lib.hid (Rd.Box.new w3 0 0 0 ⟨#[]⟩)
  have B3a := Lib.hid (B3.out.alloc Z3 (.cells #[.int .i64 0, .int .i64 0, .int .u64 0, .string ⟨#[]⟩] 24))
  have Z3a : w.heap.size ≤ (w3.alloc (.cells #[.int .i64 0, .int .i64 0, .int .u64 0, .string ⟨#[]⟩] 24)).heap.size := by simp; omega
  clear HE3 B3 Z3 T23 T63
  have qT20 := T23a.out.c0
  have qT21 := T23a.out.c1
  have qT22 := T23a.out.c2
  have qT23 := T23a.out.c3
  go_wp2_with fail
  refine (right_is k n b s _ hr_.out _).mono ?_
  rintro e w4 ⟨rfl, hbn⟩
  clear qT20 qT21 qT22 qT23
  have HE4 := Lib.hid (HE3a.out.below hbn)
  have T24 := Lib.hid (T23a.out.below hbn)
  have T64 := Lib.hid (T63a.out.below hbn)
  have T84 := Lib.hid (T83a.out.below hbn)
  have B4 := Lib.hid (B3a.out.trans (hbn.mono Z3a))
  have Z4 : w.heap.size ≤ w4.heap.size := Nat.le_trans Z3a hbn.size
  clear hbn HE3a B3a Z3a T23a T63a T83a
  go_wp2_with fail
  refine (Rd.known_any _ HE4.out).mono ?_
  rintro e w7 ⟨rfl, hbn⟩
  have B7 := Lib.hid (B4.out.trans (hbn.mono Z4))
  clear hbn
  go_wp2_with fail
  go_ret
  exact ⟨rfl, B7.out⟩
theorem law_any (k n : Int) (b : Nat) (s q : ByteArray) (w : World) (he : Val.Env w) (n0 : -9223372036854775808 ≤ n) (n1 : n ≤ 9223372036854775807) (nb : b < 18446744073709551616) : Calls Tryd.prog 6 #[.agg #[.int .i64 k, .int .i64 n, .int .u64 b, .string s], .string q] w fun e w' => e = .returned (.bool true) ∧ Below w.heap.size w w' := by
  by_cases g1 : (500 : Int) < s.size
  · exact bk_long1 k n b s q w he (decide_eq_true g1)
  · by_cases g2 : (300 : Int) < q.size
    · exact bk_long2 k n b s q w he (decide_eq_false g1) (decide_eq_true g2)
    · have hs : s.size ≤ 500 := by omega
      have hq : q.size ≤ 300 := by omega
      have d1 := decide_eq_false g1
      have d2 := decide_eq_false g2
      have hT : (⟨(Val.showL k n b s).toArray⟩ : ByteArray).data.toList = Val.showL k n b s := rfl
      have hlen : (⟨(Val.showL k n b s).toArray⟩ : ByteArray).size ≤ 35184372088832 := by
        show (Val.showL k n b s).toArray.size ≤ _
        rw [List.size_toArray]
        have := show_len k n b s n0 n1 (by omega)
        omega
      cases hr : Val.rightB k n b s
      · have hp : Rd.parse (⟨(Val.showL k n b s).toArray⟩ : ByteArray).data.toList = none := by
          rw [hT]
          unfold Val.showL
          rw [if_pos hr]; rfl
        cases hp' : Rd.parse q.data.toList with
        | none => exact bk_wn k n b s q w he d1 d2 hs hq n0 n1 nb _ hT hlen hr hp hp'
        | some v =>
          obtain ⟨h1, h2, h3⟩ := Rd.parse_sound hp'
          obtain ⟨⟨m0, m1⟩, mb⟩ := Rd.rd_bd h1
          exact bk_ws k n b s q w he d1 d2 hs hq n0 n1 nb _ hT hlen hr hp v.k v.n v.b ⟨v.s.toArray⟩ hp' h2 h3.symm m0 m1 mb
      · have hv : Rd.right ⟨k, n, b, s.data.toList⟩ = true := by
          show Val.rightB k n b ⟨s.data.toList.toArray⟩ = true
          rw [eta]; exact hr
        have ht : Rd.text ⟨k, n, b, s.data.toList⟩ = Val.showL k n b s := by
          show Val.showL k n b ⟨s.data.toList.toArray⟩ = _
          rw [eta]
        have hp : Rd.parse (⟨(Val.showL k n b s).toArray⟩ : ByteArray).data.toList = some ⟨k, n, b, s.data.toList⟩ := by
          rw [hT, ← ht]
          exact Rd.parse_text hv n0 n1 nb
        cases hp' : Rd.parse q.data.toList with
        | none => exact bk_rn k n b s q w he d1 d2 hs hq n0 n1 nb _ hT hlen hr hp hp'
        | some v =>
          obtain ⟨h1, h2, h3⟩ := Rd.parse_sound hp'
          obtain ⟨⟨m0, m1⟩, mb⟩ := Rd.rd_bd h1
          exact bk_rs k n b s q w he d1 d2 hs hq n0 n1 nb _ hT hlen hr hp v.k v.n v.b ⟨v.s.toArray⟩ hp' h2 h3.symm m0 m1 mb
set_option maxRecDepth 100000 in
theorem contract (H : Type) (enc : TypeId × Value → H) (W : World) (base : Nat) (args : Array Value) (ds gs : List (DataW H)) (before : List MemPlace)
    (hval : ∀ (j : Nat) t v, Tryd.f6.params[j]? = some t → args[j]? = some v → Value.okWide Tryd.prog W .any base t v)
    (hW : DataW.Whole enc Tryd.prog Tryd.f6.params.toList Rows.valueBackSpec.vars false W args.toList ds gs before) (hL : laidMet Tryd.prog Rows.valueBackRow.laid W) :
    Calls Tryd.prog 6 args W fun e W' => ∃ v, e = .returned v ∧ Rows.valueBackSpec.post enc Tryd.prog Tryd.f6 false true false false W args v W' := by
  have hW' := hW
  obtain ⟨p, q, hA0, hV, rfl, hfz, hnd⟩ := hW
  have hA : DataW.TrodAll enc Tryd.prog W 0 (fun _ => true) true Tryd.f6.params.toList args.toList ds p := hA0
  rw [Tryd.params6] at hA hval
  obtain ⟨v0, vs0, d0, ds0, p0, q0, hargs, rfl, rfl, h0, r0⟩ := trodAll_cons hA
  obtain ⟨v1, vs1, d1, ds1, p1, q1, rfl, rfl, rfl, h1, r1⟩ := trodAll_cons r0
  obtain ⟨rfl, rfl, rfl⟩ := trodAll_nil r1
  obtain rfl : args = #[v0, v1] := by cases args; simp_all
  obtain ⟨rfl, rfl⟩ := trodVars_none hV
  obtain ⟨vk, vn, vb, vs, rfl, rfl, rfl, wvk, wvn, wvb, wvs⟩ := Fr.open_val (hval 0 24 v0 rfl rfl) h0
  obtain ⟨q, rfl, rfl, rfl, wq⟩ := ChangeMaps.open_string Tryd.underlying9 (hval 1 9 v1 rfl rfl) h1
  clear hA0
  simp only [List.append_nil] at hW'
  have he := Fr.env_of hL
  have hb := bounds_u64 wvb
  have hn := bounds_i64 wvn
  obtain ⟨vb, rfl⟩ := Int.eq_ofNat_of_zero_le hb.1
  have walk := law_any vk vn vb vs q W he hn.1 hn.2 (by omega)
  clear hb hn
  refine walk.mono fun e W' ⟨he, hg⟩ => ?_
  subst he
  exact ⟨_, rfl, Fr.post_made (pa := []) (pv := []) hW' (fun _ _ _ => trodAll_cons_mk (shut_bool Tryd.underlying4 _) trodAll_mk0) (fun _ _ => (trodAll_cons_mk (Fr.shut_val wvk wvn wvb wvs) (trodAll_cons_mk (ChangeMaps.shut_string Tryd.underlying9 wq) trodAll_mk0))) (fun _ _ => rfl) rfl hg (ok_one (by kernel_rfl) rfl (okWide_bool_mk Tryd.underlying4 _))⟩
theorem reads (os : Os) {H : Type} (enc : TypeId × Value → H) : ∃ places, DataW.whole enc Tryd.prog ((World.doorLaid Tryd.prog 600 os).forCall (fun _ _ => 0) ⟨#[], #[.agg #[.int .i64 0, .int .i64 0, .int .u64 0, .string ⟨#[]⟩], .string ⟨#[]⟩], []⟩).memory Tryd.f6.params.toList Rows.valueBackSpec.vars false (#[.agg #[.int .i64 0, .int .i64 0, .int .u64 0, .string ⟨#[]⟩], .string ⟨#[]⟩] : Array Value).toList 8 = some ([.agg [.lit (.int .i64 0), .lit (.int .i64 0), .lit (.int .u64 0), .lit (.string [])], .lit (.string [])], [], places) :=
  ⟨[], by kernel_rfl⟩
set_option maxRecDepth 100000 in
theorem lifted (os : Os) (started : os.Started) (H : Type) (enc : TypeId × Value → H) (F : Stop.Interp) :
    ReturnsInHanded {} Tryd.checked os 6 .any ((OpenSpec.ofChange Rows.valueBackSpec).preRow enc Tryd.prog Tryd.f6 Rows.valueBackRow.domain false Rows.valueBackRow.laid) (((OpenSpec.ofChange Rows.valueBackSpec).at F).post enc Tryd.prog Tryd.f6 false true false false) := by
  obtain ⟨places, hx⟩ := reads os enc
  refine returnsInHanded_of_row (C := Tryd.checked) (s := OpenSpec.ofChange Rows.valueBackSpec) Fr.own started (by kernel_rfl) Tryd.func6
    (witness_row_atRef (enc := enc) (C := Tryd.checked) false (World.doorLaid Tryd.prog 600 os) #[.agg #[.int .i64 0, .int .i64 0, .int .u64 0, .string ⟨#[]⟩], .string ⟨#[]⟩] rfl (by kernel_rfl) (by kernel_rfl) (by kernel_rfl)
      (OpenSpec.preRow_of_cond 8 hx (by kernel_rfl) (fun k hk => by cases hk) (by kernel_rfl) (Fr.door_met os _))) ?_
  intro W base args ds gs before hval hW _ _ _ hL _ _
  exact contract H enc W base args ds gs before hval hW hL
theorem said : Rows.ValueBackSaid :=
  OpenClaim.holds_of_cond 6 Tryd.f6 rfl rfl rfl rfl rfl rfl rfl ⟨rfl, rfl, rfl, rfl, rfl⟩ rfl rfl rfl rfl rfl (by kernel_rfl) Tryd.func6 (by kernel_rfl)
    (of_decide_eq_true (by kernel_rfl)) (by unfold Func.isWrapper; first | (rw [if_pos (by decide +kernel)]; kernel_rfl) | (rw [if_neg (by decide +kernel)]; exact ⟨rfl, rfl⟩))
    (fun os started H enc _ F => by rw [OpenClaim.pre_eq_preRow]; exact lifted os started H enc F)
theorem plain (f : FuncId) (fn : Func) (hf : Tryd.pinned.checked.prog.funcNamed "memoir/memoirlaw01.ValueBack" = some f) (hfn : Tryd.pinned.checked.prog.funcs[f]? = some fn) :
    true = Tryd.pinned.checked.prog.looks [] ∧ ∀ (j : Nat) t, fn.params[j]? = some t → Tryd.pinned.checked.prog.wantsStandIn t = false := by
  obtain rfl : f = 6 := Option.some.inj ((show Tryd.prog.funcNamed "memoir/memoirlaw01.ValueBack" = some 6 by kernel_rfl).symm.trans hf) |>.symm
  obtain rfl : fn = Tryd.f6 := (Option.some.inj (Tryd.func6.symm.trans hfn)).symm
  refine ⟨by kernel_rfl, fun j t ht => ?_⟩
  rw [Tryd.params6] at ht
  have hm := Array.mem_of_getElem? ht
  simp only [List.mem_toArray, List.mem_cons, List.not_mem_nil, or_false] at hm
  rcases hm with rfl | rfl
  · exact (show Tryd.prog.wantsStandIn 24 = false by kernel_rfl)
  · exact (show Tryd.prog.wantsStandIn 9 = false by kernel_rfl)
theorem card : Rows.ValueBackCardSaid :=
  Claim7.holds_tied_plain_at .later [] _ _ _ _ said (fun _ h => by cases h) (by kernel_rfl) (fun _ h => by cases h) valueBack_row_tie rfl ⟨rfl, rfl⟩ (by kernel_rfl) rfl plain (by kernel_rfl)
end LaValueBack
end Go.Proofs.YtdagblpaiopfiaaDoor
