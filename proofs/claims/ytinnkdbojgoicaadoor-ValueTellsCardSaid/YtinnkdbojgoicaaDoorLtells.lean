/- ValueTells is proved: for every input the law returns true and its arguments read as they did; its listed variables are tied to the program's text. No other condition. -/
import Derived.Test.YtinnkdbojgoicaaDoorFrV
import Derived.Test.YtinnkdbojgoicaaDoorTe
import Derived.Test.YtinnkdbojgoicaaDoorMan
namespace Go.Proofs.YtinnkdbojgoicaaDoor
open Go.ChangeShapes Go.WideShapes Go.ChangeAt Go.RowKit
namespace LaValueTells
theorem eta (s : ByteArray) : (⟨s.data.toList.toArray⟩ : ByteArray) = s := by
  rw [Array.toArray_toList]
theorem show_is (k n : Int) (b : Nat) (s T : ByteArray) (h0 : -9223372036854775808 ≤ n) (h1 : n ≤ 9223372036854775807) (hb : b < 18446744073709551616) (h : T.data.toList = Val.showL k n b s) (w : World) (he : Val.Env w) :
    Calls Tryd.prog 12 #[.agg #[.int .i64 k, .int .i64 n, .int .u64 b, .string s]] w fun e w' => e = .returned (.string T) ∧ Below w.heap.size w w' := by
  refine (Val.show_any k n b s w he h0 h1 hb).mono ?_
  rintro e w' ⟨rfl, hb⟩
  exact ⟨by rw [← h, eta], hb⟩
theorem right_is (k n : Int) (b : Nat) (s : ByteArray) (v : Bool) (h : Val.rightB k n b s = v) (w : World) :
    Calls Tryd.prog 8 #[.agg #[.int .i64 k, .int .i64 n, .int .u64 b, .string s]] w fun e w' => e = .returned (.bool v) ∧ Below w.heap.size w w' := by
  have g := Val.right_any k n b s w
  rw [h] at g; exact g
theorem self_eqV (k n : Int) (b : Nat) (s : ByteArray) : Val.eqV k n b s k n b s = true := (Rd.eqV_iff _ _ _ _ _ _ _ _).2 ⟨rfl, rfl, rfl, rfl⟩
theorem cmp_is (k n : Int) (b : Nat) (s : ByteArray) (k' n' : Int) (b' : Nat) (s' : ByteArray) (cv : Int) (h : Val.cmpV k n b s k' n' b' s' = cv) (w : World) :
    Calls Tryd.prog 9 #[.agg #[.int .i64 k, .int .i64 n, .int .u64 b, .string s], .agg #[.int .i64 k', .int .i64 n', .int .u64 b', .string s']] w fun e w' => e = .returned (.int .i64 cv) ∧ Below w.heap.size w w' := by
  have g := Val.compare_any k n b s k' n' b' s' w
  rw [h] at g; exact g
theorem same_is (k n : Int) (b : Nat) (s : ByteArray) (k' n' : Int) (b' : Nat) (s' : ByteArray) (v : Bool) (h : Val.sameB k n b s k' n' b' s' = v) (w : World) :
    Calls Tryd.prog 11 #[.agg #[.int .i64 k, .int .i64 n, .int .u64 b, .string s], .agg #[.int .i64 k', .int .i64 n', .int .u64 b', .string s']] w fun e w' => e = .returned (.bool v) ∧ Below w.heap.size w w' := by
  have g := Val.same_any k n b s k' n' b' s' w
  rw [h] at g; exact g
theorem truth_is (k n : Int) (b : Nat) (s : ByteArray) (v : Int) (h : Val.truthI k n b s = v) (w : World) :
    Calls Tryd.prog 14 #[.agg #[.int .i64 k, .int .i64 n, .int .u64 b, .string s]] w fun e w' => e = .returned (.int .i64 v) ∧ Below w.heap.size w w' := by
  have g := Val.truth_any k n b s w
  rw [h] at g; exact g
theorem odd_cmp1 {k n : Int} {b : Nat} {s : ByteArray} {k' n' : Int} {b' : Nat} {s' : ByteArray} (h : Val.rightB k n b s = false) : Val.cmpV k n b s k' n' b' s' = 0 := by unfold Val.cmpV; rw [if_pos h]
theorem odd_cmp2 {k n : Int} {b : Nat} {s : ByteArray} {k' n' : Int} {b' : Nat} {s' : ByteArray} (h : Val.rightB k' n' b' s' = false) : Val.cmpV k n b s k' n' b' s' = 0 := by
  unfold Val.cmpV
  by_cases g : Val.rightB k n b s = false
  · rw [if_pos g]
  · rw [if_neg g, if_pos h]
theorem odd_same {k n : Int} {b : Nat} {s : ByteArray} {k' n' : Int} {b' : Nat} {s' : ByteArray} (h : Val.rightB k n b s = false) : Val.sameB k n b s k' n' b' s' = false := by unfold Val.sameB; rw [h, Bool.and_false]
theorem odd_truth {k n : Int} {b : Nat} {s : ByteArray} (h : Val.rightB k n b s = false) : Val.truthI k n b s = -1 := by unfold Val.truthI; rw [if_neg (by simp [h])]
theorem ref_is (k n : Int) (b : Nat) (s : ByteArray) (hb : b < 18446744073709551616) (v : Bool) (h : Val.rightB k n b s = v) (w : World) :
    Calls Tryd.prog 7 #[.agg #[.int .i64 k, .int .i64 n, .int .u64 b, .string s]] w fun e w' => e = .returned (.bool v) ∧ Below w.heap.size w w' := by
  have g := Ref.right_any k n b s hb w
  rw [h] at g; exact g
theorem rcmp_is (k n : Int) (b : Nat) (s : ByteArray) (k' n' : Int) (b' : Nat) (s' : ByteArray) (hb : b < 18446744073709551616) (hb' : b' < 18446744073709551616) (hs : s.size ≤ 35184372088832) (hs' : s'.size ≤ 35184372088832) (cv : Int) (h : Val.cmpV k n b s k' n' b' s' = cv) (w : World) :
    Calls Tryd.prog 10 #[.agg #[.int .i64 k, .int .i64 n, .int .u64 b, .string s], .agg #[.int .i64 k', .int .i64 n', .int .u64 b', .string s']] w fun e w' => e = .returned (.int .i64 cv) ∧ Below w.heap.size w w' := by
  have g := Ref.compare_any k n b s k' n' b' s' hb hb' w hs hs'
  rw [h] at g; exact g
theorem rshow_is (k n : Int) (b : Nat) (s T : ByteArray) (hb : b < 18446744073709551616) (h0 : -9223372036854775808 ≤ n) (h1 : n ≤ 9223372036854775807) (h : T.data.toList = Val.showL k n b s) (w : World) :
    Calls Tryd.prog 13 #[.agg #[.int .i64 k, .int .i64 n, .int .u64 b, .string s]] w fun e w' => e = .returned (.string T) ∧ Below w.heap.size w w' := by
  refine (Ref.show_any k n b s hb h0 h1 w).mono ?_
  rintro e w' ⟨rfl, hb⟩
  exact ⟨by rw [← h], hb⟩
theorem one_step {w w1 w' : World} {b5 b6 : Nat} {k n : Int} {b : Nat} {s : ByteArray} {k2 n2 : Int} {b2 : Nat} {s2 : ByteArray} (h : Val.Env w1 ∧ Below w.heap.size w w1 ∧ w.heap.size ≤ w1.heap.size ∧ w1.cell? ⟨b5, 0, none⟩ = some (.int .i64 k) ∧ w1.cell? ⟨b5, 1, none⟩ = some (.int .i64 n) ∧ w1.cell? ⟨b5, 2, none⟩ = some (.int .u64 b) ∧ w1.cell? ⟨b5, 3, none⟩ = some (.string s) ∧ w1.cell? ⟨b6, 0, none⟩ = some (.int .i64 k2) ∧ w1.cell? ⟨b6, 1, none⟩ = some (.int .i64 n2) ∧ w1.cell? ⟨b6, 2, none⟩ = some (.int .u64 b2) ∧ w1.cell? ⟨b6, 3, none⟩ = some (.string s2)) (hb : Below w1.heap.size w1 w') : Val.Env w' ∧ Below w.heap.size w w' ∧ w.heap.size ≤ w'.heap.size ∧ w'.cell? ⟨b5, 0, none⟩ = some (.int .i64 k) ∧ w'.cell? ⟨b5, 1, none⟩ = some (.int .i64 n) ∧ w'.cell? ⟨b5, 2, none⟩ = some (.int .u64 b) ∧ w'.cell? ⟨b5, 3, none⟩ = some (.string s) ∧ w'.cell? ⟨b6, 0, none⟩ = some (.int .i64 k2) ∧ w'.cell? ⟨b6, 1, none⟩ = some (.int .i64 n2) ∧ w'.cell? ⟨b6, 2, none⟩ = some (.int .u64 b2) ∧ w'.cell? ⟨b6, 3, none⟩ = some (.string s2) := by
  obtain ⟨he, hB, hz, c0, c1, c2, c3, d0, d1, d2, d3⟩ := h
  exact ⟨he.below hb, hB.trans (hb.mono hz), Nat.le_trans hz hb.size, cell_later hb c0, cell_later hb c1, cell_later hb c2, cell_later hb c3, cell_later hb d0, cell_later hb d1, cell_later hb d2, cell_later hb d3⟩
set_option maxHeartbeats 8000000 in
set_option maxRecDepth 100000 in
theorem te_long1 (k : Int) (n : Int) (b : Nat) (s : ByteArray) (k2 n2 : Int) (b2 : Nat) (s2 : ByteArray) (w : World) (he : Val.Env w) (g1 : decide ((5000 : Int) < s.size) = true) : Calls Tryd.prog 3 #[.agg #[.int .i64 k, .int .i64 n, .int .u64 b, .string s], .agg #[.int .i64 k2, .int .i64 n2, .int .u64 b2, .string s2]] w fun e w' => e = .returned (.bool true) ∧ Below w.heap.size w w' := by
  have HE := Lib.hid ((he.below ((Below.refl w.heap.size w).alloc (Nat.le_refl _) (.cells #[.int .i64 k, .int .i64 n, .int .u64 b, .string s] 24))).below ((Below.refl (w.alloc (.cells #[.int .i64 k, .int .i64 n, .int .u64 b, .string s] 24)).heap.size (w.alloc (.cells #[.int .i64 k, .int .i64 n, .int .u64 b, .string s] 24))).alloc (Nat.le_refl _) (.cells #[.int .i64 k2, .int .i64 n2, .int .u64 b2, .string s2] 24)))
  clear he
  go_enter Tryd.func3, Tryd.ntmps3
  go_wp2_with fail
  refine (Rd.known_any _ HE.out).mono ?_
  rintro e w1 ⟨rfl, hb⟩
  go_wp2_with fail
  go_ret
  exact ⟨rfl, (((Below.refl _ _).alloc (Nat.le_refl _) _).alloc (by simp) _).trans (hb.mono (by simp; omega))⟩
set_option maxHeartbeats 8000000 in
set_option maxRecDepth 100000 in
theorem te_long2 (k : Int) (n : Int) (b : Nat) (s : ByteArray) (k2 n2 : Int) (b2 : Nat) (s2 : ByteArray) (w : World) (he : Val.Env w) (g1 : decide ((5000 : Int) < s.size) = false) (g2 : decide ((5000 : Int) < s2.size) = true) : Calls Tryd.prog 3 #[.agg #[.int .i64 k, .int .i64 n, .int .u64 b, .string s], .agg #[.int .i64 k2, .int .i64 n2, .int .u64 b2, .string s2]] w fun e w' => e = .returned (.bool true) ∧ Below w.heap.size w w' := by
  have HE := Lib.hid ((he.below ((Below.refl w.heap.size w).alloc (Nat.le_refl _) (.cells #[.int .i64 k, .int .i64 n, .int .u64 b, .string s] 24))).below ((Below.refl (w.alloc (.cells #[.int .i64 k, .int .i64 n, .int .u64 b, .string s] 24)).heap.size (w.alloc (.cells #[.int .i64 k, .int .i64 n, .int .u64 b, .string s] 24))).alloc (Nat.le_refl _) (.cells #[.int .i64 k2, .int .i64 n2, .int .u64 b2, .string s2] 24)))
  clear he
  go_enter Tryd.func3, Tryd.ntmps3
  go_wp2_with fail
  refine (Rd.known_any _ HE.out).mono ?_
  rintro e w1 ⟨rfl, hb⟩
  go_wp2_with fail
  go_ret
  exact ⟨rfl, (((Below.refl _ _).alloc (Nat.le_refl _) _).alloc (by simp) _).trans (hb.mono (by simp; omega))⟩
set_option maxHeartbeats 8000000 in
set_option maxRecDepth 100000 in
theorem te_w (k : Int) (n : Int) (b : Nat) (s : ByteArray) (k2 n2 : Int) (b2 : Nat) (s2 : ByteArray) (w : World) (he : Val.Env w) (g1 : decide ((5000 : Int) < s.size) = false) (g2 : decide ((5000 : Int) < s2.size) = false) (hb_ : Hid (b < 18446744073709551616)) (hb2_ : Hid (b2 < 18446744073709551616)) (hs_ : Hid (s.size ≤ 35184372088832)) (hs2_ : Hid (s2.size ≤ 35184372088832)) (h0 : Hid (-9223372036854775808 ≤ n)) (h1 : Hid (n ≤ 9223372036854775807)) (T : ByteArray) (hT : Hid (T.data.toList = Val.showL k n b s)) (cv : Int) (hcv : Hid (Val.cmpV k n b s k2 n2 b2 s2 = cv)) (ra : Hid (Val.rightB k n b s = false)) (hsm : Hid (Val.sameB k n b s k2 n2 b2 s2 = false)) (htr : Hid (Val.truthI k n b s = (-1))) : Calls Tryd.prog 3 #[.agg #[.int .i64 k, .int .i64 n, .int .u64 b, .string s], .agg #[.int .i64 k2, .int .i64 n2, .int .u64 b2, .string s2]] w fun e w' => e = .returned (.bool true) ∧ Below w.heap.size w w' := by
  have HE0 := Lib.hid ((he.below ((Below.refl w.heap.size w).alloc (Nat.le_refl _) (.cells #[.int .i64 k, .int .i64 n, .int .u64 b, .string s] 24))).below ((Below.refl (w.alloc (.cells #[.int .i64 k, .int .i64 n, .int .u64 b, .string s] 24)).heap.size (w.alloc (.cells #[.int .i64 k, .int .i64 n, .int .u64 b, .string s] 24))).alloc (Nat.le_refl _) (.cells #[.int .i64 k2, .int .i64 n2, .int .u64 b2, .string s2] 24)))
  have T20 := Lib.hid ((Rd.Box.new w k n b s).old (.cells #[.int .i64 k2, .int .i64 n2, .int .u64 b2, .string s2] 24))
  have T30 := Lib.hid (show Rd.Box ((w.alloc (.cells #[.int .i64 k, .int .i64 n, .int .u64 b, .string s] 24)).alloc (.cells #[.int .i64 k2, .int .i64 n2, .int .u64 b2, .string s2] 24)) (w.heap.size + 1) k2 n2 b2 s2 from by have h := Rd.Box.new (w.alloc (.cells #[.int .i64 k, .int .i64 n, .int .u64 b, .string s] 24)) k2 n2 b2 s2; rwa [show (w.alloc (.cells #[.int .i64 k, .int .i64 n, .int .u64 b, .string s] 24)).heap.size = w.heap.size + 1 from by simp] at h)
  have B0 := Lib.hid (((Below.refl w.heap.size w).alloc (Nat.le_refl _) (.cells #[.int .i64 k, .int .i64 n, .int .u64 b, .string s] 24)).alloc (by simp) (.cells #[.int .i64 k2, .int .i64 n2, .int .u64 b2, .string s2] 24))
  have Z0 : w.heap.size ≤ ((w.alloc (.cells #[.int .i64 k, .int .i64 n, .int .u64 b, .string s] 24)).alloc (.cells #[.int .i64 k2, .int .i64 n2, .int .u64 b2, .string s2] 24)).heap.size := by simp; omega
  clear he
  have gs : (T.toList == T.toList) = true := by simp
  go_enter Tryd.func3, Tryd.ntmps3
  go_wp2_with fail
  refine (ref_is k n b s hb_.out _ ra.out _).mono ?_
  rintro e w1 ⟨rfl, hbn⟩
  have HE1 := Lib.hid (HE0.out.below hbn)
  have T21 := Lib.hid (T20.out.below hbn)
  have T31 := Lib.hid (T30.out.below hbn)
  have B1 := Lib.hid (B0.out.trans (hbn.mono Z0))
  have Z1 : w.heap.size ≤ w1.heap.size := Nat.le_trans Z0 hbn.size
  clear hbn HE0 B0 Z0 T20 T30
  have q0 := T21.out.c0
  have q1 := T21.out.c1
  have q2 := T21.out.c2
  have q3 := T21.out.c3
  go_wp2_with fail
  have SS : (fun w' => Val.Env w' ∧ Below w.heap.size w w' ∧ w.heap.size ≤ w'.heap.size ∧ w'.cell? ⟨w.heap.size, 0, none⟩ = some (.int .i64 k) ∧ w'.cell? ⟨w.heap.size, 1, none⟩ = some (.int .i64 n) ∧ w'.cell? ⟨w.heap.size, 2, none⟩ = some (.int .u64 b) ∧ w'.cell? ⟨w.heap.size, 3, none⟩ = some (.string s) ∧ w'.cell? ⟨(w.heap.size + 1), 0, none⟩ = some (.int .i64 k2) ∧ w'.cell? ⟨(w.heap.size + 1), 1, none⟩ = some (.int .i64 n2) ∧ w'.cell? ⟨(w.heap.size + 1), 2, none⟩ = some (.int .u64 b2) ∧ w'.cell? ⟨(w.heap.size + 1), 3, none⟩ = some (.string s2)) w1 := ⟨HE1.out, B1.out, Z1, T21.out.c0, T21.out.c1, T21.out.c2, T21.out.c3, T31.out.c0, T31.out.c1, T31.out.c2, T31.out.c3⟩
  clear q0 q1 q2 q3 HE1 B1 Z1 T21 T31
  have SD : (fun w' => Val.Env w' ∧ Below w.heap.size w w' ∧ w.heap.size ≤ w'.heap.size ∧ w'.cell? ⟨w.heap.size, 0, none⟩ = some (.int .i64 k) ∧ w'.cell? ⟨w.heap.size, 1, none⟩ = some (.int .i64 n) ∧ w'.cell? ⟨w.heap.size, 2, none⟩ = some (.int .u64 b) ∧ w'.cell? ⟨w.heap.size, 3, none⟩ = some (.string s) ∧ w'.cell? ⟨(w.heap.size + 1), 0, none⟩ = some (.int .i64 k2) ∧ w'.cell? ⟨(w.heap.size + 1), 1, none⟩ = some (.int .i64 n2) ∧ w'.cell? ⟨(w.heap.size + 1), 2, none⟩ = some (.int .u64 b2) ∧ w'.cell? ⟨(w.heap.size + 1), 3, none⟩ = some (.string s2)) w1.drew := ⟨SS.1.below (Below.refl _ w1).drew, SS.2.1.drew, SS.2.2⟩
  refine wp_region_held_drew (S := fun w' => Val.Env w' ∧ Below w.heap.size w w' ∧ w.heap.size ≤ w'.heap.size ∧ w'.cell? ⟨w.heap.size, 0, none⟩ = some (.int .i64 k) ∧ w'.cell? ⟨w.heap.size, 1, none⟩ = some (.int .i64 n) ∧ w'.cell? ⟨w.heap.size, 2, none⟩ = some (.int .u64 b) ∧ w'.cell? ⟨w.heap.size, 3, none⟩ = some (.string s) ∧ w'.cell? ⟨(w.heap.size + 1), 0, none⟩ = some (.int .i64 k2) ∧ w'.cell? ⟨(w.heap.size + 1), 1, none⟩ = some (.int .i64 n2) ∧ w'.cell? ⟨(w.heap.size + 1), 2, none⟩ = some (.int .u64 b2) ∧ w'.cell? ⟨(w.heap.size + 1), 3, none⟩ = some (.string s2)) (by kernel_rfl) ?_ (fun hHeld => ?_)
  · exact SD
  refine Man.take1 (i := 0) (v := ?_) rfl (by kernel_rfl) (by kernel_rfl) (by kernel_rfl) (fun _ _ _ h => h) (by rfl) ?_ (by assumption) ?_
  rotate_left
  · (intro u hSu; (try dsimp only at hSu); go_simp; (try with_reducible rfl))
  (try simp only [Act.put, List.setIfInBounds_toArray, List.set_cons_zero, List.set_cons_succ])
  refine Man.take1 (i := 2) (v := ?_) rfl (by kernel_rfl) (by kernel_rfl) (by kernel_rfl) (fun _ _ _ h => h) (by rfl) ?_ (by assumption) ?_
  rotate_left
  · (intro u hSu; (try dsimp only at hSu); go_simp; (try with_reducible rfl))
  (try simp only [Act.put, List.setIfInBounds_toArray, List.set_cons_zero, List.set_cons_succ])
  refine Man.one (i := 1) rfl (by kernel_rfl) (fun K hK => ?_)
  go_simp
  (go_at_call 8; (with_reducible refine (right_is k n b s _ ra.out _).mono ?_); rintro e w' ⟨rfl, hb⟩)
  refine hK.out _ _ ?_ (fun hNew => ?_)
  · exact one_step hHeld hb
  clear hHeld hK K hb
  have hHeld := hNew
  clear hNew
  (try simp only [Act.put, List.setIfInBounds_toArray, List.set_cons_zero, List.set_cons_succ])
  refine Man.one (i := 3) rfl (by kernel_rfl) (fun K hK => ?_)
  go_simp
  (go_at_call 7; (with_reducible refine (ref_is k n b s hb_.out _ ra.out _).mono ?_); rintro e w' ⟨rfl, hb⟩)
  refine hK.out _ _ ?_ (fun hNew => ?_)
  · exact one_step hHeld hb
  clear hHeld hK K hb
  have hHeld := hNew
  clear hNew
  (try simp only [Act.put, List.setIfInBounds_toArray, List.set_cons_zero, List.set_cons_succ])
  refine Man.take1 (i := 4) (v := ?_) rfl (by kernel_rfl) (by kernel_rfl) (by kernel_rfl) (fun _ _ _ h => h) (by rfl) ?_ (by assumption) ?_
  rotate_left
  · (intro u hSu; (try dsimp only at hSu); go_simp; (try with_reducible rfl))
  (try simp only [Act.put, List.setIfInBounds_toArray, List.set_cons_zero, List.set_cons_succ])
  refine Man.take1 (i := 5) (v := ?_) rfl (by kernel_rfl) (by kernel_rfl) (by kernel_rfl) (fun _ _ _ h => h) (by rfl) ?_ (by assumption) ?_
  rotate_left
  · (intro u hSu; (try dsimp only at hSu); go_simp; (try with_reducible rfl))
  (try simp only [Act.put, List.setIfInBounds_toArray, List.set_cons_zero, List.set_cons_succ])
  refine Man.take1 (i := 6) (v := ?_) rfl (by kernel_rfl) (by kernel_rfl) (by kernel_rfl) (fun _ _ _ h => h) (by rfl) ?_ (by assumption) ?_
  rotate_left
  · (intro u hSu; (try dsimp only at hSu); go_simp; (try with_reducible rfl))
  (try simp only [Act.put, List.setIfInBounds_toArray, List.set_cons_zero, List.set_cons_succ])
  refine Man.take1 (i := 7) (v := ?_) rfl (by kernel_rfl) (by kernel_rfl) (by kernel_rfl) (fun _ _ _ h => h) (by rfl) ?_ (by assumption) ?_
  rotate_left
  · (intro u hSu; (try dsimp only at hSu); go_simp; (try with_reducible rfl))
  (try simp only [Act.put, List.setIfInBounds_toArray, List.set_cons_zero, List.set_cons_succ])
  refine Man.take1 (i := 9) (v := ?_) rfl (by kernel_rfl) (by kernel_rfl) (by kernel_rfl) (fun _ _ _ h => h) (by rfl) ?_ (by assumption) ?_
  rotate_left
  · (intro u hSu; (try dsimp only at hSu); go_simp; (try with_reducible rfl))
  (try simp only [Act.put, List.setIfInBounds_toArray, List.set_cons_zero, List.set_cons_succ])
  refine Man.take1 (i := 10) (v := ?_) rfl (by kernel_rfl) (by kernel_rfl) (by kernel_rfl) (fun _ _ _ h => h) (by rfl) ?_ (by assumption) ?_
  rotate_left
  · (intro u hSu; (try dsimp only at hSu); go_simp; (try with_reducible rfl))
  (try simp only [Act.put, List.setIfInBounds_toArray, List.set_cons_zero, List.set_cons_succ])
  refine Man.one (i := 8) rfl (by kernel_rfl) (fun K hK => ?_)
  go_simp
  (go_at_call 9; (with_reducible refine (cmp_is k n b s k2 n2 b2 s2 cv hcv.out _).mono ?_); rintro e w' ⟨rfl, hb⟩)
  refine hK.out _ _ ?_ (fun hNew => ?_)
  · exact one_step hHeld hb
  clear hHeld hK K hb
  have hHeld := hNew
  clear hNew
  (try simp only [Act.put, List.setIfInBounds_toArray, List.set_cons_zero, List.set_cons_succ])
  refine Man.one (i := 11) rfl (by kernel_rfl) (fun K hK => ?_)
  go_simp
  (go_at_call 10; (with_reducible refine (rcmp_is k n b s k2 n2 b2 s2 hb_.out hb2_.out hs_.out hs2_.out cv hcv.out _).mono ?_); rintro e w' ⟨rfl, hb⟩)
  refine hK.out _ _ ?_ (fun hNew => ?_)
  · exact one_step hHeld hb
  clear hHeld hK K hb
  have hHeld := hNew
  clear hNew
  (try simp only [Act.put, List.setIfInBounds_toArray, List.set_cons_zero, List.set_cons_succ])
  refine Man.take1 (i := 12) (v := ?_) rfl (by kernel_rfl) (by kernel_rfl) (by kernel_rfl) (fun _ _ _ h => h) (by rfl) ?_ (by assumption) ?_
  rotate_left
  · (intro u hSu; (try dsimp only at hSu); go_simp; (try with_reducible rfl))
  (try simp only [Act.put, List.setIfInBounds_toArray, List.set_cons_zero, List.set_cons_succ])
  refine Man.take1 (i := 13) (v := ?_) rfl (by kernel_rfl) (by kernel_rfl) (by kernel_rfl) (fun _ _ _ h => h) (by rfl) ?_ (by assumption) ?_
  rotate_left
  · (intro u hSu; (try dsimp only at hSu); go_simp; (try with_reducible rfl))
  (try simp only [Act.put, List.setIfInBounds_toArray, List.set_cons_zero, List.set_cons_succ])
  refine Man.take1 (i := 14) (v := ?_) rfl (by kernel_rfl) (by kernel_rfl) (by kernel_rfl) (fun _ _ _ h => h) (by rfl) ?_ (by assumption) ?_
  rotate_left
  · (intro u hSu; (try dsimp only at hSu); go_simp; (try with_reducible rfl))
  (try simp only [Act.put, List.setIfInBounds_toArray, List.set_cons_zero, List.set_cons_succ])
  refine Man.take1 (i := 15) (v := ?_) rfl (by kernel_rfl) (by kernel_rfl) (by kernel_rfl) (fun _ _ _ h => h) (by rfl) ?_ (by assumption) ?_
  rotate_left
  · (intro u hSu; (try dsimp only at hSu); go_simp; (try with_reducible rfl))
  (try simp only [Act.put, List.setIfInBounds_toArray, List.set_cons_zero, List.set_cons_succ])
  refine Man.take1 (i := 16) (v := ?_) rfl (by kernel_rfl) (by kernel_rfl) (by kernel_rfl) (fun _ _ _ h => h) (by rfl) ?_ (by assumption) ?_
  rotate_left
  · (intro u hSu; (try dsimp only at hSu); go_simp; (try with_reducible rfl))
  (try simp only [Act.put, List.setIfInBounds_toArray, List.set_cons_zero, List.set_cons_succ])
  refine Man.take1 (i := 18) (v := ?_) rfl (by kernel_rfl) (by kernel_rfl) (by kernel_rfl) (fun _ _ _ h => h) (by rfl) ?_ (by assumption) ?_
  rotate_left
  · (intro u hSu; (try dsimp only at hSu); go_simp; (try with_reducible rfl))
  (try simp only [Act.put, List.setIfInBounds_toArray, List.set_cons_zero, List.set_cons_succ])
  refine Man.one (i := 17) rfl (by kernel_rfl) (fun K hK => ?_)
  go_simp
  (go_at_call 11; (with_reducible refine (same_is k n b s k2 n2 b2 s2 _ hsm.out _).mono ?_); rintro e w' ⟨rfl, hb⟩)
  refine hK.out _ _ ?_ (fun hNew => ?_)
  · exact one_step hHeld hb
  clear hHeld hK K hb
  have hHeld := hNew
  clear hNew
  (try simp only [Act.put, List.setIfInBounds_toArray, List.set_cons_zero, List.set_cons_succ])
  refine Man.one (i := 19) rfl (by kernel_rfl) (fun K hK => ?_)
  go_simp
  (go_at_call 7; (with_reducible refine (ref_is k n b s hb_.out _ ra.out _).mono ?_); rintro e w' ⟨rfl, hb⟩)
  refine hK.out _ _ ?_ (fun hNew => ?_)
  · exact one_step hHeld hb
  clear hHeld hK K hb
  have hHeld := hNew
  clear hNew
  (try simp only [Act.put, List.setIfInBounds_toArray, List.set_cons_zero, List.set_cons_succ])
  refine Man.take1 (i := 20) (v := ?_) rfl (by kernel_rfl) (by kernel_rfl) (by kernel_rfl) (fun _ _ _ h => h) (by rfl) ?_ (by assumption) ?_
  rotate_left
  · (intro u hSu; (try dsimp only at hSu); go_simp; (try with_reducible rfl))
  (try simp only [Act.put, List.setIfInBounds_toArray, List.set_cons_zero, List.set_cons_succ])
  refine Man.take0 (i := 21) rfl (by kernel_rfl) (by kernel_rfl) (by kernel_rfl) (fun _ _ _ h => h) (by rfl) (by assumption) ?_
  (try simp only [Act.put, List.setIfInBounds_toArray, List.set_cons_zero, List.set_cons_succ])
  refine Man.take0 (i := 22) rfl (by kernel_rfl) (by kernel_rfl) (by kernel_rfl) (fun _ _ _ h => h) (by rfl) (by assumption) ?_
  (try simp only [Act.put, List.setIfInBounds_toArray, List.set_cons_zero, List.set_cons_succ])
  refine Man.take1 (i := 23) (v := ?_) rfl (by kernel_rfl) (by kernel_rfl) (by kernel_rfl) (fun _ _ _ h => h) (by rfl) ?_ (by assumption) ?_
  rotate_left
  · (intro u hSu; (try dsimp only at hSu); go_simp; (try with_reducible rfl))
  (try simp only [Act.put, List.setIfInBounds_toArray, List.set_cons_zero, List.set_cons_succ])
  refine Man.take1 (i := 24) (v := ?_) rfl (by kernel_rfl) (by kernel_rfl) (by kernel_rfl) (fun _ _ _ h => h) (by rfl) ?_ (by assumption) ?_
  rotate_left
  · (intro u hSu; (try dsimp only at hSu); go_simp; (try with_reducible rfl))
  (try simp only [Act.put, List.setIfInBounds_toArray, List.set_cons_zero, List.set_cons_succ])
  refine Man.take0 (i := 25) rfl (by kernel_rfl) (by kernel_rfl) (by kernel_rfl) (fun _ _ _ h => h) (by rfl) (by assumption) ?_
  (try simp only [Act.put, List.setIfInBounds_toArray, List.set_cons_zero, List.set_cons_succ])
  refine Man.take0 (i := 26) rfl (by kernel_rfl) (by kernel_rfl) (by kernel_rfl) (fun _ _ _ h => h) (by rfl) (by assumption) ?_
  (try simp only [Act.put, List.setIfInBounds_toArray, List.set_cons_zero, List.set_cons_succ])
  refine Man.take0 (i := 27) rfl (by kernel_rfl) (by kernel_rfl) (by kernel_rfl) (fun _ _ _ h => h) (by rfl) (by assumption) ?_
  (try simp only [Act.put, List.setIfInBounds_toArray, List.set_cons_zero, List.set_cons_succ])
  refine Man.take1 (i := 28) (v := ?_) rfl (by kernel_rfl) (by kernel_rfl) (by kernel_rfl) (fun _ _ _ h => h) (by rfl) ?_ (by assumption) ?_
  rotate_left
  · (intro u hSu; (try dsimp only at hSu); go_simp; (try with_reducible rfl))
  (try simp only [Act.put, List.setIfInBounds_toArray, List.set_cons_zero, List.set_cons_succ])
  refine Man.take1 (i := 29) (v := ?_) rfl (by kernel_rfl) (by kernel_rfl) (by kernel_rfl) (fun _ _ _ h => h) (by rfl) ?_ (by assumption) ?_
  rotate_left
  · (intro u hSu; (try dsimp only at hSu); go_simp; (try with_reducible rfl))
  (try simp only [Act.put, List.setIfInBounds_toArray, List.set_cons_zero, List.set_cons_succ])
  refine Man.take1 (i := 30) (v := ?_) rfl (by kernel_rfl) (by kernel_rfl) (by kernel_rfl) (fun _ _ _ h => h) (by rfl) ?_ (by assumption) ?_
  rotate_left
  · (intro u hSu; (try dsimp only at hSu); go_simp; (try with_reducible rfl))
  (try simp only [Act.put, List.setIfInBounds_toArray, List.set_cons_zero, List.set_cons_succ])
  refine Man.take1 (i := 31) (v := ?_) rfl (by kernel_rfl) (by kernel_rfl) (by kernel_rfl) (fun _ _ _ h => h) (by rfl) ?_ (by assumption) ?_
  rotate_left
  · (intro u hSu; (try dsimp only at hSu); go_simp; (try with_reducible rfl))
  (try simp only [Act.put, List.setIfInBounds_toArray, List.set_cons_zero, List.set_cons_succ])
  refine Man.take1 (i := 32) (v := ?_) rfl (by kernel_rfl) (by kernel_rfl) (by kernel_rfl) (fun _ _ _ h => h) (by rfl) ?_ (by assumption) ?_
  rotate_left
  · (intro u hSu; (try dsimp only at hSu); go_simp; (try with_reducible rfl))
  (try simp only [Act.put, List.setIfInBounds_toArray, List.set_cons_zero, List.set_cons_succ])
  refine Man.take1 (i := 34) (v := ?_) rfl (by kernel_rfl) (by kernel_rfl) (by kernel_rfl) (fun _ _ _ h => h) (by rfl) ?_ (by assumption) ?_
  rotate_left
  · (intro u hSu; (try dsimp only at hSu); go_simp; (try with_reducible rfl))
  (try simp only [Act.put, List.setIfInBounds_toArray, List.set_cons_zero, List.set_cons_succ])
  refine Man.one (i := 33) rfl (by kernel_rfl) (fun K hK => ?_)
  go_simp
  (go_at_call 12; (with_reducible refine (show_is k n b s T h0.out h1.out hb_.out hT.out _ (And.left hHeld)).mono ?_); rintro e w' ⟨rfl, hb⟩)
  refine hK.out _ _ ?_ (fun hNew => ?_)
  · exact one_step hHeld hb
  clear hHeld hK K hb
  have hHeld := hNew
  clear hNew
  (try simp only [Act.put, List.setIfInBounds_toArray, List.set_cons_zero, List.set_cons_succ])
  refine Man.one (i := 35) rfl (by kernel_rfl) (fun K hK => ?_)
  go_simp
  (go_at_call 13; (with_reducible refine (rshow_is k n b s T hb_.out h0.out h1.out hT.out _).mono ?_); rintro e w' ⟨rfl, hb⟩)
  refine hK.out _ _ ?_ (fun hNew => ?_)
  · exact one_step hHeld hb
  clear hHeld hK K hb
  have hHeld := hNew
  clear hNew
  (try simp only [Act.put, List.setIfInBounds_toArray, List.set_cons_zero, List.set_cons_succ])
  refine Man.take1 (i := 36) (v := ?_) rfl (by kernel_rfl) (by kernel_rfl) (by kernel_rfl) (fun _ _ _ h => h) (by rfl) ?_ (by assumption) ?_
  rotate_left
  · (intro u hSu; (try dsimp only at hSu); go_simp; (try with_reducible rfl))
  (try simp only [Act.put, List.setIfInBounds_toArray, List.set_cons_zero, List.set_cons_succ])
  refine Man.take1 (i := 37) (v := ?_) rfl (by kernel_rfl) (by kernel_rfl) (by kernel_rfl) (fun _ _ _ h => h) (by rfl) ?_ (by assumption) ?_
  rotate_left
  · (intro u hSu; (try dsimp only at hSu); go_simp; (try with_reducible rfl))
  (try simp only [Act.put, List.setIfInBounds_toArray, List.set_cons_zero, List.set_cons_succ])
  refine Man.take1 (i := 38) (v := ?_) rfl (by kernel_rfl) (by kernel_rfl) (by kernel_rfl) (fun _ _ _ h => h) (by rfl) ?_ (by assumption) ?_
  rotate_left
  · (intro u hSu; (try dsimp only at hSu); go_simp; (try with_reducible rfl))
  (try simp only [Act.put, List.setIfInBounds_toArray, List.set_cons_zero, List.set_cons_succ])
  refine Man.take1 (i := 39) (v := ?_) rfl (by kernel_rfl) (by kernel_rfl) (by kernel_rfl) (fun _ _ _ h => h) (by rfl) ?_ (by assumption) ?_
  rotate_left
  · (intro u hSu; (try dsimp only at hSu); go_simp; (try with_reducible rfl))
  (try simp only [Act.put, List.setIfInBounds_toArray, List.set_cons_zero, List.set_cons_succ])
  refine Man.take1 (i := 41) (v := ?_) rfl (by kernel_rfl) (by kernel_rfl) (by kernel_rfl) (fun _ _ _ h => h) (by rfl) ?_ (by assumption) ?_
  rotate_left
  · (intro u hSu; (try dsimp only at hSu); go_simp; (try with_reducible rfl))
  (try simp only [Act.put, List.setIfInBounds_toArray, List.set_cons_zero, List.set_cons_succ])
  refine Man.one (i := 40) rfl (by kernel_rfl) (fun K hK => ?_)
  go_simp
  (go_at_call 14; (with_reducible refine (truth_is k n b s _ htr.out _).mono ?_); rintro e w' ⟨rfl, hb⟩)
  refine hK.out _ _ ?_ (fun hNew => ?_)
  · exact one_step hHeld hb
  clear hHeld hK K hb
  have hHeld := hNew
  clear hNew
  (try simp only [Act.put, List.setIfInBounds_toArray, List.set_cons_zero, List.set_cons_succ])
  refine Man.take1 (i := 42) (v := ?_) rfl (by kernel_rfl) (by kernel_rfl) (by kernel_rfl) (fun _ _ _ h => h) (by rfl) ?_ (by assumption) ?_
  rotate_left
  · (intro u hSu; (try dsimp only at hSu); go_simp; (try with_reducible rfl))
  (try simp only [Act.put, List.setIfInBounds_toArray, List.set_cons_zero, List.set_cons_succ])
  refine Man.take1 (i := 43) (v := ?_) rfl (by kernel_rfl) (by kernel_rfl) (by kernel_rfl) (fun _ _ _ h => h) (by rfl) ?_ (by assumption) ?_
  rotate_left
  · (intro u hSu; (try dsimp only at hSu); go_simp; (try with_reducible rfl))
  (try simp only [Act.put, List.setIfInBounds_toArray, List.set_cons_zero, List.set_cons_succ])
  refine Man.take1 (i := 44) (v := ?_) rfl (by kernel_rfl) (by kernel_rfl) (by kernel_rfl) (fun _ _ _ h => h) (by rfl) ?_ (by assumption) ?_
  rotate_left
  · (intro u hSu; (try dsimp only at hSu); go_simp; (try with_reducible rfl))
  (try simp only [Act.put, List.setIfInBounds_toArray, List.set_cons_zero, List.set_cons_succ])
  refine Man.one (i := 45) rfl (by kernel_rfl) (fun K hK => ?_)
  go_simp
  (go_at_call 6; (with_reducible refine (Rd.known_any _ (And.left hHeld)).mono ?_); rintro e w' ⟨rfl, hb⟩)
  refine hK.out _ _ ?_ (fun hNew => ?_)
  · exact one_step hHeld hb
  clear hHeld hK K hb
  have hHeld := hNew
  clear hNew
  (try simp only [Act.put, List.setIfInBounds_toArray, List.set_cons_zero, List.set_cons_succ])
  refine Man.take1 (i := 46) (v := ?_) rfl (by kernel_rfl) (by kernel_rfl) (by kernel_rfl) (fun _ _ _ h => h) (by rfl) ?_ (by assumption) ?_
  rotate_left
  · (intro u hSu; (try dsimp only at hSu); go_simp; (try with_reducible rfl))
  (try simp only [Act.put, List.setIfInBounds_toArray, List.set_cons_zero, List.set_cons_succ])
  refine Man.take1 (i := 47) (v := ?_) rfl (by kernel_rfl) (by kernel_rfl) (by kernel_rfl) (fun _ _ _ h => h) (by rfl) ?_ (by assumption) ?_
  rotate_left
  · (intro u hSu; (try dsimp only at hSu); go_simp; (try with_reducible rfl))
  (try simp only [Act.put, List.setIfInBounds_toArray, List.set_cons_zero, List.set_cons_succ])
  refine wpAnyH_done (by kernel_rfl) ?_ _
  obtain ⟨hqe, hqb, hqz, a0, a1, a2, a3, c0, c1, c2, c3⟩ := hHeld
  have QB := Lib.hid hqb
  clear hqe hqb SS SD
  go_wp2_with fail
  go_ret
  exact ⟨rfl, QB.out⟩
set_option maxHeartbeats 8000000 in
set_option maxRecDepth 100000 in
theorem te_o1 (n : Int) (b : Nat) (s : ByteArray) (k2 n2 : Int) (b2 : Nat) (s2 : ByteArray) (w : World) (he : Val.Env w) (g1 : decide ((5000 : Int) < s.size) = false) (g2 : decide ((5000 : Int) < s2.size) = false) (hb_ : Hid (b < 18446744073709551616)) (hb2_ : Hid (b2 < 18446744073709551616)) (hs_ : Hid (s.size ≤ 35184372088832)) (hs2_ : Hid (s2.size ≤ 35184372088832)) (h0 : Hid (-9223372036854775808 ≤ n)) (h1 : Hid (n ≤ 9223372036854775807)) (T : ByteArray) (hT : Hid (T.data.toList = Val.showL 1 n b s)) (cv : Int) (hcv : Hid (Val.cmpV 1 n b s k2 n2 b2 s2 = cv)) (ra : Hid (Val.rightB 1 n b s = true)) (rb : Hid (Val.rightB k2 n2 b2 s2 = false)) (hsm : Hid (Val.sameB 1 n b s k2 n2 b2 s2 = false)) (htr : Hid (Val.truthI 1 n b s = n)) : Calls Tryd.prog 3 #[.agg #[.int .i64 1, .int .i64 n, .int .u64 b, .string s], .agg #[.int .i64 k2, .int .i64 n2, .int .u64 b2, .string s2]] w fun e w' => e = .returned (.bool true) ∧ Below w.heap.size w w' := by
  have HE0 := Lib.hid ((he.below ((Below.refl w.heap.size w).alloc (Nat.le_refl _) (.cells #[.int .i64 1, .int .i64 n, .int .u64 b, .string s] 24))).below ((Below.refl (w.alloc (.cells #[.int .i64 1, .int .i64 n, .int .u64 b, .string s] 24)).heap.size (w.alloc (.cells #[.int .i64 1, .int .i64 n, .int .u64 b, .string s] 24))).alloc (Nat.le_refl _) (.cells #[.int .i64 k2, .int .i64 n2, .int .u64 b2, .string s2] 24)))
  have T20 := Lib.hid ((Rd.Box.new w 1 n b s).old (.cells #[.int .i64 k2, .int .i64 n2, .int .u64 b2, .string s2] 24))
  have T30 := Lib.hid (show Rd.Box ((w.alloc (.cells #[.int .i64 1, .int .i64 n, .int .u64 b, .string s] 24)).alloc (.cells #[.int .i64 k2, .int .i64 n2, .int .u64 b2, .string s2] 24)) (w.heap.size + 1) k2 n2 b2 s2 from by have h := Rd.Box.new (w.alloc (.cells #[.int .i64 1, .int .i64 n, .int .u64 b, .string s] 24)) k2 n2 b2 s2; rwa [show (w.alloc (.cells #[.int .i64 1, .int .i64 n, .int .u64 b, .string s] 24)).heap.size = w.heap.size + 1 from by simp] at h)
  have B0 := Lib.hid (((Below.refl w.heap.size w).alloc (Nat.le_refl _) (.cells #[.int .i64 1, .int .i64 n, .int .u64 b, .string s] 24)).alloc (by simp) (.cells #[.int .i64 k2, .int .i64 n2, .int .u64 b2, .string s2] 24))
  have Z0 : w.heap.size ≤ ((w.alloc (.cells #[.int .i64 1, .int .i64 n, .int .u64 b, .string s] 24)).alloc (.cells #[.int .i64 k2, .int .i64 n2, .int .u64 b2, .string s2] 24)).heap.size := by simp; omega
  clear he
  have gs : (T.toList == T.toList) = true := by simp
  go_enter Tryd.func3, Tryd.ntmps3
  go_wp2_with fail
  refine (ref_is 1 n b s hb_.out _ ra.out _).mono ?_
  rintro e w1 ⟨rfl, hbn⟩
  have HE1 := Lib.hid (HE0.out.below hbn)
  have T21 := Lib.hid (T20.out.below hbn)
  have T31 := Lib.hid (T30.out.below hbn)
  have B1 := Lib.hid (B0.out.trans (hbn.mono Z0))
  have Z1 : w.heap.size ≤ w1.heap.size := Nat.le_trans Z0 hbn.size
  clear hbn HE0 B0 Z0 T20 T30
  have q0 := T21.out.c0
  have q1 := T21.out.c1
  have q2 := T21.out.c2
  have q3 := T21.out.c3
  go_wp2_with fail
  have SS : (fun w' => Val.Env w' ∧ Below w.heap.size w w' ∧ w.heap.size ≤ w'.heap.size ∧ w'.cell? ⟨w.heap.size, 0, none⟩ = some (.int .i64 1) ∧ w'.cell? ⟨w.heap.size, 1, none⟩ = some (.int .i64 n) ∧ w'.cell? ⟨w.heap.size, 2, none⟩ = some (.int .u64 b) ∧ w'.cell? ⟨w.heap.size, 3, none⟩ = some (.string s) ∧ w'.cell? ⟨(w.heap.size + 1), 0, none⟩ = some (.int .i64 k2) ∧ w'.cell? ⟨(w.heap.size + 1), 1, none⟩ = some (.int .i64 n2) ∧ w'.cell? ⟨(w.heap.size + 1), 2, none⟩ = some (.int .u64 b2) ∧ w'.cell? ⟨(w.heap.size + 1), 3, none⟩ = some (.string s2)) w1 := ⟨HE1.out, B1.out, Z1, T21.out.c0, T21.out.c1, T21.out.c2, T21.out.c3, T31.out.c0, T31.out.c1, T31.out.c2, T31.out.c3⟩
  clear q0 q1 q2 q3 HE1 B1 Z1 T21 T31
  have SD : (fun w' => Val.Env w' ∧ Below w.heap.size w w' ∧ w.heap.size ≤ w'.heap.size ∧ w'.cell? ⟨w.heap.size, 0, none⟩ = some (.int .i64 1) ∧ w'.cell? ⟨w.heap.size, 1, none⟩ = some (.int .i64 n) ∧ w'.cell? ⟨w.heap.size, 2, none⟩ = some (.int .u64 b) ∧ w'.cell? ⟨w.heap.size, 3, none⟩ = some (.string s) ∧ w'.cell? ⟨(w.heap.size + 1), 0, none⟩ = some (.int .i64 k2) ∧ w'.cell? ⟨(w.heap.size + 1), 1, none⟩ = some (.int .i64 n2) ∧ w'.cell? ⟨(w.heap.size + 1), 2, none⟩ = some (.int .u64 b2) ∧ w'.cell? ⟨(w.heap.size + 1), 3, none⟩ = some (.string s2)) w1.drew := ⟨SS.1.below (Below.refl _ w1).drew, SS.2.1.drew, SS.2.2⟩
  refine wp_region_held_drew (S := fun w' => Val.Env w' ∧ Below w.heap.size w w' ∧ w.heap.size ≤ w'.heap.size ∧ w'.cell? ⟨w.heap.size, 0, none⟩ = some (.int .i64 1) ∧ w'.cell? ⟨w.heap.size, 1, none⟩ = some (.int .i64 n) ∧ w'.cell? ⟨w.heap.size, 2, none⟩ = some (.int .u64 b) ∧ w'.cell? ⟨w.heap.size, 3, none⟩ = some (.string s) ∧ w'.cell? ⟨(w.heap.size + 1), 0, none⟩ = some (.int .i64 k2) ∧ w'.cell? ⟨(w.heap.size + 1), 1, none⟩ = some (.int .i64 n2) ∧ w'.cell? ⟨(w.heap.size + 1), 2, none⟩ = some (.int .u64 b2) ∧ w'.cell? ⟨(w.heap.size + 1), 3, none⟩ = some (.string s2)) (by kernel_rfl) ?_ (fun hHeld => ?_)
  · exact SD
  refine Man.take1 (i := 0) (v := ?_) rfl (by kernel_rfl) (by kernel_rfl) (by kernel_rfl) (fun _ _ _ h => h) (by rfl) ?_ (by assumption) ?_
  rotate_left
  · (intro u hSu; (try dsimp only at hSu); go_simp; (try with_reducible rfl))
  (try simp only [Act.put, List.setIfInBounds_toArray, List.set_cons_zero, List.set_cons_succ])
  refine Man.take1 (i := 2) (v := ?_) rfl (by kernel_rfl) (by kernel_rfl) (by kernel_rfl) (fun _ _ _ h => h) (by rfl) ?_ (by assumption) ?_
  rotate_left
  · (intro u hSu; (try dsimp only at hSu); go_simp; (try with_reducible rfl))
  (try simp only [Act.put, List.setIfInBounds_toArray, List.set_cons_zero, List.set_cons_succ])
  refine Man.one (i := 1) rfl (by kernel_rfl) (fun K hK => ?_)
  go_simp
  (go_at_call 8; (with_reducible refine (right_is 1 n b s _ ra.out _).mono ?_); rintro e w' ⟨rfl, hb⟩)
  refine hK.out _ _ ?_ (fun hNew => ?_)
  · exact one_step hHeld hb
  clear hHeld hK K hb
  have hHeld := hNew
  clear hNew
  (try simp only [Act.put, List.setIfInBounds_toArray, List.set_cons_zero, List.set_cons_succ])
  refine Man.one (i := 3) rfl (by kernel_rfl) (fun K hK => ?_)
  go_simp
  (go_at_call 7; (with_reducible refine (ref_is 1 n b s hb_.out _ ra.out _).mono ?_); rintro e w' ⟨rfl, hb⟩)
  refine hK.out _ _ ?_ (fun hNew => ?_)
  · exact one_step hHeld hb
  clear hHeld hK K hb
  have hHeld := hNew
  clear hNew
  (try simp only [Act.put, List.setIfInBounds_toArray, List.set_cons_zero, List.set_cons_succ])
  refine Man.take1 (i := 4) (v := ?_) rfl (by kernel_rfl) (by kernel_rfl) (by kernel_rfl) (fun _ _ _ h => h) (by rfl) ?_ (by assumption) ?_
  rotate_left
  · (intro u hSu; (try dsimp only at hSu); go_simp; (try with_reducible rfl))
  (try simp only [Act.put, List.setIfInBounds_toArray, List.set_cons_zero, List.set_cons_succ])
  refine Man.take1 (i := 5) (v := ?_) rfl (by kernel_rfl) (by kernel_rfl) (by kernel_rfl) (fun _ _ _ h => h) (by rfl) ?_ (by assumption) ?_
  rotate_left
  · (intro u hSu; (try dsimp only at hSu); go_simp; (try with_reducible rfl))
  (try simp only [Act.put, List.setIfInBounds_toArray, List.set_cons_zero, List.set_cons_succ])
  refine Man.take1 (i := 6) (v := ?_) rfl (by kernel_rfl) (by kernel_rfl) (by kernel_rfl) (fun _ _ _ h => h) (by rfl) ?_ (by assumption) ?_
  rotate_left
  · (intro u hSu; (try dsimp only at hSu); go_simp; (try with_reducible rfl))
  (try simp only [Act.put, List.setIfInBounds_toArray, List.set_cons_zero, List.set_cons_succ])
  refine Man.take1 (i := 7) (v := ?_) rfl (by kernel_rfl) (by kernel_rfl) (by kernel_rfl) (fun _ _ _ h => h) (by rfl) ?_ (by assumption) ?_
  rotate_left
  · (intro u hSu; (try dsimp only at hSu); go_simp; (try with_reducible rfl))
  (try simp only [Act.put, List.setIfInBounds_toArray, List.set_cons_zero, List.set_cons_succ])
  refine Man.take1 (i := 9) (v := ?_) rfl (by kernel_rfl) (by kernel_rfl) (by kernel_rfl) (fun _ _ _ h => h) (by rfl) ?_ (by assumption) ?_
  rotate_left
  · (intro u hSu; (try dsimp only at hSu); go_simp; (try with_reducible rfl))
  (try simp only [Act.put, List.setIfInBounds_toArray, List.set_cons_zero, List.set_cons_succ])
  refine Man.take1 (i := 10) (v := ?_) rfl (by kernel_rfl) (by kernel_rfl) (by kernel_rfl) (fun _ _ _ h => h) (by rfl) ?_ (by assumption) ?_
  rotate_left
  · (intro u hSu; (try dsimp only at hSu); go_simp; (try with_reducible rfl))
  (try simp only [Act.put, List.setIfInBounds_toArray, List.set_cons_zero, List.set_cons_succ])
  refine Man.one (i := 8) rfl (by kernel_rfl) (fun K hK => ?_)
  go_simp
  (go_at_call 9; (with_reducible refine (cmp_is 1 n b s k2 n2 b2 s2 cv hcv.out _).mono ?_); rintro e w' ⟨rfl, hb⟩)
  refine hK.out _ _ ?_ (fun hNew => ?_)
  · exact one_step hHeld hb
  clear hHeld hK K hb
  have hHeld := hNew
  clear hNew
  (try simp only [Act.put, List.setIfInBounds_toArray, List.set_cons_zero, List.set_cons_succ])
  refine Man.one (i := 11) rfl (by kernel_rfl) (fun K hK => ?_)
  go_simp
  (go_at_call 10; (with_reducible refine (rcmp_is 1 n b s k2 n2 b2 s2 hb_.out hb2_.out hs_.out hs2_.out cv hcv.out _).mono ?_); rintro e w' ⟨rfl, hb⟩)
  refine hK.out _ _ ?_ (fun hNew => ?_)
  · exact one_step hHeld hb
  clear hHeld hK K hb
  have hHeld := hNew
  clear hNew
  (try simp only [Act.put, List.setIfInBounds_toArray, List.set_cons_zero, List.set_cons_succ])
  refine Man.take1 (i := 12) (v := ?_) rfl (by kernel_rfl) (by kernel_rfl) (by kernel_rfl) (fun _ _ _ h => h) (by rfl) ?_ (by assumption) ?_
  rotate_left
  · (intro u hSu; (try dsimp only at hSu); go_simp; (try with_reducible rfl))
  (try simp only [Act.put, List.setIfInBounds_toArray, List.set_cons_zero, List.set_cons_succ])
  refine Man.take1 (i := 13) (v := ?_) rfl (by kernel_rfl) (by kernel_rfl) (by kernel_rfl) (fun _ _ _ h => h) (by rfl) ?_ (by assumption) ?_
  rotate_left
  · (intro u hSu; (try dsimp only at hSu); go_simp; (try with_reducible rfl))
  (try simp only [Act.put, List.setIfInBounds_toArray, List.set_cons_zero, List.set_cons_succ])
  refine Man.take1 (i := 14) (v := ?_) rfl (by kernel_rfl) (by kernel_rfl) (by kernel_rfl) (fun _ _ _ h => h) (by rfl) ?_ (by assumption) ?_
  rotate_left
  · (intro u hSu; (try dsimp only at hSu); go_simp; (try with_reducible rfl))
  (try simp only [Act.put, List.setIfInBounds_toArray, List.set_cons_zero, List.set_cons_succ])
  refine Man.take1 (i := 15) (v := ?_) rfl (by kernel_rfl) (by kernel_rfl) (by kernel_rfl) (fun _ _ _ h => h) (by rfl) ?_ (by assumption) ?_
  rotate_left
  · (intro u hSu; (try dsimp only at hSu); go_simp; (try with_reducible rfl))
  (try simp only [Act.put, List.setIfInBounds_toArray, List.set_cons_zero, List.set_cons_succ])
  refine Man.take1 (i := 16) (v := ?_) rfl (by kernel_rfl) (by kernel_rfl) (by kernel_rfl) (fun _ _ _ h => h) (by rfl) ?_ (by assumption) ?_
  rotate_left
  · (intro u hSu; (try dsimp only at hSu); go_simp; (try with_reducible rfl))
  (try simp only [Act.put, List.setIfInBounds_toArray, List.set_cons_zero, List.set_cons_succ])
  refine Man.take1 (i := 18) (v := ?_) rfl (by kernel_rfl) (by kernel_rfl) (by kernel_rfl) (fun _ _ _ h => h) (by rfl) ?_ (by assumption) ?_
  rotate_left
  · (intro u hSu; (try dsimp only at hSu); go_simp; (try with_reducible rfl))
  (try simp only [Act.put, List.setIfInBounds_toArray, List.set_cons_zero, List.set_cons_succ])
  refine Man.one (i := 17) rfl (by kernel_rfl) (fun K hK => ?_)
  go_simp
  (go_at_call 11; (with_reducible refine (same_is 1 n b s k2 n2 b2 s2 _ hsm.out _).mono ?_); rintro e w' ⟨rfl, hb⟩)
  refine hK.out _ _ ?_ (fun hNew => ?_)
  · exact one_step hHeld hb
  clear hHeld hK K hb
  have hHeld := hNew
  clear hNew
  (try simp only [Act.put, List.setIfInBounds_toArray, List.set_cons_zero, List.set_cons_succ])
  refine Man.one (i := 19) rfl (by kernel_rfl) (fun K hK => ?_)
  go_simp
  (go_at_call 7; (with_reducible refine (ref_is 1 n b s hb_.out _ ra.out _).mono ?_); rintro e w' ⟨rfl, hb⟩)
  refine hK.out _ _ ?_ (fun hNew => ?_)
  · exact one_step hHeld hb
  clear hHeld hK K hb
  have hHeld := hNew
  clear hNew
  (try simp only [Act.put, List.setIfInBounds_toArray, List.set_cons_zero, List.set_cons_succ])
  refine Man.take1 (i := 20) (v := ?_) rfl (by kernel_rfl) (by kernel_rfl) (by kernel_rfl) (fun _ _ _ h => h) (by rfl) ?_ (by assumption) ?_
  rotate_left
  · (intro u hSu; (try dsimp only at hSu); go_simp; (try with_reducible rfl))
  (try simp only [Act.put, List.setIfInBounds_toArray, List.set_cons_zero, List.set_cons_succ])
  refine Man.take1 (i := 21) (v := ?_) rfl (by kernel_rfl) (by kernel_rfl) (by kernel_rfl) (fun _ _ _ h => h) (by rfl) ?_ (by assumption) ?_
  rotate_left
  · (intro u hSu; (try dsimp only at hSu); go_simp; (try with_reducible rfl))
  (try simp only [Act.put, List.setIfInBounds_toArray, List.set_cons_zero, List.set_cons_succ])
  refine Man.one (i := 22) rfl (by kernel_rfl) (fun K hK => ?_)
  go_simp
  (go_at_call 7; (with_reducible refine (ref_is k2 n2 b2 s2 hb2_.out _ rb.out _).mono ?_); rintro e w' ⟨rfl, hb⟩)
  refine hK.out _ _ ?_ (fun hNew => ?_)
  · exact one_step hHeld hb
  clear hHeld hK K hb
  have hHeld := hNew
  clear hNew
  (try simp only [Act.put, List.setIfInBounds_toArray, List.set_cons_zero, List.set_cons_succ])
  refine Man.take1 (i := 23) (v := ?_) rfl (by kernel_rfl) (by kernel_rfl) (by kernel_rfl) (fun _ _ _ h => h) (by rfl) ?_ (by assumption) ?_
  rotate_left
  · (intro u hSu; (try dsimp only at hSu); go_simp; (try with_reducible rfl))
  (try simp only [Act.put, List.setIfInBounds_toArray, List.set_cons_zero, List.set_cons_succ])
  refine Man.take1 (i := 24) (v := ?_) rfl (by kernel_rfl) (by kernel_rfl) (by kernel_rfl) (fun _ _ _ h => h) (by rfl) ?_ (by assumption) ?_
  rotate_left
  · (intro u hSu; (try dsimp only at hSu); go_simp; (try with_reducible rfl))
  (try simp only [Act.put, List.setIfInBounds_toArray, List.set_cons_zero, List.set_cons_succ])
  refine Man.take0 (i := 25) rfl (by kernel_rfl) (by kernel_rfl) (by kernel_rfl) (fun _ _ _ h => h) (by rfl) (by assumption) ?_
  (try simp only [Act.put, List.setIfInBounds_toArray, List.set_cons_zero, List.set_cons_succ])
  refine Man.take0 (i := 26) rfl (by kernel_rfl) (by kernel_rfl) (by kernel_rfl) (fun _ _ _ h => h) (by rfl) (by assumption) ?_
  (try simp only [Act.put, List.setIfInBounds_toArray, List.set_cons_zero, List.set_cons_succ])
  refine Man.take0 (i := 27) rfl (by kernel_rfl) (by kernel_rfl) (by kernel_rfl) (fun _ _ _ h => h) (by rfl) (by assumption) ?_
  (try simp only [Act.put, List.setIfInBounds_toArray, List.set_cons_zero, List.set_cons_succ])
  refine Man.take1 (i := 28) (v := ?_) rfl (by kernel_rfl) (by kernel_rfl) (by kernel_rfl) (fun _ _ _ h => h) (by rfl) ?_ (by assumption) ?_
  rotate_left
  · (intro u hSu; (try dsimp only at hSu); go_simp; (try with_reducible rfl))
  (try simp only [Act.put, List.setIfInBounds_toArray, List.set_cons_zero, List.set_cons_succ])
  refine Man.take1 (i := 29) (v := ?_) rfl (by kernel_rfl) (by kernel_rfl) (by kernel_rfl) (fun _ _ _ h => h) (by rfl) ?_ (by assumption) ?_
  rotate_left
  · (intro u hSu; (try dsimp only at hSu); go_simp; (try with_reducible rfl))
  (try simp only [Act.put, List.setIfInBounds_toArray, List.set_cons_zero, List.set_cons_succ])
  refine Man.take1 (i := 30) (v := ?_) rfl (by kernel_rfl) (by kernel_rfl) (by kernel_rfl) (fun _ _ _ h => h) (by rfl) ?_ (by assumption) ?_
  rotate_left
  · (intro u hSu; (try dsimp only at hSu); go_simp; (try with_reducible rfl))
  (try simp only [Act.put, List.setIfInBounds_toArray, List.set_cons_zero, List.set_cons_succ])
  refine Man.take1 (i := 31) (v := ?_) rfl (by kernel_rfl) (by kernel_rfl) (by kernel_rfl) (fun _ _ _ h => h) (by rfl) ?_ (by assumption) ?_
  rotate_left
  · (intro u hSu; (try dsimp only at hSu); go_simp; (try with_reducible rfl))
  (try simp only [Act.put, List.setIfInBounds_toArray, List.set_cons_zero, List.set_cons_succ])
  refine Man.take1 (i := 32) (v := ?_) rfl (by kernel_rfl) (by kernel_rfl) (by kernel_rfl) (fun _ _ _ h => h) (by rfl) ?_ (by assumption) ?_
  rotate_left
  · (intro u hSu; (try dsimp only at hSu); go_simp; (try with_reducible rfl))
  (try simp only [Act.put, List.setIfInBounds_toArray, List.set_cons_zero, List.set_cons_succ])
  refine Man.take1 (i := 34) (v := ?_) rfl (by kernel_rfl) (by kernel_rfl) (by kernel_rfl) (fun _ _ _ h => h) (by rfl) ?_ (by assumption) ?_
  rotate_left
  · (intro u hSu; (try dsimp only at hSu); go_simp; (try with_reducible rfl))
  (try simp only [Act.put, List.setIfInBounds_toArray, List.set_cons_zero, List.set_cons_succ])
  refine Man.one (i := 33) rfl (by kernel_rfl) (fun K hK => ?_)
  go_simp
  (go_at_call 12; (with_reducible refine (show_is 1 n b s T h0.out h1.out hb_.out hT.out _ (And.left hHeld)).mono ?_); rintro e w' ⟨rfl, hb⟩)
  refine hK.out _ _ ?_ (fun hNew => ?_)
  · exact one_step hHeld hb
  clear hHeld hK K hb
  have hHeld := hNew
  clear hNew
  (try simp only [Act.put, List.setIfInBounds_toArray, List.set_cons_zero, List.set_cons_succ])
  refine Man.one (i := 35) rfl (by kernel_rfl) (fun K hK => ?_)
  go_simp
  (go_at_call 13; (with_reducible refine (rshow_is 1 n b s T hb_.out h0.out h1.out hT.out _).mono ?_); rintro e w' ⟨rfl, hb⟩)
  refine hK.out _ _ ?_ (fun hNew => ?_)
  · exact one_step hHeld hb
  clear hHeld hK K hb
  have hHeld := hNew
  clear hNew
  (try simp only [Act.put, List.setIfInBounds_toArray, List.set_cons_zero, List.set_cons_succ])
  refine Man.take1 (i := 36) (v := ?_) rfl (by kernel_rfl) (by kernel_rfl) (by kernel_rfl) (fun _ _ _ h => h) (by rfl) ?_ (by assumption) ?_
  rotate_left
  · (intro u hSu; (try dsimp only at hSu); go_simp; (try with_reducible rfl))
  (try simp only [Act.put, List.setIfInBounds_toArray, List.set_cons_zero, List.set_cons_succ])
  refine Man.take1 (i := 37) (v := ?_) rfl (by kernel_rfl) (by kernel_rfl) (by kernel_rfl) (fun _ _ _ h => h) (by rfl) ?_ (by assumption) ?_
  rotate_left
  · (intro u hSu; (try dsimp only at hSu); go_simp; (try with_reducible rfl))
  (try simp only [Act.put, List.setIfInBounds_toArray, List.set_cons_zero, List.set_cons_succ])
  refine Man.take1 (i := 38) (v := ?_) rfl (by kernel_rfl) (by kernel_rfl) (by kernel_rfl) (fun _ _ _ h => h) (by rfl) ?_ (by assumption) ?_
  rotate_left
  · (intro u hSu; (try dsimp only at hSu); go_simp; (try with_reducible rfl))
  (try simp only [Act.put, List.setIfInBounds_toArray, List.set_cons_zero, List.set_cons_succ])
  refine Man.take1 (i := 39) (v := ?_) rfl (by kernel_rfl) (by kernel_rfl) (by kernel_rfl) (fun _ _ _ h => h) (by rfl) ?_ (by assumption) ?_
  rotate_left
  · (intro u hSu; (try dsimp only at hSu); go_simp; (try with_reducible rfl))
  (try simp only [Act.put, List.setIfInBounds_toArray, List.set_cons_zero, List.set_cons_succ])
  refine Man.take1 (i := 41) (v := ?_) rfl (by kernel_rfl) (by kernel_rfl) (by kernel_rfl) (fun _ _ _ h => h) (by rfl) ?_ (by assumption) ?_
  rotate_left
  · (intro u hSu; (try dsimp only at hSu); go_simp; (try with_reducible rfl))
  (try simp only [Act.put, List.setIfInBounds_toArray, List.set_cons_zero, List.set_cons_succ])
  refine Man.one (i := 40) rfl (by kernel_rfl) (fun K hK => ?_)
  go_simp
  (go_at_call 14; (with_reducible refine (truth_is 1 n b s _ htr.out _).mono ?_); rintro e w' ⟨rfl, hb⟩)
  refine hK.out _ _ ?_ (fun hNew => ?_)
  · exact one_step hHeld hb
  clear hHeld hK K hb
  have hHeld := hNew
  clear hNew
  (try simp only [Act.put, List.setIfInBounds_toArray, List.set_cons_zero, List.set_cons_succ])
  refine Man.take1 (i := 42) (v := ?_) rfl (by kernel_rfl) (by kernel_rfl) (by kernel_rfl) (fun _ _ _ h => h) (by rfl) ?_ (by assumption) ?_
  rotate_left
  · (intro u hSu; (try dsimp only at hSu); go_simp; (try with_reducible rfl))
  (try simp only [Act.put, List.setIfInBounds_toArray, List.set_cons_zero, List.set_cons_succ])
  refine Man.take1 (i := 43) (v := ?_) rfl (by kernel_rfl) (by kernel_rfl) (by kernel_rfl) (fun _ _ _ h => h) (by rfl) ?_ (by assumption) ?_
  rotate_left
  · (intro u hSu; (try dsimp only at hSu); go_simp; (try with_reducible rfl))
  (try simp only [Act.put, List.setIfInBounds_toArray, List.set_cons_zero, List.set_cons_succ])
  refine Man.take1 (i := 44) (v := ?_) rfl (by kernel_rfl) (by kernel_rfl) (by kernel_rfl) (fun _ _ _ h => h) (by rfl) ?_ (by assumption) ?_
  rotate_left
  · (intro u hSu; (try dsimp only at hSu); go_simp; (try with_reducible rfl))
  (try simp only [Act.put, List.setIfInBounds_toArray, List.set_cons_zero, List.set_cons_succ])
  refine Man.one (i := 45) rfl (by kernel_rfl) (fun K hK => ?_)
  go_simp
  (go_at_call 6; (with_reducible refine (Rd.known_any _ (And.left hHeld)).mono ?_); rintro e w' ⟨rfl, hb⟩)
  refine hK.out _ _ ?_ (fun hNew => ?_)
  · exact one_step hHeld hb
  clear hHeld hK K hb
  have hHeld := hNew
  clear hNew
  (try simp only [Act.put, List.setIfInBounds_toArray, List.set_cons_zero, List.set_cons_succ])
  refine Man.take1 (i := 46) (v := ?_) rfl (by kernel_rfl) (by kernel_rfl) (by kernel_rfl) (fun _ _ _ h => h) (by rfl) ?_ (by assumption) ?_
  rotate_left
  · (intro u hSu; (try dsimp only at hSu); go_simp; (try with_reducible rfl))
  (try simp only [Act.put, List.setIfInBounds_toArray, List.set_cons_zero, List.set_cons_succ])
  refine Man.take1 (i := 47) (v := ?_) rfl (by kernel_rfl) (by kernel_rfl) (by kernel_rfl) (fun _ _ _ h => h) (by rfl) ?_ (by assumption) ?_
  rotate_left
  · (intro u hSu; (try dsimp only at hSu); go_simp; (try with_reducible rfl))
  (try simp only [Act.put, List.setIfInBounds_toArray, List.set_cons_zero, List.set_cons_succ])
  refine wpAnyH_done (by kernel_rfl) ?_ _
  obtain ⟨hqe, hqb, hqz, a0, a1, a2, a3, c0, c1, c2, c3⟩ := hHeld
  have QB := Lib.hid hqb
  clear hqe hqb SS SD
  go_wp2_with fail
  go_ret
  exact ⟨rfl, QB.out⟩
set_option maxHeartbeats 8000000 in
set_option maxRecDepth 100000 in
theorem te_on (k : Int) (n : Int) (b : Nat) (s : ByteArray) (k2 n2 : Int) (b2 : Nat) (s2 : ByteArray) (w : World) (he : Val.Env w) (g1 : decide ((5000 : Int) < s.size) = false) (g2 : decide ((5000 : Int) < s2.size) = false) (hb_ : Hid (b < 18446744073709551616)) (hb2_ : Hid (b2 < 18446744073709551616)) (hs_ : Hid (s.size ≤ 35184372088832)) (hs2_ : Hid (s2.size ≤ 35184372088832)) (h0 : Hid (-9223372036854775808 ≤ n)) (h1 : Hid (n ≤ 9223372036854775807)) (T : ByteArray) (hT : Hid (T.data.toList = Val.showL k n b s)) (cv : Int) (hcv : Hid (Val.cmpV k n b s k2 n2 b2 s2 = cv)) (ra : Hid (Val.rightB k n b s = true)) (rb : Hid (Val.rightB k2 n2 b2 s2 = false)) (hsm : Hid (Val.sameB k n b s k2 n2 b2 s2 = false)) (htr : Hid (Val.truthI k n b s = (-1))) (gk : (k == (1 : Int)) = false) : Calls Tryd.prog 3 #[.agg #[.int .i64 k, .int .i64 n, .int .u64 b, .string s], .agg #[.int .i64 k2, .int .i64 n2, .int .u64 b2, .string s2]] w fun e w' => e = .returned (.bool true) ∧ Below w.heap.size w w' := by
  have HE0 := Lib.hid ((he.below ((Below.refl w.heap.size w).alloc (Nat.le_refl _) (.cells #[.int .i64 k, .int .i64 n, .int .u64 b, .string s] 24))).below ((Below.refl (w.alloc (.cells #[.int .i64 k, .int .i64 n, .int .u64 b, .string s] 24)).heap.size (w.alloc (.cells #[.int .i64 k, .int .i64 n, .int .u64 b, .string s] 24))).alloc (Nat.le_refl _) (.cells #[.int .i64 k2, .int .i64 n2, .int .u64 b2, .string s2] 24)))
  have T20 := Lib.hid ((Rd.Box.new w k n b s).old (.cells #[.int .i64 k2, .int .i64 n2, .int .u64 b2, .string s2] 24))
  have T30 := Lib.hid (show Rd.Box ((w.alloc (.cells #[.int .i64 k, .int .i64 n, .int .u64 b, .string s] 24)).alloc (.cells #[.int .i64 k2, .int .i64 n2, .int .u64 b2, .string s2] 24)) (w.heap.size + 1) k2 n2 b2 s2 from by have h := Rd.Box.new (w.alloc (.cells #[.int .i64 k, .int .i64 n, .int .u64 b, .string s] 24)) k2 n2 b2 s2; rwa [show (w.alloc (.cells #[.int .i64 k, .int .i64 n, .int .u64 b, .string s] 24)).heap.size = w.heap.size + 1 from by simp] at h)
  have B0 := Lib.hid (((Below.refl w.heap.size w).alloc (Nat.le_refl _) (.cells #[.int .i64 k, .int .i64 n, .int .u64 b, .string s] 24)).alloc (by simp) (.cells #[.int .i64 k2, .int .i64 n2, .int .u64 b2, .string s2] 24))
  have Z0 : w.heap.size ≤ ((w.alloc (.cells #[.int .i64 k, .int .i64 n, .int .u64 b, .string s] 24)).alloc (.cells #[.int .i64 k2, .int .i64 n2, .int .u64 b2, .string s2] 24)).heap.size := by simp; omega
  clear he
  have gs : (T.toList == T.toList) = true := by simp
  go_enter Tryd.func3, Tryd.ntmps3
  go_wp2_with fail
  refine (ref_is k n b s hb_.out _ ra.out _).mono ?_
  rintro e w1 ⟨rfl, hbn⟩
  have HE1 := Lib.hid (HE0.out.below hbn)
  have T21 := Lib.hid (T20.out.below hbn)
  have T31 := Lib.hid (T30.out.below hbn)
  have B1 := Lib.hid (B0.out.trans (hbn.mono Z0))
  have Z1 : w.heap.size ≤ w1.heap.size := Nat.le_trans Z0 hbn.size
  clear hbn HE0 B0 Z0 T20 T30
  have q0 := T21.out.c0
  have q1 := T21.out.c1
  have q2 := T21.out.c2
  have q3 := T21.out.c3
  go_wp2_with fail
  have SS : (fun w' => Val.Env w' ∧ Below w.heap.size w w' ∧ w.heap.size ≤ w'.heap.size ∧ w'.cell? ⟨w.heap.size, 0, none⟩ = some (.int .i64 k) ∧ w'.cell? ⟨w.heap.size, 1, none⟩ = some (.int .i64 n) ∧ w'.cell? ⟨w.heap.size, 2, none⟩ = some (.int .u64 b) ∧ w'.cell? ⟨w.heap.size, 3, none⟩ = some (.string s) ∧ w'.cell? ⟨(w.heap.size + 1), 0, none⟩ = some (.int .i64 k2) ∧ w'.cell? ⟨(w.heap.size + 1), 1, none⟩ = some (.int .i64 n2) ∧ w'.cell? ⟨(w.heap.size + 1), 2, none⟩ = some (.int .u64 b2) ∧ w'.cell? ⟨(w.heap.size + 1), 3, none⟩ = some (.string s2)) w1 := ⟨HE1.out, B1.out, Z1, T21.out.c0, T21.out.c1, T21.out.c2, T21.out.c3, T31.out.c0, T31.out.c1, T31.out.c2, T31.out.c3⟩
  clear q0 q1 q2 q3 HE1 B1 Z1 T21 T31
  have SD : (fun w' => Val.Env w' ∧ Below w.heap.size w w' ∧ w.heap.size ≤ w'.heap.size ∧ w'.cell? ⟨w.heap.size, 0, none⟩ = some (.int .i64 k) ∧ w'.cell? ⟨w.heap.size, 1, none⟩ = some (.int .i64 n) ∧ w'.cell? ⟨w.heap.size, 2, none⟩ = some (.int .u64 b) ∧ w'.cell? ⟨w.heap.size, 3, none⟩ = some (.string s) ∧ w'.cell? ⟨(w.heap.size + 1), 0, none⟩ = some (.int .i64 k2) ∧ w'.cell? ⟨(w.heap.size + 1), 1, none⟩ = some (.int .i64 n2) ∧ w'.cell? ⟨(w.heap.size + 1), 2, none⟩ = some (.int .u64 b2) ∧ w'.cell? ⟨(w.heap.size + 1), 3, none⟩ = some (.string s2)) w1.drew := ⟨SS.1.below (Below.refl _ w1).drew, SS.2.1.drew, SS.2.2⟩
  refine wp_region_held_drew (S := fun w' => Val.Env w' ∧ Below w.heap.size w w' ∧ w.heap.size ≤ w'.heap.size ∧ w'.cell? ⟨w.heap.size, 0, none⟩ = some (.int .i64 k) ∧ w'.cell? ⟨w.heap.size, 1, none⟩ = some (.int .i64 n) ∧ w'.cell? ⟨w.heap.size, 2, none⟩ = some (.int .u64 b) ∧ w'.cell? ⟨w.heap.size, 3, none⟩ = some (.string s) ∧ w'.cell? ⟨(w.heap.size + 1), 0, none⟩ = some (.int .i64 k2) ∧ w'.cell? ⟨(w.heap.size + 1), 1, none⟩ = some (.int .i64 n2) ∧ w'.cell? ⟨(w.heap.size + 1), 2, none⟩ = some (.int .u64 b2) ∧ w'.cell? ⟨(w.heap.size + 1), 3, none⟩ = some (.string s2)) (by kernel_rfl) ?_ (fun hHeld => ?_)
  · exact SD
  refine Man.take1 (i := 0) (v := ?_) rfl (by kernel_rfl) (by kernel_rfl) (by kernel_rfl) (fun _ _ _ h => h) (by rfl) ?_ (by assumption) ?_
  rotate_left
  · (intro u hSu; (try dsimp only at hSu); go_simp; (try with_reducible rfl))
  (try simp only [Act.put, List.setIfInBounds_toArray, List.set_cons_zero, List.set_cons_succ])
  refine Man.take1 (i := 2) (v := ?_) rfl (by kernel_rfl) (by kernel_rfl) (by kernel_rfl) (fun _ _ _ h => h) (by rfl) ?_ (by assumption) ?_
  rotate_left
  · (intro u hSu; (try dsimp only at hSu); go_simp; (try with_reducible rfl))
  (try simp only [Act.put, List.setIfInBounds_toArray, List.set_cons_zero, List.set_cons_succ])
  refine Man.one (i := 1) rfl (by kernel_rfl) (fun K hK => ?_)
  go_simp
  (go_at_call 8; (with_reducible refine (right_is k n b s _ ra.out _).mono ?_); rintro e w' ⟨rfl, hb⟩)
  refine hK.out _ _ ?_ (fun hNew => ?_)
  · exact one_step hHeld hb
  clear hHeld hK K hb
  have hHeld := hNew
  clear hNew
  (try simp only [Act.put, List.setIfInBounds_toArray, List.set_cons_zero, List.set_cons_succ])
  refine Man.one (i := 3) rfl (by kernel_rfl) (fun K hK => ?_)
  go_simp
  (go_at_call 7; (with_reducible refine (ref_is k n b s hb_.out _ ra.out _).mono ?_); rintro e w' ⟨rfl, hb⟩)
  refine hK.out _ _ ?_ (fun hNew => ?_)
  · exact one_step hHeld hb
  clear hHeld hK K hb
  have hHeld := hNew
  clear hNew
  (try simp only [Act.put, List.setIfInBounds_toArray, List.set_cons_zero, List.set_cons_succ])
  refine Man.take1 (i := 4) (v := ?_) rfl (by kernel_rfl) (by kernel_rfl) (by kernel_rfl) (fun _ _ _ h => h) (by rfl) ?_ (by assumption) ?_
  rotate_left
  · (intro u hSu; (try dsimp only at hSu); go_simp; (try with_reducible rfl))
  (try simp only [Act.put, List.setIfInBounds_toArray, List.set_cons_zero, List.set_cons_succ])
  refine Man.take1 (i := 5) (v := ?_) rfl (by kernel_rfl) (by kernel_rfl) (by kernel_rfl) (fun _ _ _ h => h) (by rfl) ?_ (by assumption) ?_
  rotate_left
  · (intro u hSu; (try dsimp only at hSu); go_simp; (try with_reducible rfl))
  (try simp only [Act.put, List.setIfInBounds_toArray, List.set_cons_zero, List.set_cons_succ])
  refine Man.take1 (i := 6) (v := ?_) rfl (by kernel_rfl) (by kernel_rfl) (by kernel_rfl) (fun _ _ _ h => h) (by rfl) ?_ (by assumption) ?_
  rotate_left
  · (intro u hSu; (try dsimp only at hSu); go_simp; (try with_reducible rfl))
  (try simp only [Act.put, List.setIfInBounds_toArray, List.set_cons_zero, List.set_cons_succ])
  refine Man.take1 (i := 7) (v := ?_) rfl (by kernel_rfl) (by kernel_rfl) (by kernel_rfl) (fun _ _ _ h => h) (by rfl) ?_ (by assumption) ?_
  rotate_left
  · (intro u hSu; (try dsimp only at hSu); go_simp; (try with_reducible rfl))
  (try simp only [Act.put, List.setIfInBounds_toArray, List.set_cons_zero, List.set_cons_succ])
  refine Man.take1 (i := 9) (v := ?_) rfl (by kernel_rfl) (by kernel_rfl) (by kernel_rfl) (fun _ _ _ h => h) (by rfl) ?_ (by assumption) ?_
  rotate_left
  · (intro u hSu; (try dsimp only at hSu); go_simp; (try with_reducible rfl))
  (try simp only [Act.put, List.setIfInBounds_toArray, List.set_cons_zero, List.set_cons_succ])
  refine Man.take1 (i := 10) (v := ?_) rfl (by kernel_rfl) (by kernel_rfl) (by kernel_rfl) (fun _ _ _ h => h) (by rfl) ?_ (by assumption) ?_
  rotate_left
  · (intro u hSu; (try dsimp only at hSu); go_simp; (try with_reducible rfl))
  (try simp only [Act.put, List.setIfInBounds_toArray, List.set_cons_zero, List.set_cons_succ])
  refine Man.one (i := 8) rfl (by kernel_rfl) (fun K hK => ?_)
  go_simp
  (go_at_call 9; (with_reducible refine (cmp_is k n b s k2 n2 b2 s2 cv hcv.out _).mono ?_); rintro e w' ⟨rfl, hb⟩)
  refine hK.out _ _ ?_ (fun hNew => ?_)
  · exact one_step hHeld hb
  clear hHeld hK K hb
  have hHeld := hNew
  clear hNew
  (try simp only [Act.put, List.setIfInBounds_toArray, List.set_cons_zero, List.set_cons_succ])
  refine Man.one (i := 11) rfl (by kernel_rfl) (fun K hK => ?_)
  go_simp
  (go_at_call 10; (with_reducible refine (rcmp_is k n b s k2 n2 b2 s2 hb_.out hb2_.out hs_.out hs2_.out cv hcv.out _).mono ?_); rintro e w' ⟨rfl, hb⟩)
  refine hK.out _ _ ?_ (fun hNew => ?_)
  · exact one_step hHeld hb
  clear hHeld hK K hb
  have hHeld := hNew
  clear hNew
  (try simp only [Act.put, List.setIfInBounds_toArray, List.set_cons_zero, List.set_cons_succ])
  refine Man.take1 (i := 12) (v := ?_) rfl (by kernel_rfl) (by kernel_rfl) (by kernel_rfl) (fun _ _ _ h => h) (by rfl) ?_ (by assumption) ?_
  rotate_left
  · (intro u hSu; (try dsimp only at hSu); go_simp; (try with_reducible rfl))
  (try simp only [Act.put, List.setIfInBounds_toArray, List.set_cons_zero, List.set_cons_succ])
  refine Man.take1 (i := 13) (v := ?_) rfl (by kernel_rfl) (by kernel_rfl) (by kernel_rfl) (fun _ _ _ h => h) (by rfl) ?_ (by assumption) ?_
  rotate_left
  · (intro u hSu; (try dsimp only at hSu); go_simp; (try with_reducible rfl))
  (try simp only [Act.put, List.setIfInBounds_toArray, List.set_cons_zero, List.set_cons_succ])
  refine Man.take1 (i := 14) (v := ?_) rfl (by kernel_rfl) (by kernel_rfl) (by kernel_rfl) (fun _ _ _ h => h) (by rfl) ?_ (by assumption) ?_
  rotate_left
  · (intro u hSu; (try dsimp only at hSu); go_simp; (try with_reducible rfl))
  (try simp only [Act.put, List.setIfInBounds_toArray, List.set_cons_zero, List.set_cons_succ])
  refine Man.take1 (i := 15) (v := ?_) rfl (by kernel_rfl) (by kernel_rfl) (by kernel_rfl) (fun _ _ _ h => h) (by rfl) ?_ (by assumption) ?_
  rotate_left
  · (intro u hSu; (try dsimp only at hSu); go_simp; (try with_reducible rfl))
  (try simp only [Act.put, List.setIfInBounds_toArray, List.set_cons_zero, List.set_cons_succ])
  refine Man.take1 (i := 16) (v := ?_) rfl (by kernel_rfl) (by kernel_rfl) (by kernel_rfl) (fun _ _ _ h => h) (by rfl) ?_ (by assumption) ?_
  rotate_left
  · (intro u hSu; (try dsimp only at hSu); go_simp; (try with_reducible rfl))
  (try simp only [Act.put, List.setIfInBounds_toArray, List.set_cons_zero, List.set_cons_succ])
  refine Man.take1 (i := 18) (v := ?_) rfl (by kernel_rfl) (by kernel_rfl) (by kernel_rfl) (fun _ _ _ h => h) (by rfl) ?_ (by assumption) ?_
  rotate_left
  · (intro u hSu; (try dsimp only at hSu); go_simp; (try with_reducible rfl))
  (try simp only [Act.put, List.setIfInBounds_toArray, List.set_cons_zero, List.set_cons_succ])
  refine Man.one (i := 17) rfl (by kernel_rfl) (fun K hK => ?_)
  go_simp
  (go_at_call 11; (with_reducible refine (same_is k n b s k2 n2 b2 s2 _ hsm.out _).mono ?_); rintro e w' ⟨rfl, hb⟩)
  refine hK.out _ _ ?_ (fun hNew => ?_)
  · exact one_step hHeld hb
  clear hHeld hK K hb
  have hHeld := hNew
  clear hNew
  (try simp only [Act.put, List.setIfInBounds_toArray, List.set_cons_zero, List.set_cons_succ])
  refine Man.one (i := 19) rfl (by kernel_rfl) (fun K hK => ?_)
  go_simp
  (go_at_call 7; (with_reducible refine (ref_is k n b s hb_.out _ ra.out _).mono ?_); rintro e w' ⟨rfl, hb⟩)
  refine hK.out _ _ ?_ (fun hNew => ?_)
  · exact one_step hHeld hb
  clear hHeld hK K hb
  have hHeld := hNew
  clear hNew
  (try simp only [Act.put, List.setIfInBounds_toArray, List.set_cons_zero, List.set_cons_succ])
  refine Man.take1 (i := 20) (v := ?_) rfl (by kernel_rfl) (by kernel_rfl) (by kernel_rfl) (fun _ _ _ h => h) (by rfl) ?_ (by assumption) ?_
  rotate_left
  · (intro u hSu; (try dsimp only at hSu); go_simp; (try with_reducible rfl))
  (try simp only [Act.put, List.setIfInBounds_toArray, List.set_cons_zero, List.set_cons_succ])
  refine Man.take1 (i := 21) (v := ?_) rfl (by kernel_rfl) (by kernel_rfl) (by kernel_rfl) (fun _ _ _ h => h) (by rfl) ?_ (by assumption) ?_
  rotate_left
  · (intro u hSu; (try dsimp only at hSu); go_simp; (try with_reducible rfl))
  (try simp only [Act.put, List.setIfInBounds_toArray, List.set_cons_zero, List.set_cons_succ])
  refine Man.one (i := 22) rfl (by kernel_rfl) (fun K hK => ?_)
  go_simp
  (go_at_call 7; (with_reducible refine (ref_is k2 n2 b2 s2 hb2_.out _ rb.out _).mono ?_); rintro e w' ⟨rfl, hb⟩)
  refine hK.out _ _ ?_ (fun hNew => ?_)
  · exact one_step hHeld hb
  clear hHeld hK K hb
  have hHeld := hNew
  clear hNew
  (try simp only [Act.put, List.setIfInBounds_toArray, List.set_cons_zero, List.set_cons_succ])
  refine Man.take1 (i := 23) (v := ?_) rfl (by kernel_rfl) (by kernel_rfl) (by kernel_rfl) (fun _ _ _ h => h) (by rfl) ?_ (by assumption) ?_
  rotate_left
  · (intro u hSu; (try dsimp only at hSu); go_simp; (try with_reducible rfl))
  (try simp only [Act.put, List.setIfInBounds_toArray, List.set_cons_zero, List.set_cons_succ])
  refine Man.take1 (i := 24) (v := ?_) rfl (by kernel_rfl) (by kernel_rfl) (by kernel_rfl) (fun _ _ _ h => h) (by rfl) ?_ (by assumption) ?_
  rotate_left
  · (intro u hSu; (try dsimp only at hSu); go_simp; (try with_reducible rfl))
  (try simp only [Act.put, List.setIfInBounds_toArray, List.set_cons_zero, List.set_cons_succ])
  refine Man.take0 (i := 25) rfl (by kernel_rfl) (by kernel_rfl) (by kernel_rfl) (fun _ _ _ h => h) (by rfl) (by assumption) ?_
  (try simp only [Act.put, List.setIfInBounds_toArray, List.set_cons_zero, List.set_cons_succ])
  refine Man.take0 (i := 26) rfl (by kernel_rfl) (by kernel_rfl) (by kernel_rfl) (fun _ _ _ h => h) (by rfl) (by assumption) ?_
  (try simp only [Act.put, List.setIfInBounds_toArray, List.set_cons_zero, List.set_cons_succ])
  refine Man.take0 (i := 27) rfl (by kernel_rfl) (by kernel_rfl) (by kernel_rfl) (fun _ _ _ h => h) (by rfl) (by assumption) ?_
  (try simp only [Act.put, List.setIfInBounds_toArray, List.set_cons_zero, List.set_cons_succ])
  refine Man.take1 (i := 28) (v := ?_) rfl (by kernel_rfl) (by kernel_rfl) (by kernel_rfl) (fun _ _ _ h => h) (by rfl) ?_ (by assumption) ?_
  rotate_left
  · (intro u hSu; (try dsimp only at hSu); go_simp; (try with_reducible rfl))
  (try simp only [Act.put, List.setIfInBounds_toArray, List.set_cons_zero, List.set_cons_succ])
  refine Man.take1 (i := 29) (v := ?_) rfl (by kernel_rfl) (by kernel_rfl) (by kernel_rfl) (fun _ _ _ h => h) (by rfl) ?_ (by assumption) ?_
  rotate_left
  · (intro u hSu; (try dsimp only at hSu); go_simp; (try with_reducible rfl))
  (try simp only [Act.put, List.setIfInBounds_toArray, List.set_cons_zero, List.set_cons_succ])
  refine Man.take1 (i := 30) (v := ?_) rfl (by kernel_rfl) (by kernel_rfl) (by kernel_rfl) (fun _ _ _ h => h) (by rfl) ?_ (by assumption) ?_
  rotate_left
  · (intro u hSu; (try dsimp only at hSu); go_simp; (try with_reducible rfl))
  (try simp only [Act.put, List.setIfInBounds_toArray, List.set_cons_zero, List.set_cons_succ])
  refine Man.take1 (i := 31) (v := ?_) rfl (by kernel_rfl) (by kernel_rfl) (by kernel_rfl) (fun _ _ _ h => h) (by rfl) ?_ (by assumption) ?_
  rotate_left
  · (intro u hSu; (try dsimp only at hSu); go_simp; (try with_reducible rfl))
  (try simp only [Act.put, List.setIfInBounds_toArray, List.set_cons_zero, List.set_cons_succ])
  refine Man.take1 (i := 32) (v := ?_) rfl (by kernel_rfl) (by kernel_rfl) (by kernel_rfl) (fun _ _ _ h => h) (by rfl) ?_ (by assumption) ?_
  rotate_left
  · (intro u hSu; (try dsimp only at hSu); go_simp; (try with_reducible rfl))
  (try simp only [Act.put, List.setIfInBounds_toArray, List.set_cons_zero, List.set_cons_succ])
  refine Man.take1 (i := 34) (v := ?_) rfl (by kernel_rfl) (by kernel_rfl) (by kernel_rfl) (fun _ _ _ h => h) (by rfl) ?_ (by assumption) ?_
  rotate_left
  · (intro u hSu; (try dsimp only at hSu); go_simp; (try with_reducible rfl))
  (try simp only [Act.put, List.setIfInBounds_toArray, List.set_cons_zero, List.set_cons_succ])
  refine Man.one (i := 33) rfl (by kernel_rfl) (fun K hK => ?_)
  go_simp
  (go_at_call 12; (with_reducible refine (show_is k n b s T h0.out h1.out hb_.out hT.out _ (And.left hHeld)).mono ?_); rintro e w' ⟨rfl, hb⟩)
  refine hK.out _ _ ?_ (fun hNew => ?_)
  · exact one_step hHeld hb
  clear hHeld hK K hb
  have hHeld := hNew
  clear hNew
  (try simp only [Act.put, List.setIfInBounds_toArray, List.set_cons_zero, List.set_cons_succ])
  refine Man.one (i := 35) rfl (by kernel_rfl) (fun K hK => ?_)
  go_simp
  (go_at_call 13; (with_reducible refine (rshow_is k n b s T hb_.out h0.out h1.out hT.out _).mono ?_); rintro e w' ⟨rfl, hb⟩)
  refine hK.out _ _ ?_ (fun hNew => ?_)
  · exact one_step hHeld hb
  clear hHeld hK K hb
  have hHeld := hNew
  clear hNew
  (try simp only [Act.put, List.setIfInBounds_toArray, List.set_cons_zero, List.set_cons_succ])
  refine Man.take1 (i := 36) (v := ?_) rfl (by kernel_rfl) (by kernel_rfl) (by kernel_rfl) (fun _ _ _ h => h) (by rfl) ?_ (by assumption) ?_
  rotate_left
  · (intro u hSu; (try dsimp only at hSu); go_simp; (try with_reducible rfl))
  (try simp only [Act.put, List.setIfInBounds_toArray, List.set_cons_zero, List.set_cons_succ])
  refine Man.take1 (i := 37) (v := ?_) rfl (by kernel_rfl) (by kernel_rfl) (by kernel_rfl) (fun _ _ _ h => h) (by rfl) ?_ (by assumption) ?_
  rotate_left
  · (intro u hSu; (try dsimp only at hSu); go_simp; (try with_reducible rfl))
  (try simp only [Act.put, List.setIfInBounds_toArray, List.set_cons_zero, List.set_cons_succ])
  refine Man.take1 (i := 38) (v := ?_) rfl (by kernel_rfl) (by kernel_rfl) (by kernel_rfl) (fun _ _ _ h => h) (by rfl) ?_ (by assumption) ?_
  rotate_left
  · (intro u hSu; (try dsimp only at hSu); go_simp; (try with_reducible rfl))
  (try simp only [Act.put, List.setIfInBounds_toArray, List.set_cons_zero, List.set_cons_succ])
  refine Man.take1 (i := 39) (v := ?_) rfl (by kernel_rfl) (by kernel_rfl) (by kernel_rfl) (fun _ _ _ h => h) (by rfl) ?_ (by assumption) ?_
  rotate_left
  · (intro u hSu; (try dsimp only at hSu); go_simp; (try with_reducible rfl))
  (try simp only [Act.put, List.setIfInBounds_toArray, List.set_cons_zero, List.set_cons_succ])
  refine Man.take1 (i := 41) (v := ?_) rfl (by kernel_rfl) (by kernel_rfl) (by kernel_rfl) (fun _ _ _ h => h) (by rfl) ?_ (by assumption) ?_
  rotate_left
  · (intro u hSu; (try dsimp only at hSu); go_simp; (try with_reducible rfl))
  (try simp only [Act.put, List.setIfInBounds_toArray, List.set_cons_zero, List.set_cons_succ])
  refine Man.one (i := 40) rfl (by kernel_rfl) (fun K hK => ?_)
  go_simp
  (go_at_call 14; (with_reducible refine (truth_is k n b s _ htr.out _).mono ?_); rintro e w' ⟨rfl, hb⟩)
  refine hK.out _ _ ?_ (fun hNew => ?_)
  · exact one_step hHeld hb
  clear hHeld hK K hb
  have hHeld := hNew
  clear hNew
  (try simp only [Act.put, List.setIfInBounds_toArray, List.set_cons_zero, List.set_cons_succ])
  refine Man.take1 (i := 42) (v := ?_) rfl (by kernel_rfl) (by kernel_rfl) (by kernel_rfl) (fun _ _ _ h => h) (by rfl) ?_ (by assumption) ?_
  rotate_left
  · (intro u hSu; (try dsimp only at hSu); go_simp; (try with_reducible rfl))
  (try simp only [Act.put, List.setIfInBounds_toArray, List.set_cons_zero, List.set_cons_succ])
  refine Man.take1 (i := 43) (v := ?_) rfl (by kernel_rfl) (by kernel_rfl) (by kernel_rfl) (fun _ _ _ h => h) (by rfl) ?_ (by assumption) ?_
  rotate_left
  · (intro u hSu; (try dsimp only at hSu); go_simp; (try with_reducible rfl))
  (try simp only [Act.put, List.setIfInBounds_toArray, List.set_cons_zero, List.set_cons_succ])
  refine Man.take1 (i := 44) (v := ?_) rfl (by kernel_rfl) (by kernel_rfl) (by kernel_rfl) (fun _ _ _ h => h) (by rfl) ?_ (by assumption) ?_
  rotate_left
  · (intro u hSu; (try dsimp only at hSu); go_simp; (try with_reducible rfl))
  (try simp only [Act.put, List.setIfInBounds_toArray, List.set_cons_zero, List.set_cons_succ])
  refine Man.one (i := 45) rfl (by kernel_rfl) (fun K hK => ?_)
  go_simp
  (go_at_call 6; (with_reducible refine (Rd.known_any _ (And.left hHeld)).mono ?_); rintro e w' ⟨rfl, hb⟩)
  refine hK.out _ _ ?_ (fun hNew => ?_)
  · exact one_step hHeld hb
  clear hHeld hK K hb
  have hHeld := hNew
  clear hNew
  (try simp only [Act.put, List.setIfInBounds_toArray, List.set_cons_zero, List.set_cons_succ])
  refine Man.take1 (i := 46) (v := ?_) rfl (by kernel_rfl) (by kernel_rfl) (by kernel_rfl) (fun _ _ _ h => h) (by rfl) ?_ (by assumption) ?_
  rotate_left
  · (intro u hSu; (try dsimp only at hSu); go_simp; (try with_reducible rfl))
  (try simp only [Act.put, List.setIfInBounds_toArray, List.set_cons_zero, List.set_cons_succ])
  refine Man.take1 (i := 47) (v := ?_) rfl (by kernel_rfl) (by kernel_rfl) (by kernel_rfl) (fun _ _ _ h => h) (by rfl) ?_ (by assumption) ?_
  rotate_left
  · (intro u hSu; (try dsimp only at hSu); go_simp; (try with_reducible rfl))
  (try simp only [Act.put, List.setIfInBounds_toArray, List.set_cons_zero, List.set_cons_succ])
  refine wpAnyH_done (by kernel_rfl) ?_ _
  obtain ⟨hqe, hqb, hqz, a0, a1, a2, a3, c0, c1, c2, c3⟩ := hHeld
  have QB := Lib.hid hqb
  clear hqe hqb SS SD
  go_wp2_with fail
  go_ret
  exact ⟨rfl, QB.out⟩
set_option maxHeartbeats 8000000 in
set_option maxRecDepth 100000 in
theorem te_t1 (n : Int) (b : Nat) (s : ByteArray) (k2 n2 : Int) (b2 : Nat) (s2 : ByteArray) (w : World) (he : Val.Env w) (g1 : decide ((5000 : Int) < s.size) = false) (g2 : decide ((5000 : Int) < s2.size) = false) (hb_ : Hid (b < 18446744073709551616)) (hb2_ : Hid (b2 < 18446744073709551616)) (hs_ : Hid (s.size ≤ 35184372088832)) (hs2_ : Hid (s2.size ≤ 35184372088832)) (h0 : Hid (-9223372036854775808 ≤ n)) (h1 : Hid (n ≤ 9223372036854775807)) (T : ByteArray) (hT : Hid (T.data.toList = Val.showL 1 n b s)) (cv : Int) (hcv : Hid (Val.cmpV 1 n b s k2 n2 b2 s2 = cv)) (ra : Hid (Val.rightB 1 n b s = true)) (rb : Hid (Val.rightB k2 n2 b2 s2 = true)) (gq : Val.eqV 1 n b s k2 n2 b2 s2 = true) (hsm : Hid (Val.sameB 1 n b s k2 n2 b2 s2 = true)) (htr : Hid (Val.truthI 1 n b s = n)) : Calls Tryd.prog 3 #[.agg #[.int .i64 1, .int .i64 n, .int .u64 b, .string s], .agg #[.int .i64 k2, .int .i64 n2, .int .u64 b2, .string s2]] w fun e w' => e = .returned (.bool true) ∧ Below w.heap.size w w' := by
  have HE0 := Lib.hid ((he.below ((Below.refl w.heap.size w).alloc (Nat.le_refl _) (.cells #[.int .i64 1, .int .i64 n, .int .u64 b, .string s] 24))).below ((Below.refl (w.alloc (.cells #[.int .i64 1, .int .i64 n, .int .u64 b, .string s] 24)).heap.size (w.alloc (.cells #[.int .i64 1, .int .i64 n, .int .u64 b, .string s] 24))).alloc (Nat.le_refl _) (.cells #[.int .i64 k2, .int .i64 n2, .int .u64 b2, .string s2] 24)))
  have T20 := Lib.hid ((Rd.Box.new w 1 n b s).old (.cells #[.int .i64 k2, .int .i64 n2, .int .u64 b2, .string s2] 24))
  have T30 := Lib.hid (show Rd.Box ((w.alloc (.cells #[.int .i64 1, .int .i64 n, .int .u64 b, .string s] 24)).alloc (.cells #[.int .i64 k2, .int .i64 n2, .int .u64 b2, .string s2] 24)) (w.heap.size + 1) k2 n2 b2 s2 from by have h := Rd.Box.new (w.alloc (.cells #[.int .i64 1, .int .i64 n, .int .u64 b, .string s] 24)) k2 n2 b2 s2; rwa [show (w.alloc (.cells #[.int .i64 1, .int .i64 n, .int .u64 b, .string s] 24)).heap.size = w.heap.size + 1 from by simp] at h)
  have B0 := Lib.hid (((Below.refl w.heap.size w).alloc (Nat.le_refl _) (.cells #[.int .i64 1, .int .i64 n, .int .u64 b, .string s] 24)).alloc (by simp) (.cells #[.int .i64 k2, .int .i64 n2, .int .u64 b2, .string s2] 24))
  have Z0 : w.heap.size ≤ ((w.alloc (.cells #[.int .i64 1, .int .i64 n, .int .u64 b, .string s] 24)).alloc (.cells #[.int .i64 k2, .int .i64 n2, .int .u64 b2, .string s2] 24)).heap.size := by simp; omega
  clear he
  have gs : (T.toList == T.toList) = true := by simp
  go_enter Tryd.func3, Tryd.ntmps3
  go_wp2_with fail
  refine (ref_is 1 n b s hb_.out _ ra.out _).mono ?_
  rintro e w1 ⟨rfl, hbn⟩
  have HE1 := Lib.hid (HE0.out.below hbn)
  have T21 := Lib.hid (T20.out.below hbn)
  have T31 := Lib.hid (T30.out.below hbn)
  have B1 := Lib.hid (B0.out.trans (hbn.mono Z0))
  have Z1 : w.heap.size ≤ w1.heap.size := Nat.le_trans Z0 hbn.size
  clear hbn HE0 B0 Z0 T20 T30
  have q0 := T21.out.c0
  have q1 := T21.out.c1
  have q2 := T21.out.c2
  have q3 := T21.out.c3
  go_wp2_with fail
  have SS : (fun w' => Val.Env w' ∧ Below w.heap.size w w' ∧ w.heap.size ≤ w'.heap.size ∧ w'.cell? ⟨w.heap.size, 0, none⟩ = some (.int .i64 1) ∧ w'.cell? ⟨w.heap.size, 1, none⟩ = some (.int .i64 n) ∧ w'.cell? ⟨w.heap.size, 2, none⟩ = some (.int .u64 b) ∧ w'.cell? ⟨w.heap.size, 3, none⟩ = some (.string s) ∧ w'.cell? ⟨(w.heap.size + 1), 0, none⟩ = some (.int .i64 k2) ∧ w'.cell? ⟨(w.heap.size + 1), 1, none⟩ = some (.int .i64 n2) ∧ w'.cell? ⟨(w.heap.size + 1), 2, none⟩ = some (.int .u64 b2) ∧ w'.cell? ⟨(w.heap.size + 1), 3, none⟩ = some (.string s2)) w1 := ⟨HE1.out, B1.out, Z1, T21.out.c0, T21.out.c1, T21.out.c2, T21.out.c3, T31.out.c0, T31.out.c1, T31.out.c2, T31.out.c3⟩
  clear q0 q1 q2 q3 HE1 B1 Z1 T21 T31
  have SD : (fun w' => Val.Env w' ∧ Below w.heap.size w w' ∧ w.heap.size ≤ w'.heap.size ∧ w'.cell? ⟨w.heap.size, 0, none⟩ = some (.int .i64 1) ∧ w'.cell? ⟨w.heap.size, 1, none⟩ = some (.int .i64 n) ∧ w'.cell? ⟨w.heap.size, 2, none⟩ = some (.int .u64 b) ∧ w'.cell? ⟨w.heap.size, 3, none⟩ = some (.string s) ∧ w'.cell? ⟨(w.heap.size + 1), 0, none⟩ = some (.int .i64 k2) ∧ w'.cell? ⟨(w.heap.size + 1), 1, none⟩ = some (.int .i64 n2) ∧ w'.cell? ⟨(w.heap.size + 1), 2, none⟩ = some (.int .u64 b2) ∧ w'.cell? ⟨(w.heap.size + 1), 3, none⟩ = some (.string s2)) w1.drew := ⟨SS.1.below (Below.refl _ w1).drew, SS.2.1.drew, SS.2.2⟩
  refine wp_region_held_drew (S := fun w' => Val.Env w' ∧ Below w.heap.size w w' ∧ w.heap.size ≤ w'.heap.size ∧ w'.cell? ⟨w.heap.size, 0, none⟩ = some (.int .i64 1) ∧ w'.cell? ⟨w.heap.size, 1, none⟩ = some (.int .i64 n) ∧ w'.cell? ⟨w.heap.size, 2, none⟩ = some (.int .u64 b) ∧ w'.cell? ⟨w.heap.size, 3, none⟩ = some (.string s) ∧ w'.cell? ⟨(w.heap.size + 1), 0, none⟩ = some (.int .i64 k2) ∧ w'.cell? ⟨(w.heap.size + 1), 1, none⟩ = some (.int .i64 n2) ∧ w'.cell? ⟨(w.heap.size + 1), 2, none⟩ = some (.int .u64 b2) ∧ w'.cell? ⟨(w.heap.size + 1), 3, none⟩ = some (.string s2)) (by kernel_rfl) ?_ (fun hHeld => ?_)
  · exact SD
  refine Man.take1 (i := 0) (v := ?_) rfl (by kernel_rfl) (by kernel_rfl) (by kernel_rfl) (fun _ _ _ h => h) (by rfl) ?_ (by assumption) ?_
  rotate_left
  · (intro u hSu; (try dsimp only at hSu); go_simp; (try with_reducible rfl))
  (try simp only [Act.put, List.setIfInBounds_toArray, List.set_cons_zero, List.set_cons_succ])
  refine Man.take1 (i := 2) (v := ?_) rfl (by kernel_rfl) (by kernel_rfl) (by kernel_rfl) (fun _ _ _ h => h) (by rfl) ?_ (by assumption) ?_
  rotate_left
  · (intro u hSu; (try dsimp only at hSu); go_simp; (try with_reducible rfl))
  (try simp only [Act.put, List.setIfInBounds_toArray, List.set_cons_zero, List.set_cons_succ])
  refine Man.one (i := 1) rfl (by kernel_rfl) (fun K hK => ?_)
  go_simp
  (go_at_call 8; (with_reducible refine (right_is 1 n b s _ ra.out _).mono ?_); rintro e w' ⟨rfl, hb⟩)
  refine hK.out _ _ ?_ (fun hNew => ?_)
  · exact one_step hHeld hb
  clear hHeld hK K hb
  have hHeld := hNew
  clear hNew
  (try simp only [Act.put, List.setIfInBounds_toArray, List.set_cons_zero, List.set_cons_succ])
  refine Man.one (i := 3) rfl (by kernel_rfl) (fun K hK => ?_)
  go_simp
  (go_at_call 7; (with_reducible refine (ref_is 1 n b s hb_.out _ ra.out _).mono ?_); rintro e w' ⟨rfl, hb⟩)
  refine hK.out _ _ ?_ (fun hNew => ?_)
  · exact one_step hHeld hb
  clear hHeld hK K hb
  have hHeld := hNew
  clear hNew
  (try simp only [Act.put, List.setIfInBounds_toArray, List.set_cons_zero, List.set_cons_succ])
  refine Man.take1 (i := 4) (v := ?_) rfl (by kernel_rfl) (by kernel_rfl) (by kernel_rfl) (fun _ _ _ h => h) (by rfl) ?_ (by assumption) ?_
  rotate_left
  · (intro u hSu; (try dsimp only at hSu); go_simp; (try with_reducible rfl))
  (try simp only [Act.put, List.setIfInBounds_toArray, List.set_cons_zero, List.set_cons_succ])
  refine Man.take1 (i := 5) (v := ?_) rfl (by kernel_rfl) (by kernel_rfl) (by kernel_rfl) (fun _ _ _ h => h) (by rfl) ?_ (by assumption) ?_
  rotate_left
  · (intro u hSu; (try dsimp only at hSu); go_simp; (try with_reducible rfl))
  (try simp only [Act.put, List.setIfInBounds_toArray, List.set_cons_zero, List.set_cons_succ])
  refine Man.take1 (i := 6) (v := ?_) rfl (by kernel_rfl) (by kernel_rfl) (by kernel_rfl) (fun _ _ _ h => h) (by rfl) ?_ (by assumption) ?_
  rotate_left
  · (intro u hSu; (try dsimp only at hSu); go_simp; (try with_reducible rfl))
  (try simp only [Act.put, List.setIfInBounds_toArray, List.set_cons_zero, List.set_cons_succ])
  refine Man.take1 (i := 7) (v := ?_) rfl (by kernel_rfl) (by kernel_rfl) (by kernel_rfl) (fun _ _ _ h => h) (by rfl) ?_ (by assumption) ?_
  rotate_left
  · (intro u hSu; (try dsimp only at hSu); go_simp; (try with_reducible rfl))
  (try simp only [Act.put, List.setIfInBounds_toArray, List.set_cons_zero, List.set_cons_succ])
  refine Man.take1 (i := 9) (v := ?_) rfl (by kernel_rfl) (by kernel_rfl) (by kernel_rfl) (fun _ _ _ h => h) (by rfl) ?_ (by assumption) ?_
  rotate_left
  · (intro u hSu; (try dsimp only at hSu); go_simp; (try with_reducible rfl))
  (try simp only [Act.put, List.setIfInBounds_toArray, List.set_cons_zero, List.set_cons_succ])
  refine Man.take1 (i := 10) (v := ?_) rfl (by kernel_rfl) (by kernel_rfl) (by kernel_rfl) (fun _ _ _ h => h) (by rfl) ?_ (by assumption) ?_
  rotate_left
  · (intro u hSu; (try dsimp only at hSu); go_simp; (try with_reducible rfl))
  (try simp only [Act.put, List.setIfInBounds_toArray, List.set_cons_zero, List.set_cons_succ])
  refine Man.one (i := 8) rfl (by kernel_rfl) (fun K hK => ?_)
  go_simp
  (go_at_call 9; (with_reducible refine (cmp_is 1 n b s k2 n2 b2 s2 cv hcv.out _).mono ?_); rintro e w' ⟨rfl, hb⟩)
  refine hK.out _ _ ?_ (fun hNew => ?_)
  · exact one_step hHeld hb
  clear hHeld hK K hb
  have hHeld := hNew
  clear hNew
  (try simp only [Act.put, List.setIfInBounds_toArray, List.set_cons_zero, List.set_cons_succ])
  refine Man.one (i := 11) rfl (by kernel_rfl) (fun K hK => ?_)
  go_simp
  (go_at_call 10; (with_reducible refine (rcmp_is 1 n b s k2 n2 b2 s2 hb_.out hb2_.out hs_.out hs2_.out cv hcv.out _).mono ?_); rintro e w' ⟨rfl, hb⟩)
  refine hK.out _ _ ?_ (fun hNew => ?_)
  · exact one_step hHeld hb
  clear hHeld hK K hb
  have hHeld := hNew
  clear hNew
  (try simp only [Act.put, List.setIfInBounds_toArray, List.set_cons_zero, List.set_cons_succ])
  refine Man.take1 (i := 12) (v := ?_) rfl (by kernel_rfl) (by kernel_rfl) (by kernel_rfl) (fun _ _ _ h => h) (by rfl) ?_ (by assumption) ?_
  rotate_left
  · (intro u hSu; (try dsimp only at hSu); go_simp; (try with_reducible rfl))
  (try simp only [Act.put, List.setIfInBounds_toArray, List.set_cons_zero, List.set_cons_succ])
  refine Man.take1 (i := 13) (v := ?_) rfl (by kernel_rfl) (by kernel_rfl) (by kernel_rfl) (fun _ _ _ h => h) (by rfl) ?_ (by assumption) ?_
  rotate_left
  · (intro u hSu; (try dsimp only at hSu); go_simp; (try with_reducible rfl))
  (try simp only [Act.put, List.setIfInBounds_toArray, List.set_cons_zero, List.set_cons_succ])
  refine Man.take1 (i := 14) (v := ?_) rfl (by kernel_rfl) (by kernel_rfl) (by kernel_rfl) (fun _ _ _ h => h) (by rfl) ?_ (by assumption) ?_
  rotate_left
  · (intro u hSu; (try dsimp only at hSu); go_simp; (try with_reducible rfl))
  (try simp only [Act.put, List.setIfInBounds_toArray, List.set_cons_zero, List.set_cons_succ])
  refine Man.take1 (i := 15) (v := ?_) rfl (by kernel_rfl) (by kernel_rfl) (by kernel_rfl) (fun _ _ _ h => h) (by rfl) ?_ (by assumption) ?_
  rotate_left
  · (intro u hSu; (try dsimp only at hSu); go_simp; (try with_reducible rfl))
  (try simp only [Act.put, List.setIfInBounds_toArray, List.set_cons_zero, List.set_cons_succ])
  refine Man.take1 (i := 16) (v := ?_) rfl (by kernel_rfl) (by kernel_rfl) (by kernel_rfl) (fun _ _ _ h => h) (by rfl) ?_ (by assumption) ?_
  rotate_left
  · (intro u hSu; (try dsimp only at hSu); go_simp; (try with_reducible rfl))
  (try simp only [Act.put, List.setIfInBounds_toArray, List.set_cons_zero, List.set_cons_succ])
  refine Man.take1 (i := 18) (v := ?_) rfl (by kernel_rfl) (by kernel_rfl) (by kernel_rfl) (fun _ _ _ h => h) (by rfl) ?_ (by assumption) ?_
  rotate_left
  · (intro u hSu; (try dsimp only at hSu); go_simp; (try with_reducible rfl))
  (try simp only [Act.put, List.setIfInBounds_toArray, List.set_cons_zero, List.set_cons_succ])
  refine Man.one (i := 17) rfl (by kernel_rfl) (fun K hK => ?_)
  go_simp
  (go_at_call 11; (with_reducible refine (same_is 1 n b s k2 n2 b2 s2 _ hsm.out _).mono ?_); rintro e w' ⟨rfl, hb⟩)
  refine hK.out _ _ ?_ (fun hNew => ?_)
  · exact one_step hHeld hb
  clear hHeld hK K hb
  have hHeld := hNew
  clear hNew
  (try simp only [Act.put, List.setIfInBounds_toArray, List.set_cons_zero, List.set_cons_succ])
  refine Man.one (i := 19) rfl (by kernel_rfl) (fun K hK => ?_)
  go_simp
  (go_at_call 7; (with_reducible refine (ref_is 1 n b s hb_.out _ ra.out _).mono ?_); rintro e w' ⟨rfl, hb⟩)
  refine hK.out _ _ ?_ (fun hNew => ?_)
  · exact one_step hHeld hb
  clear hHeld hK K hb
  have hHeld := hNew
  clear hNew
  (try simp only [Act.put, List.setIfInBounds_toArray, List.set_cons_zero, List.set_cons_succ])
  refine Man.take1 (i := 20) (v := ?_) rfl (by kernel_rfl) (by kernel_rfl) (by kernel_rfl) (fun _ _ _ h => h) (by rfl) ?_ (by assumption) ?_
  rotate_left
  · (intro u hSu; (try dsimp only at hSu); go_simp; (try with_reducible rfl))
  (try simp only [Act.put, List.setIfInBounds_toArray, List.set_cons_zero, List.set_cons_succ])
  refine Man.take1 (i := 21) (v := ?_) rfl (by kernel_rfl) (by kernel_rfl) (by kernel_rfl) (fun _ _ _ h => h) (by rfl) ?_ (by assumption) ?_
  rotate_left
  · (intro u hSu; (try dsimp only at hSu); go_simp; (try with_reducible rfl))
  (try simp only [Act.put, List.setIfInBounds_toArray, List.set_cons_zero, List.set_cons_succ])
  refine Man.one (i := 22) rfl (by kernel_rfl) (fun K hK => ?_)
  go_simp
  (go_at_call 7; (with_reducible refine (ref_is k2 n2 b2 s2 hb2_.out _ rb.out _).mono ?_); rintro e w' ⟨rfl, hb⟩)
  refine hK.out _ _ ?_ (fun hNew => ?_)
  · exact one_step hHeld hb
  clear hHeld hK K hb
  have hHeld := hNew
  clear hNew
  (try simp only [Act.put, List.setIfInBounds_toArray, List.set_cons_zero, List.set_cons_succ])
  refine Man.take1 (i := 23) (v := ?_) rfl (by kernel_rfl) (by kernel_rfl) (by kernel_rfl) (fun _ _ _ h => h) (by rfl) ?_ (by assumption) ?_
  rotate_left
  · (intro u hSu; (try dsimp only at hSu); go_simp; (try with_reducible rfl))
  (try simp only [Act.put, List.setIfInBounds_toArray, List.set_cons_zero, List.set_cons_succ])
  refine Man.take1 (i := 24) (v := ?_) rfl (by kernel_rfl) (by kernel_rfl) (by kernel_rfl) (fun _ _ _ h => h) (by rfl) ?_ (by assumption) ?_
  rotate_left
  · (intro u hSu; (try dsimp only at hSu); go_simp; (try with_reducible rfl))
  (try simp only [Act.put, List.setIfInBounds_toArray, List.set_cons_zero, List.set_cons_succ])
  refine Man.take1 (i := 25) (v := ?_) rfl (by kernel_rfl) (by kernel_rfl) (by kernel_rfl) (fun _ _ _ h => h) (by rfl) ?_ (by assumption) ?_
  rotate_left
  · (intro u hSu; (try dsimp only at hSu); go_simp; (try with_reducible rfl))
  (try simp only [Act.put, List.setIfInBounds_toArray, List.set_cons_zero, List.set_cons_succ])
  refine Man.take1 (i := 26) (v := ?_) rfl (by kernel_rfl) (by kernel_rfl) (by kernel_rfl) (fun _ _ _ h => h) (by rfl) ?_ (by assumption) ?_
  rotate_left
  · (intro u hSu; (try dsimp only at hSu); go_simp; (try with_reducible rfl))
  (try simp only [Act.put, List.setIfInBounds_toArray, List.set_cons_zero, List.set_cons_succ])
  refine Man.take1 (i := 27) (v := ?_) rfl (by kernel_rfl) (by kernel_rfl) (by kernel_rfl) (fun _ _ _ h => h) (by rfl) ?_ (by assumption) ?_
  rotate_left
  · (intro u hSu; (try dsimp only at hSu); go_simp; (try with_reducible rfl))
  (try simp only [Act.put, List.setIfInBounds_toArray, List.set_cons_zero, List.set_cons_succ])
  refine Man.take1 (i := 28) (v := ?_) rfl (by kernel_rfl) (by kernel_rfl) (by kernel_rfl) (fun _ _ _ h => h) (by rfl) ?_ (by assumption) ?_
  rotate_left
  · (intro u hSu; (try dsimp only at hSu); go_simp; (try with_reducible rfl))
  (try simp only [Act.put, List.setIfInBounds_toArray, List.set_cons_zero, List.set_cons_succ])
  refine Man.take1 (i := 29) (v := ?_) rfl (by kernel_rfl) (by kernel_rfl) (by kernel_rfl) (fun _ _ _ h => h) (by rfl) ?_ (by assumption) ?_
  rotate_left
  · (intro u hSu; (try dsimp only at hSu); go_simp; (try with_reducible rfl))
  (try simp only [Act.put, List.setIfInBounds_toArray, List.set_cons_zero, List.set_cons_succ])
  refine Man.take1 (i := 30) (v := ?_) rfl (by kernel_rfl) (by kernel_rfl) (by kernel_rfl) (fun _ _ _ h => h) (by rfl) ?_ (by assumption) ?_
  rotate_left
  · (intro u hSu; (try dsimp only at hSu); go_simp; (try with_reducible rfl))
  (try simp only [Act.put, List.setIfInBounds_toArray, List.set_cons_zero, List.set_cons_succ])
  refine Man.take1 (i := 31) (v := ?_) rfl (by kernel_rfl) (by kernel_rfl) (by kernel_rfl) (fun _ _ _ h => h) (by rfl) ?_ (by assumption) ?_
  rotate_left
  · (intro u hSu; (try dsimp only at hSu); go_simp; (try with_reducible rfl))
  (try simp only [Act.put, List.setIfInBounds_toArray, List.set_cons_zero, List.set_cons_succ])
  refine Man.take1 (i := 32) (v := ?_) rfl (by kernel_rfl) (by kernel_rfl) (by kernel_rfl) (fun _ _ _ h => h) (by rfl) ?_ (by assumption) ?_
  rotate_left
  · (intro u hSu; (try dsimp only at hSu); go_simp; (try with_reducible rfl))
  (try simp only [Act.put, List.setIfInBounds_toArray, List.set_cons_zero, List.set_cons_succ])
  refine Man.take1 (i := 34) (v := ?_) rfl (by kernel_rfl) (by kernel_rfl) (by kernel_rfl) (fun _ _ _ h => h) (by rfl) ?_ (by assumption) ?_
  rotate_left
  · (intro u hSu; (try dsimp only at hSu); go_simp; (try with_reducible rfl))
  (try simp only [Act.put, List.setIfInBounds_toArray, List.set_cons_zero, List.set_cons_succ])
  refine Man.one (i := 33) rfl (by kernel_rfl) (fun K hK => ?_)
  go_simp
  (go_at_call 12; (with_reducible refine (show_is 1 n b s T h0.out h1.out hb_.out hT.out _ (And.left hHeld)).mono ?_); rintro e w' ⟨rfl, hb⟩)
  refine hK.out _ _ ?_ (fun hNew => ?_)
  · exact one_step hHeld hb
  clear hHeld hK K hb
  have hHeld := hNew
  clear hNew
  (try simp only [Act.put, List.setIfInBounds_toArray, List.set_cons_zero, List.set_cons_succ])
  refine Man.one (i := 35) rfl (by kernel_rfl) (fun K hK => ?_)
  go_simp
  (go_at_call 13; (with_reducible refine (rshow_is 1 n b s T hb_.out h0.out h1.out hT.out _).mono ?_); rintro e w' ⟨rfl, hb⟩)
  refine hK.out _ _ ?_ (fun hNew => ?_)
  · exact one_step hHeld hb
  clear hHeld hK K hb
  have hHeld := hNew
  clear hNew
  (try simp only [Act.put, List.setIfInBounds_toArray, List.set_cons_zero, List.set_cons_succ])
  refine Man.take1 (i := 36) (v := ?_) rfl (by kernel_rfl) (by kernel_rfl) (by kernel_rfl) (fun _ _ _ h => h) (by rfl) ?_ (by assumption) ?_
  rotate_left
  · (intro u hSu; (try dsimp only at hSu); go_simp; (try with_reducible rfl))
  (try simp only [Act.put, List.setIfInBounds_toArray, List.set_cons_zero, List.set_cons_succ])
  refine Man.take1 (i := 37) (v := ?_) rfl (by kernel_rfl) (by kernel_rfl) (by kernel_rfl) (fun _ _ _ h => h) (by rfl) ?_ (by assumption) ?_
  rotate_left
  · (intro u hSu; (try dsimp only at hSu); go_simp; (try with_reducible rfl))
  (try simp only [Act.put, List.setIfInBounds_toArray, List.set_cons_zero, List.set_cons_succ])
  refine Man.take1 (i := 38) (v := ?_) rfl (by kernel_rfl) (by kernel_rfl) (by kernel_rfl) (fun _ _ _ h => h) (by rfl) ?_ (by assumption) ?_
  rotate_left
  · (intro u hSu; (try dsimp only at hSu); go_simp; (try with_reducible rfl))
  (try simp only [Act.put, List.setIfInBounds_toArray, List.set_cons_zero, List.set_cons_succ])
  refine Man.take1 (i := 39) (v := ?_) rfl (by kernel_rfl) (by kernel_rfl) (by kernel_rfl) (fun _ _ _ h => h) (by rfl) ?_ (by assumption) ?_
  rotate_left
  · (intro u hSu; (try dsimp only at hSu); go_simp; (try with_reducible rfl))
  (try simp only [Act.put, List.setIfInBounds_toArray, List.set_cons_zero, List.set_cons_succ])
  refine Man.take1 (i := 41) (v := ?_) rfl (by kernel_rfl) (by kernel_rfl) (by kernel_rfl) (fun _ _ _ h => h) (by rfl) ?_ (by assumption) ?_
  rotate_left
  · (intro u hSu; (try dsimp only at hSu); go_simp; (try with_reducible rfl))
  (try simp only [Act.put, List.setIfInBounds_toArray, List.set_cons_zero, List.set_cons_succ])
  refine Man.one (i := 40) rfl (by kernel_rfl) (fun K hK => ?_)
  go_simp
  (go_at_call 14; (with_reducible refine (truth_is 1 n b s _ htr.out _).mono ?_); rintro e w' ⟨rfl, hb⟩)
  refine hK.out _ _ ?_ (fun hNew => ?_)
  · exact one_step hHeld hb
  clear hHeld hK K hb
  have hHeld := hNew
  clear hNew
  (try simp only [Act.put, List.setIfInBounds_toArray, List.set_cons_zero, List.set_cons_succ])
  refine Man.take1 (i := 42) (v := ?_) rfl (by kernel_rfl) (by kernel_rfl) (by kernel_rfl) (fun _ _ _ h => h) (by rfl) ?_ (by assumption) ?_
  rotate_left
  · (intro u hSu; (try dsimp only at hSu); go_simp; (try with_reducible rfl))
  (try simp only [Act.put, List.setIfInBounds_toArray, List.set_cons_zero, List.set_cons_succ])
  refine Man.take1 (i := 43) (v := ?_) rfl (by kernel_rfl) (by kernel_rfl) (by kernel_rfl) (fun _ _ _ h => h) (by rfl) ?_ (by assumption) ?_
  rotate_left
  · (intro u hSu; (try dsimp only at hSu); go_simp; (try with_reducible rfl))
  (try simp only [Act.put, List.setIfInBounds_toArray, List.set_cons_zero, List.set_cons_succ])
  refine Man.take1 (i := 44) (v := ?_) rfl (by kernel_rfl) (by kernel_rfl) (by kernel_rfl) (fun _ _ _ h => h) (by rfl) ?_ (by assumption) ?_
  rotate_left
  · (intro u hSu; (try dsimp only at hSu); go_simp; (try with_reducible rfl))
  (try simp only [Act.put, List.setIfInBounds_toArray, List.set_cons_zero, List.set_cons_succ])
  refine Man.one (i := 45) rfl (by kernel_rfl) (fun K hK => ?_)
  go_simp
  (go_at_call 6; (with_reducible refine (Rd.known_any _ (And.left hHeld)).mono ?_); rintro e w' ⟨rfl, hb⟩)
  refine hK.out _ _ ?_ (fun hNew => ?_)
  · exact one_step hHeld hb
  clear hHeld hK K hb
  have hHeld := hNew
  clear hNew
  (try simp only [Act.put, List.setIfInBounds_toArray, List.set_cons_zero, List.set_cons_succ])
  refine Man.take1 (i := 46) (v := ?_) rfl (by kernel_rfl) (by kernel_rfl) (by kernel_rfl) (fun _ _ _ h => h) (by rfl) ?_ (by assumption) ?_
  rotate_left
  · (intro u hSu; (try dsimp only at hSu); go_simp; (try with_reducible rfl))
  (try simp only [Act.put, List.setIfInBounds_toArray, List.set_cons_zero, List.set_cons_succ])
  refine Man.take1 (i := 47) (v := ?_) rfl (by kernel_rfl) (by kernel_rfl) (by kernel_rfl) (fun _ _ _ h => h) (by rfl) ?_ (by assumption) ?_
  rotate_left
  · (intro u hSu; (try dsimp only at hSu); go_simp; (try with_reducible rfl))
  (try simp only [Act.put, List.setIfInBounds_toArray, List.set_cons_zero, List.set_cons_succ])
  refine wpAnyH_done (by kernel_rfl) ?_ _
  obtain ⟨hqe, hqb, hqz, a0, a1, a2, a3, c0, c1, c2, c3⟩ := hHeld
  have QB := Lib.hid hqb
  clear hqe hqb SS SD
  go_wp2_with fail
  go_ret
  exact ⟨rfl, QB.out⟩
set_option maxHeartbeats 8000000 in
set_option maxRecDepth 100000 in
theorem te_tn (k : Int) (n : Int) (b : Nat) (s : ByteArray) (k2 n2 : Int) (b2 : Nat) (s2 : ByteArray) (w : World) (he : Val.Env w) (g1 : decide ((5000 : Int) < s.size) = false) (g2 : decide ((5000 : Int) < s2.size) = false) (hb_ : Hid (b < 18446744073709551616)) (hb2_ : Hid (b2 < 18446744073709551616)) (hs_ : Hid (s.size ≤ 35184372088832)) (hs2_ : Hid (s2.size ≤ 35184372088832)) (h0 : Hid (-9223372036854775808 ≤ n)) (h1 : Hid (n ≤ 9223372036854775807)) (T : ByteArray) (hT : Hid (T.data.toList = Val.showL k n b s)) (cv : Int) (hcv : Hid (Val.cmpV k n b s k2 n2 b2 s2 = cv)) (ra : Hid (Val.rightB k n b s = true)) (rb : Hid (Val.rightB k2 n2 b2 s2 = true)) (gq : Val.eqV k n b s k2 n2 b2 s2 = true) (hsm : Hid (Val.sameB k n b s k2 n2 b2 s2 = true)) (htr : Hid (Val.truthI k n b s = (-1))) (gk : (k == (1 : Int)) = false) : Calls Tryd.prog 3 #[.agg #[.int .i64 k, .int .i64 n, .int .u64 b, .string s], .agg #[.int .i64 k2, .int .i64 n2, .int .u64 b2, .string s2]] w fun e w' => e = .returned (.bool true) ∧ Below w.heap.size w w' := by
  have HE0 := Lib.hid ((he.below ((Below.refl w.heap.size w).alloc (Nat.le_refl _) (.cells #[.int .i64 k, .int .i64 n, .int .u64 b, .string s] 24))).below ((Below.refl (w.alloc (.cells #[.int .i64 k, .int .i64 n, .int .u64 b, .string s] 24)).heap.size (w.alloc (.cells #[.int .i64 k, .int .i64 n, .int .u64 b, .string s] 24))).alloc (Nat.le_refl _) (.cells #[.int .i64 k2, .int .i64 n2, .int .u64 b2, .string s2] 24)))
  have T20 := Lib.hid ((Rd.Box.new w k n b s).old (.cells #[.int .i64 k2, .int .i64 n2, .int .u64 b2, .string s2] 24))
  have T30 := Lib.hid (show Rd.Box ((w.alloc (.cells #[.int .i64 k, .int .i64 n, .int .u64 b, .string s] 24)).alloc (.cells #[.int .i64 k2, .int .i64 n2, .int .u64 b2, .string s2] 24)) (w.heap.size + 1) k2 n2 b2 s2 from by have h := Rd.Box.new (w.alloc (.cells #[.int .i64 k, .int .i64 n, .int .u64 b, .string s] 24)) k2 n2 b2 s2; rwa [show (w.alloc (.cells #[.int .i64 k, .int .i64 n, .int .u64 b, .string s] 24)).heap.size = w.heap.size + 1 from by simp] at h)
  have B0 := Lib.hid (((Below.refl w.heap.size w).alloc (Nat.le_refl _) (.cells #[.int .i64 k, .int .i64 n, .int .u64 b, .string s] 24)).alloc (by simp) (.cells #[.int .i64 k2, .int .i64 n2, .int .u64 b2, .string s2] 24))
  have Z0 : w.heap.size ≤ ((w.alloc (.cells #[.int .i64 k, .int .i64 n, .int .u64 b, .string s] 24)).alloc (.cells #[.int .i64 k2, .int .i64 n2, .int .u64 b2, .string s2] 24)).heap.size := by simp; omega
  clear he
  have gs : (T.toList == T.toList) = true := by simp
  go_enter Tryd.func3, Tryd.ntmps3
  go_wp2_with fail
  refine (ref_is k n b s hb_.out _ ra.out _).mono ?_
  rintro e w1 ⟨rfl, hbn⟩
  have HE1 := Lib.hid (HE0.out.below hbn)
  have T21 := Lib.hid (T20.out.below hbn)
  have T31 := Lib.hid (T30.out.below hbn)
  have B1 := Lib.hid (B0.out.trans (hbn.mono Z0))
  have Z1 : w.heap.size ≤ w1.heap.size := Nat.le_trans Z0 hbn.size
  clear hbn HE0 B0 Z0 T20 T30
  have q0 := T21.out.c0
  have q1 := T21.out.c1
  have q2 := T21.out.c2
  have q3 := T21.out.c3
  go_wp2_with fail
  have SS : (fun w' => Val.Env w' ∧ Below w.heap.size w w' ∧ w.heap.size ≤ w'.heap.size ∧ w'.cell? ⟨w.heap.size, 0, none⟩ = some (.int .i64 k) ∧ w'.cell? ⟨w.heap.size, 1, none⟩ = some (.int .i64 n) ∧ w'.cell? ⟨w.heap.size, 2, none⟩ = some (.int .u64 b) ∧ w'.cell? ⟨w.heap.size, 3, none⟩ = some (.string s) ∧ w'.cell? ⟨(w.heap.size + 1), 0, none⟩ = some (.int .i64 k2) ∧ w'.cell? ⟨(w.heap.size + 1), 1, none⟩ = some (.int .i64 n2) ∧ w'.cell? ⟨(w.heap.size + 1), 2, none⟩ = some (.int .u64 b2) ∧ w'.cell? ⟨(w.heap.size + 1), 3, none⟩ = some (.string s2)) w1 := ⟨HE1.out, B1.out, Z1, T21.out.c0, T21.out.c1, T21.out.c2, T21.out.c3, T31.out.c0, T31.out.c1, T31.out.c2, T31.out.c3⟩
  clear q0 q1 q2 q3 HE1 B1 Z1 T21 T31
  have SD : (fun w' => Val.Env w' ∧ Below w.heap.size w w' ∧ w.heap.size ≤ w'.heap.size ∧ w'.cell? ⟨w.heap.size, 0, none⟩ = some (.int .i64 k) ∧ w'.cell? ⟨w.heap.size, 1, none⟩ = some (.int .i64 n) ∧ w'.cell? ⟨w.heap.size, 2, none⟩ = some (.int .u64 b) ∧ w'.cell? ⟨w.heap.size, 3, none⟩ = some (.string s) ∧ w'.cell? ⟨(w.heap.size + 1), 0, none⟩ = some (.int .i64 k2) ∧ w'.cell? ⟨(w.heap.size + 1), 1, none⟩ = some (.int .i64 n2) ∧ w'.cell? ⟨(w.heap.size + 1), 2, none⟩ = some (.int .u64 b2) ∧ w'.cell? ⟨(w.heap.size + 1), 3, none⟩ = some (.string s2)) w1.drew := ⟨SS.1.below (Below.refl _ w1).drew, SS.2.1.drew, SS.2.2⟩
  refine wp_region_held_drew (S := fun w' => Val.Env w' ∧ Below w.heap.size w w' ∧ w.heap.size ≤ w'.heap.size ∧ w'.cell? ⟨w.heap.size, 0, none⟩ = some (.int .i64 k) ∧ w'.cell? ⟨w.heap.size, 1, none⟩ = some (.int .i64 n) ∧ w'.cell? ⟨w.heap.size, 2, none⟩ = some (.int .u64 b) ∧ w'.cell? ⟨w.heap.size, 3, none⟩ = some (.string s) ∧ w'.cell? ⟨(w.heap.size + 1), 0, none⟩ = some (.int .i64 k2) ∧ w'.cell? ⟨(w.heap.size + 1), 1, none⟩ = some (.int .i64 n2) ∧ w'.cell? ⟨(w.heap.size + 1), 2, none⟩ = some (.int .u64 b2) ∧ w'.cell? ⟨(w.heap.size + 1), 3, none⟩ = some (.string s2)) (by kernel_rfl) ?_ (fun hHeld => ?_)
  · exact SD
  refine Man.take1 (i := 0) (v := ?_) rfl (by kernel_rfl) (by kernel_rfl) (by kernel_rfl) (fun _ _ _ h => h) (by rfl) ?_ (by assumption) ?_
  rotate_left
  · (intro u hSu; (try dsimp only at hSu); go_simp; (try with_reducible rfl))
  (try simp only [Act.put, List.setIfInBounds_toArray, List.set_cons_zero, List.set_cons_succ])
  refine Man.take1 (i := 2) (v := ?_) rfl (by kernel_rfl) (by kernel_rfl) (by kernel_rfl) (fun _ _ _ h => h) (by rfl) ?_ (by assumption) ?_
  rotate_left
  · (intro u hSu; (try dsimp only at hSu); go_simp; (try with_reducible rfl))
  (try simp only [Act.put, List.setIfInBounds_toArray, List.set_cons_zero, List.set_cons_succ])
  refine Man.one (i := 1) rfl (by kernel_rfl) (fun K hK => ?_)
  go_simp
  (go_at_call 8; (with_reducible refine (right_is k n b s _ ra.out _).mono ?_); rintro e w' ⟨rfl, hb⟩)
  refine hK.out _ _ ?_ (fun hNew => ?_)
  · exact one_step hHeld hb
  clear hHeld hK K hb
  have hHeld := hNew
  clear hNew
  (try simp only [Act.put, List.setIfInBounds_toArray, List.set_cons_zero, List.set_cons_succ])
  refine Man.one (i := 3) rfl (by kernel_rfl) (fun K hK => ?_)
  go_simp
  (go_at_call 7; (with_reducible refine (ref_is k n b s hb_.out _ ra.out _).mono ?_); rintro e w' ⟨rfl, hb⟩)
  refine hK.out _ _ ?_ (fun hNew => ?_)
  · exact one_step hHeld hb
  clear hHeld hK K hb
  have hHeld := hNew
  clear hNew
  (try simp only [Act.put, List.setIfInBounds_toArray, List.set_cons_zero, List.set_cons_succ])
  refine Man.take1 (i := 4) (v := ?_) rfl (by kernel_rfl) (by kernel_rfl) (by kernel_rfl) (fun _ _ _ h => h) (by rfl) ?_ (by assumption) ?_
  rotate_left
  · (intro u hSu; (try dsimp only at hSu); go_simp; (try with_reducible rfl))
  (try simp only [Act.put, List.setIfInBounds_toArray, List.set_cons_zero, List.set_cons_succ])
  refine Man.take1 (i := 5) (v := ?_) rfl (by kernel_rfl) (by kernel_rfl) (by kernel_rfl) (fun _ _ _ h => h) (by rfl) ?_ (by assumption) ?_
  rotate_left
  · (intro u hSu; (try dsimp only at hSu); go_simp; (try with_reducible rfl))
  (try simp only [Act.put, List.setIfInBounds_toArray, List.set_cons_zero, List.set_cons_succ])
  refine Man.take1 (i := 6) (v := ?_) rfl (by kernel_rfl) (by kernel_rfl) (by kernel_rfl) (fun _ _ _ h => h) (by rfl) ?_ (by assumption) ?_
  rotate_left
  · (intro u hSu; (try dsimp only at hSu); go_simp; (try with_reducible rfl))
  (try simp only [Act.put, List.setIfInBounds_toArray, List.set_cons_zero, List.set_cons_succ])
  refine Man.take1 (i := 7) (v := ?_) rfl (by kernel_rfl) (by kernel_rfl) (by kernel_rfl) (fun _ _ _ h => h) (by rfl) ?_ (by assumption) ?_
  rotate_left
  · (intro u hSu; (try dsimp only at hSu); go_simp; (try with_reducible rfl))
  (try simp only [Act.put, List.setIfInBounds_toArray, List.set_cons_zero, List.set_cons_succ])
  refine Man.take1 (i := 9) (v := ?_) rfl (by kernel_rfl) (by kernel_rfl) (by kernel_rfl) (fun _ _ _ h => h) (by rfl) ?_ (by assumption) ?_
  rotate_left
  · (intro u hSu; (try dsimp only at hSu); go_simp; (try with_reducible rfl))
  (try simp only [Act.put, List.setIfInBounds_toArray, List.set_cons_zero, List.set_cons_succ])
  refine Man.take1 (i := 10) (v := ?_) rfl (by kernel_rfl) (by kernel_rfl) (by kernel_rfl) (fun _ _ _ h => h) (by rfl) ?_ (by assumption) ?_
  rotate_left
  · (intro u hSu; (try dsimp only at hSu); go_simp; (try with_reducible rfl))
  (try simp only [Act.put, List.setIfInBounds_toArray, List.set_cons_zero, List.set_cons_succ])
  refine Man.one (i := 8) rfl (by kernel_rfl) (fun K hK => ?_)
  go_simp
  (go_at_call 9; (with_reducible refine (cmp_is k n b s k2 n2 b2 s2 cv hcv.out _).mono ?_); rintro e w' ⟨rfl, hb⟩)
  refine hK.out _ _ ?_ (fun hNew => ?_)
  · exact one_step hHeld hb
  clear hHeld hK K hb
  have hHeld := hNew
  clear hNew
  (try simp only [Act.put, List.setIfInBounds_toArray, List.set_cons_zero, List.set_cons_succ])
  refine Man.one (i := 11) rfl (by kernel_rfl) (fun K hK => ?_)
  go_simp
  (go_at_call 10; (with_reducible refine (rcmp_is k n b s k2 n2 b2 s2 hb_.out hb2_.out hs_.out hs2_.out cv hcv.out _).mono ?_); rintro e w' ⟨rfl, hb⟩)
  refine hK.out _ _ ?_ (fun hNew => ?_)
  · exact one_step hHeld hb
  clear hHeld hK K hb
  have hHeld := hNew
  clear hNew
  (try simp only [Act.put, List.setIfInBounds_toArray, List.set_cons_zero, List.set_cons_succ])
  refine Man.take1 (i := 12) (v := ?_) rfl (by kernel_rfl) (by kernel_rfl) (by kernel_rfl) (fun _ _ _ h => h) (by rfl) ?_ (by assumption) ?_
  rotate_left
  · (intro u hSu; (try dsimp only at hSu); go_simp; (try with_reducible rfl))
  (try simp only [Act.put, List.setIfInBounds_toArray, List.set_cons_zero, List.set_cons_succ])
  refine Man.take1 (i := 13) (v := ?_) rfl (by kernel_rfl) (by kernel_rfl) (by kernel_rfl) (fun _ _ _ h => h) (by rfl) ?_ (by assumption) ?_
  rotate_left
  · (intro u hSu; (try dsimp only at hSu); go_simp; (try with_reducible rfl))
  (try simp only [Act.put, List.setIfInBounds_toArray, List.set_cons_zero, List.set_cons_succ])
  refine Man.take1 (i := 14) (v := ?_) rfl (by kernel_rfl) (by kernel_rfl) (by kernel_rfl) (fun _ _ _ h => h) (by rfl) ?_ (by assumption) ?_
  rotate_left
  · (intro u hSu; (try dsimp only at hSu); go_simp; (try with_reducible rfl))
  (try simp only [Act.put, List.setIfInBounds_toArray, List.set_cons_zero, List.set_cons_succ])
  refine Man.take1 (i := 15) (v := ?_) rfl (by kernel_rfl) (by kernel_rfl) (by kernel_rfl) (fun _ _ _ h => h) (by rfl) ?_ (by assumption) ?_
  rotate_left
  · (intro u hSu; (try dsimp only at hSu); go_simp; (try with_reducible rfl))
  (try simp only [Act.put, List.setIfInBounds_toArray, List.set_cons_zero, List.set_cons_succ])
  refine Man.take1 (i := 16) (v := ?_) rfl (by kernel_rfl) (by kernel_rfl) (by kernel_rfl) (fun _ _ _ h => h) (by rfl) ?_ (by assumption) ?_
  rotate_left
  · (intro u hSu; (try dsimp only at hSu); go_simp; (try with_reducible rfl))
  (try simp only [Act.put, List.setIfInBounds_toArray, List.set_cons_zero, List.set_cons_succ])
  refine Man.take1 (i := 18) (v := ?_) rfl (by kernel_rfl) (by kernel_rfl) (by kernel_rfl) (fun _ _ _ h => h) (by rfl) ?_ (by assumption) ?_
  rotate_left
  · (intro u hSu; (try dsimp only at hSu); go_simp; (try with_reducible rfl))
  (try simp only [Act.put, List.setIfInBounds_toArray, List.set_cons_zero, List.set_cons_succ])
  refine Man.one (i := 17) rfl (by kernel_rfl) (fun K hK => ?_)
  go_simp
  (go_at_call 11; (with_reducible refine (same_is k n b s k2 n2 b2 s2 _ hsm.out _).mono ?_); rintro e w' ⟨rfl, hb⟩)
  refine hK.out _ _ ?_ (fun hNew => ?_)
  · exact one_step hHeld hb
  clear hHeld hK K hb
  have hHeld := hNew
  clear hNew
  (try simp only [Act.put, List.setIfInBounds_toArray, List.set_cons_zero, List.set_cons_succ])
  refine Man.one (i := 19) rfl (by kernel_rfl) (fun K hK => ?_)
  go_simp
  (go_at_call 7; (with_reducible refine (ref_is k n b s hb_.out _ ra.out _).mono ?_); rintro e w' ⟨rfl, hb⟩)
  refine hK.out _ _ ?_ (fun hNew => ?_)
  · exact one_step hHeld hb
  clear hHeld hK K hb
  have hHeld := hNew
  clear hNew
  (try simp only [Act.put, List.setIfInBounds_toArray, List.set_cons_zero, List.set_cons_succ])
  refine Man.take1 (i := 20) (v := ?_) rfl (by kernel_rfl) (by kernel_rfl) (by kernel_rfl) (fun _ _ _ h => h) (by rfl) ?_ (by assumption) ?_
  rotate_left
  · (intro u hSu; (try dsimp only at hSu); go_simp; (try with_reducible rfl))
  (try simp only [Act.put, List.setIfInBounds_toArray, List.set_cons_zero, List.set_cons_succ])
  refine Man.take1 (i := 21) (v := ?_) rfl (by kernel_rfl) (by kernel_rfl) (by kernel_rfl) (fun _ _ _ h => h) (by rfl) ?_ (by assumption) ?_
  rotate_left
  · (intro u hSu; (try dsimp only at hSu); go_simp; (try with_reducible rfl))
  (try simp only [Act.put, List.setIfInBounds_toArray, List.set_cons_zero, List.set_cons_succ])
  refine Man.one (i := 22) rfl (by kernel_rfl) (fun K hK => ?_)
  go_simp
  (go_at_call 7; (with_reducible refine (ref_is k2 n2 b2 s2 hb2_.out _ rb.out _).mono ?_); rintro e w' ⟨rfl, hb⟩)
  refine hK.out _ _ ?_ (fun hNew => ?_)
  · exact one_step hHeld hb
  clear hHeld hK K hb
  have hHeld := hNew
  clear hNew
  (try simp only [Act.put, List.setIfInBounds_toArray, List.set_cons_zero, List.set_cons_succ])
  refine Man.take1 (i := 23) (v := ?_) rfl (by kernel_rfl) (by kernel_rfl) (by kernel_rfl) (fun _ _ _ h => h) (by rfl) ?_ (by assumption) ?_
  rotate_left
  · (intro u hSu; (try dsimp only at hSu); go_simp; (try with_reducible rfl))
  (try simp only [Act.put, List.setIfInBounds_toArray, List.set_cons_zero, List.set_cons_succ])
  refine Man.take1 (i := 24) (v := ?_) rfl (by kernel_rfl) (by kernel_rfl) (by kernel_rfl) (fun _ _ _ h => h) (by rfl) ?_ (by assumption) ?_
  rotate_left
  · (intro u hSu; (try dsimp only at hSu); go_simp; (try with_reducible rfl))
  (try simp only [Act.put, List.setIfInBounds_toArray, List.set_cons_zero, List.set_cons_succ])
  refine Man.take1 (i := 25) (v := ?_) rfl (by kernel_rfl) (by kernel_rfl) (by kernel_rfl) (fun _ _ _ h => h) (by rfl) ?_ (by assumption) ?_
  rotate_left
  · (intro u hSu; (try dsimp only at hSu); go_simp; (try with_reducible rfl))
  (try simp only [Act.put, List.setIfInBounds_toArray, List.set_cons_zero, List.set_cons_succ])
  refine Man.take1 (i := 26) (v := ?_) rfl (by kernel_rfl) (by kernel_rfl) (by kernel_rfl) (fun _ _ _ h => h) (by rfl) ?_ (by assumption) ?_
  rotate_left
  · (intro u hSu; (try dsimp only at hSu); go_simp; (try with_reducible rfl))
  (try simp only [Act.put, List.setIfInBounds_toArray, List.set_cons_zero, List.set_cons_succ])
  refine Man.take1 (i := 27) (v := ?_) rfl (by kernel_rfl) (by kernel_rfl) (by kernel_rfl) (fun _ _ _ h => h) (by rfl) ?_ (by assumption) ?_
  rotate_left
  · (intro u hSu; (try dsimp only at hSu); go_simp; (try with_reducible rfl))
  (try simp only [Act.put, List.setIfInBounds_toArray, List.set_cons_zero, List.set_cons_succ])
  refine Man.take1 (i := 28) (v := ?_) rfl (by kernel_rfl) (by kernel_rfl) (by kernel_rfl) (fun _ _ _ h => h) (by rfl) ?_ (by assumption) ?_
  rotate_left
  · (intro u hSu; (try dsimp only at hSu); go_simp; (try with_reducible rfl))
  (try simp only [Act.put, List.setIfInBounds_toArray, List.set_cons_zero, List.set_cons_succ])
  refine Man.take1 (i := 29) (v := ?_) rfl (by kernel_rfl) (by kernel_rfl) (by kernel_rfl) (fun _ _ _ h => h) (by rfl) ?_ (by assumption) ?_
  rotate_left
  · (intro u hSu; (try dsimp only at hSu); go_simp; (try with_reducible rfl))
  (try simp only [Act.put, List.setIfInBounds_toArray, List.set_cons_zero, List.set_cons_succ])
  refine Man.take1 (i := 30) (v := ?_) rfl (by kernel_rfl) (by kernel_rfl) (by kernel_rfl) (fun _ _ _ h => h) (by rfl) ?_ (by assumption) ?_
  rotate_left
  · (intro u hSu; (try dsimp only at hSu); go_simp; (try with_reducible rfl))
  (try simp only [Act.put, List.setIfInBounds_toArray, List.set_cons_zero, List.set_cons_succ])
  refine Man.take1 (i := 31) (v := ?_) rfl (by kernel_rfl) (by kernel_rfl) (by kernel_rfl) (fun _ _ _ h => h) (by rfl) ?_ (by assumption) ?_
  rotate_left
  · (intro u hSu; (try dsimp only at hSu); go_simp; (try with_reducible rfl))
  (try simp only [Act.put, List.setIfInBounds_toArray, List.set_cons_zero, List.set_cons_succ])
  refine Man.take1 (i := 32) (v := ?_) rfl (by kernel_rfl) (by kernel_rfl) (by kernel_rfl) (fun _ _ _ h => h) (by rfl) ?_ (by assumption) ?_
  rotate_left
  · (intro u hSu; (try dsimp only at hSu); go_simp; (try with_reducible rfl))
  (try simp only [Act.put, List.setIfInBounds_toArray, List.set_cons_zero, List.set_cons_succ])
  refine Man.take1 (i := 34) (v := ?_) rfl (by kernel_rfl) (by kernel_rfl) (by kernel_rfl) (fun _ _ _ h => h) (by rfl) ?_ (by assumption) ?_
  rotate_left
  · (intro u hSu; (try dsimp only at hSu); go_simp; (try with_reducible rfl))
  (try simp only [Act.put, List.setIfInBounds_toArray, List.set_cons_zero, List.set_cons_succ])
  refine Man.one (i := 33) rfl (by kernel_rfl) (fun K hK => ?_)
  go_simp
  (go_at_call 12; (with_reducible refine (show_is k n b s T h0.out h1.out hb_.out hT.out _ (And.left hHeld)).mono ?_); rintro e w' ⟨rfl, hb⟩)
  refine hK.out _ _ ?_ (fun hNew => ?_)
  · exact one_step hHeld hb
  clear hHeld hK K hb
  have hHeld := hNew
  clear hNew
  (try simp only [Act.put, List.setIfInBounds_toArray, List.set_cons_zero, List.set_cons_succ])
  refine Man.one (i := 35) rfl (by kernel_rfl) (fun K hK => ?_)
  go_simp
  (go_at_call 13; (with_reducible refine (rshow_is k n b s T hb_.out h0.out h1.out hT.out _).mono ?_); rintro e w' ⟨rfl, hb⟩)
  refine hK.out _ _ ?_ (fun hNew => ?_)
  · exact one_step hHeld hb
  clear hHeld hK K hb
  have hHeld := hNew
  clear hNew
  (try simp only [Act.put, List.setIfInBounds_toArray, List.set_cons_zero, List.set_cons_succ])
  refine Man.take1 (i := 36) (v := ?_) rfl (by kernel_rfl) (by kernel_rfl) (by kernel_rfl) (fun _ _ _ h => h) (by rfl) ?_ (by assumption) ?_
  rotate_left
  · (intro u hSu; (try dsimp only at hSu); go_simp; (try with_reducible rfl))
  (try simp only [Act.put, List.setIfInBounds_toArray, List.set_cons_zero, List.set_cons_succ])
  refine Man.take1 (i := 37) (v := ?_) rfl (by kernel_rfl) (by kernel_rfl) (by kernel_rfl) (fun _ _ _ h => h) (by rfl) ?_ (by assumption) ?_
  rotate_left
  · (intro u hSu; (try dsimp only at hSu); go_simp; (try with_reducible rfl))
  (try simp only [Act.put, List.setIfInBounds_toArray, List.set_cons_zero, List.set_cons_succ])
  refine Man.take1 (i := 38) (v := ?_) rfl (by kernel_rfl) (by kernel_rfl) (by kernel_rfl) (fun _ _ _ h => h) (by rfl) ?_ (by assumption) ?_
  rotate_left
  · (intro u hSu; (try dsimp only at hSu); go_simp; (try with_reducible rfl))
  (try simp only [Act.put, List.setIfInBounds_toArray, List.set_cons_zero, List.set_cons_succ])
  refine Man.take1 (i := 39) (v := ?_) rfl (by kernel_rfl) (by kernel_rfl) (by kernel_rfl) (fun _ _ _ h => h) (by rfl) ?_ (by assumption) ?_
  rotate_left
  · (intro u hSu; (try dsimp only at hSu); go_simp; (try with_reducible rfl))
  (try simp only [Act.put, List.setIfInBounds_toArray, List.set_cons_zero, List.set_cons_succ])
  refine Man.take1 (i := 41) (v := ?_) rfl (by kernel_rfl) (by kernel_rfl) (by kernel_rfl) (fun _ _ _ h => h) (by rfl) ?_ (by assumption) ?_
  rotate_left
  · (intro u hSu; (try dsimp only at hSu); go_simp; (try with_reducible rfl))
  (try simp only [Act.put, List.setIfInBounds_toArray, List.set_cons_zero, List.set_cons_succ])
  refine Man.one (i := 40) rfl (by kernel_rfl) (fun K hK => ?_)
  go_simp
  (go_at_call 14; (with_reducible refine (truth_is k n b s _ htr.out _).mono ?_); rintro e w' ⟨rfl, hb⟩)
  refine hK.out _ _ ?_ (fun hNew => ?_)
  · exact one_step hHeld hb
  clear hHeld hK K hb
  have hHeld := hNew
  clear hNew
  (try simp only [Act.put, List.setIfInBounds_toArray, List.set_cons_zero, List.set_cons_succ])
  refine Man.take1 (i := 42) (v := ?_) rfl (by kernel_rfl) (by kernel_rfl) (by kernel_rfl) (fun _ _ _ h => h) (by rfl) ?_ (by assumption) ?_
  rotate_left
  · (intro u hSu; (try dsimp only at hSu); go_simp; (try with_reducible rfl))
  (try simp only [Act.put, List.setIfInBounds_toArray, List.set_cons_zero, List.set_cons_succ])
  refine Man.take1 (i := 43) (v := ?_) rfl (by kernel_rfl) (by kernel_rfl) (by kernel_rfl) (fun _ _ _ h => h) (by rfl) ?_ (by assumption) ?_
  rotate_left
  · (intro u hSu; (try dsimp only at hSu); go_simp; (try with_reducible rfl))
  (try simp only [Act.put, List.setIfInBounds_toArray, List.set_cons_zero, List.set_cons_succ])
  refine Man.take1 (i := 44) (v := ?_) rfl (by kernel_rfl) (by kernel_rfl) (by kernel_rfl) (fun _ _ _ h => h) (by rfl) ?_ (by assumption) ?_
  rotate_left
  · (intro u hSu; (try dsimp only at hSu); go_simp; (try with_reducible rfl))
  (try simp only [Act.put, List.setIfInBounds_toArray, List.set_cons_zero, List.set_cons_succ])
  refine Man.one (i := 45) rfl (by kernel_rfl) (fun K hK => ?_)
  go_simp
  (go_at_call 6; (with_reducible refine (Rd.known_any _ (And.left hHeld)).mono ?_); rintro e w' ⟨rfl, hb⟩)
  refine hK.out _ _ ?_ (fun hNew => ?_)
  · exact one_step hHeld hb
  clear hHeld hK K hb
  have hHeld := hNew
  clear hNew
  (try simp only [Act.put, List.setIfInBounds_toArray, List.set_cons_zero, List.set_cons_succ])
  refine Man.take1 (i := 46) (v := ?_) rfl (by kernel_rfl) (by kernel_rfl) (by kernel_rfl) (fun _ _ _ h => h) (by rfl) ?_ (by assumption) ?_
  rotate_left
  · (intro u hSu; (try dsimp only at hSu); go_simp; (try with_reducible rfl))
  (try simp only [Act.put, List.setIfInBounds_toArray, List.set_cons_zero, List.set_cons_succ])
  refine Man.take1 (i := 47) (v := ?_) rfl (by kernel_rfl) (by kernel_rfl) (by kernel_rfl) (fun _ _ _ h => h) (by rfl) ?_ (by assumption) ?_
  rotate_left
  · (intro u hSu; (try dsimp only at hSu); go_simp; (try with_reducible rfl))
  (try simp only [Act.put, List.setIfInBounds_toArray, List.set_cons_zero, List.set_cons_succ])
  refine wpAnyH_done (by kernel_rfl) ?_ _
  obtain ⟨hqe, hqb, hqz, a0, a1, a2, a3, c0, c1, c2, c3⟩ := hHeld
  have QB := Lib.hid hqb
  clear hqe hqb SS SD
  go_wp2_with fail
  go_ret
  exact ⟨rfl, QB.out⟩
set_option maxHeartbeats 8000000 in
set_option maxRecDepth 100000 in
theorem te_f1 (n : Int) (b : Nat) (s : ByteArray) (k2 n2 : Int) (b2 : Nat) (s2 : ByteArray) (w : World) (he : Val.Env w) (g1 : decide ((5000 : Int) < s.size) = false) (g2 : decide ((5000 : Int) < s2.size) = false) (hb_ : Hid (b < 18446744073709551616)) (hb2_ : Hid (b2 < 18446744073709551616)) (hs_ : Hid (s.size ≤ 35184372088832)) (hs2_ : Hid (s2.size ≤ 35184372088832)) (h0 : Hid (-9223372036854775808 ≤ n)) (h1 : Hid (n ≤ 9223372036854775807)) (T : ByteArray) (hT : Hid (T.data.toList = Val.showL 1 n b s)) (cv : Int) (hcv : Hid (Val.cmpV 1 n b s k2 n2 b2 s2 = cv)) (ra : Hid (Val.rightB 1 n b s = true)) (rb : Hid (Val.rightB k2 n2 b2 s2 = true)) (gq : Val.eqV 1 n b s k2 n2 b2 s2 = false) (hsm : Hid (Val.sameB 1 n b s k2 n2 b2 s2 = false)) (htr : Hid (Val.truthI 1 n b s = n)) : Calls Tryd.prog 3 #[.agg #[.int .i64 1, .int .i64 n, .int .u64 b, .string s], .agg #[.int .i64 k2, .int .i64 n2, .int .u64 b2, .string s2]] w fun e w' => e = .returned (.bool true) ∧ Below w.heap.size w w' := by
  have HE0 := Lib.hid ((he.below ((Below.refl w.heap.size w).alloc (Nat.le_refl _) (.cells #[.int .i64 1, .int .i64 n, .int .u64 b, .string s] 24))).below ((Below.refl (w.alloc (.cells #[.int .i64 1, .int .i64 n, .int .u64 b, .string s] 24)).heap.size (w.alloc (.cells #[.int .i64 1, .int .i64 n, .int .u64 b, .string s] 24))).alloc (Nat.le_refl _) (.cells #[.int .i64 k2, .int .i64 n2, .int .u64 b2, .string s2] 24)))
  have T20 := Lib.hid ((Rd.Box.new w 1 n b s).old (.cells #[.int .i64 k2, .int .i64 n2, .int .u64 b2, .string s2] 24))
  have T30 := Lib.hid (show Rd.Box ((w.alloc (.cells #[.int .i64 1, .int .i64 n, .int .u64 b, .string s] 24)).alloc (.cells #[.int .i64 k2, .int .i64 n2, .int .u64 b2, .string s2] 24)) (w.heap.size + 1) k2 n2 b2 s2 from by have h := Rd.Box.new (w.alloc (.cells #[.int .i64 1, .int .i64 n, .int .u64 b, .string s] 24)) k2 n2 b2 s2; rwa [show (w.alloc (.cells #[.int .i64 1, .int .i64 n, .int .u64 b, .string s] 24)).heap.size = w.heap.size + 1 from by simp] at h)
  have B0 := Lib.hid (((Below.refl w.heap.size w).alloc (Nat.le_refl _) (.cells #[.int .i64 1, .int .i64 n, .int .u64 b, .string s] 24)).alloc (by simp) (.cells #[.int .i64 k2, .int .i64 n2, .int .u64 b2, .string s2] 24))
  have Z0 : w.heap.size ≤ ((w.alloc (.cells #[.int .i64 1, .int .i64 n, .int .u64 b, .string s] 24)).alloc (.cells #[.int .i64 k2, .int .i64 n2, .int .u64 b2, .string s2] 24)).heap.size := by simp; omega
  clear he
  have gs : (T.toList == T.toList) = true := by simp
  go_enter Tryd.func3, Tryd.ntmps3
  go_wp2_with fail
  refine (ref_is 1 n b s hb_.out _ ra.out _).mono ?_
  rintro e w1 ⟨rfl, hbn⟩
  have HE1 := Lib.hid (HE0.out.below hbn)
  have T21 := Lib.hid (T20.out.below hbn)
  have T31 := Lib.hid (T30.out.below hbn)
  have B1 := Lib.hid (B0.out.trans (hbn.mono Z0))
  have Z1 : w.heap.size ≤ w1.heap.size := Nat.le_trans Z0 hbn.size
  clear hbn HE0 B0 Z0 T20 T30
  have q0 := T21.out.c0
  have q1 := T21.out.c1
  have q2 := T21.out.c2
  have q3 := T21.out.c3
  go_wp2_with fail
  have SS : (fun w' => Val.Env w' ∧ Below w.heap.size w w' ∧ w.heap.size ≤ w'.heap.size ∧ w'.cell? ⟨w.heap.size, 0, none⟩ = some (.int .i64 1) ∧ w'.cell? ⟨w.heap.size, 1, none⟩ = some (.int .i64 n) ∧ w'.cell? ⟨w.heap.size, 2, none⟩ = some (.int .u64 b) ∧ w'.cell? ⟨w.heap.size, 3, none⟩ = some (.string s) ∧ w'.cell? ⟨(w.heap.size + 1), 0, none⟩ = some (.int .i64 k2) ∧ w'.cell? ⟨(w.heap.size + 1), 1, none⟩ = some (.int .i64 n2) ∧ w'.cell? ⟨(w.heap.size + 1), 2, none⟩ = some (.int .u64 b2) ∧ w'.cell? ⟨(w.heap.size + 1), 3, none⟩ = some (.string s2)) w1 := ⟨HE1.out, B1.out, Z1, T21.out.c0, T21.out.c1, T21.out.c2, T21.out.c3, T31.out.c0, T31.out.c1, T31.out.c2, T31.out.c3⟩
  clear q0 q1 q2 q3 HE1 B1 Z1 T21 T31
  have SD : (fun w' => Val.Env w' ∧ Below w.heap.size w w' ∧ w.heap.size ≤ w'.heap.size ∧ w'.cell? ⟨w.heap.size, 0, none⟩ = some (.int .i64 1) ∧ w'.cell? ⟨w.heap.size, 1, none⟩ = some (.int .i64 n) ∧ w'.cell? ⟨w.heap.size, 2, none⟩ = some (.int .u64 b) ∧ w'.cell? ⟨w.heap.size, 3, none⟩ = some (.string s) ∧ w'.cell? ⟨(w.heap.size + 1), 0, none⟩ = some (.int .i64 k2) ∧ w'.cell? ⟨(w.heap.size + 1), 1, none⟩ = some (.int .i64 n2) ∧ w'.cell? ⟨(w.heap.size + 1), 2, none⟩ = some (.int .u64 b2) ∧ w'.cell? ⟨(w.heap.size + 1), 3, none⟩ = some (.string s2)) w1.drew := ⟨SS.1.below (Below.refl _ w1).drew, SS.2.1.drew, SS.2.2⟩
  refine wp_region_held_drew (S := fun w' => Val.Env w' ∧ Below w.heap.size w w' ∧ w.heap.size ≤ w'.heap.size ∧ w'.cell? ⟨w.heap.size, 0, none⟩ = some (.int .i64 1) ∧ w'.cell? ⟨w.heap.size, 1, none⟩ = some (.int .i64 n) ∧ w'.cell? ⟨w.heap.size, 2, none⟩ = some (.int .u64 b) ∧ w'.cell? ⟨w.heap.size, 3, none⟩ = some (.string s) ∧ w'.cell? ⟨(w.heap.size + 1), 0, none⟩ = some (.int .i64 k2) ∧ w'.cell? ⟨(w.heap.size + 1), 1, none⟩ = some (.int .i64 n2) ∧ w'.cell? ⟨(w.heap.size + 1), 2, none⟩ = some (.int .u64 b2) ∧ w'.cell? ⟨(w.heap.size + 1), 3, none⟩ = some (.string s2)) (by kernel_rfl) ?_ (fun hHeld => ?_)
  · exact SD
  refine Man.take1 (i := 0) (v := ?_) rfl (by kernel_rfl) (by kernel_rfl) (by kernel_rfl) (fun _ _ _ h => h) (by rfl) ?_ (by assumption) ?_
  rotate_left
  · (intro u hSu; (try dsimp only at hSu); go_simp; (try with_reducible rfl))
  (try simp only [Act.put, List.setIfInBounds_toArray, List.set_cons_zero, List.set_cons_succ])
  refine Man.take1 (i := 2) (v := ?_) rfl (by kernel_rfl) (by kernel_rfl) (by kernel_rfl) (fun _ _ _ h => h) (by rfl) ?_ (by assumption) ?_
  rotate_left
  · (intro u hSu; (try dsimp only at hSu); go_simp; (try with_reducible rfl))
  (try simp only [Act.put, List.setIfInBounds_toArray, List.set_cons_zero, List.set_cons_succ])
  refine Man.one (i := 1) rfl (by kernel_rfl) (fun K hK => ?_)
  go_simp
  (go_at_call 8; (with_reducible refine (right_is 1 n b s _ ra.out _).mono ?_); rintro e w' ⟨rfl, hb⟩)
  refine hK.out _ _ ?_ (fun hNew => ?_)
  · exact one_step hHeld hb
  clear hHeld hK K hb
  have hHeld := hNew
  clear hNew
  (try simp only [Act.put, List.setIfInBounds_toArray, List.set_cons_zero, List.set_cons_succ])
  refine Man.one (i := 3) rfl (by kernel_rfl) (fun K hK => ?_)
  go_simp
  (go_at_call 7; (with_reducible refine (ref_is 1 n b s hb_.out _ ra.out _).mono ?_); rintro e w' ⟨rfl, hb⟩)
  refine hK.out _ _ ?_ (fun hNew => ?_)
  · exact one_step hHeld hb
  clear hHeld hK K hb
  have hHeld := hNew
  clear hNew
  (try simp only [Act.put, List.setIfInBounds_toArray, List.set_cons_zero, List.set_cons_succ])
  refine Man.take1 (i := 4) (v := ?_) rfl (by kernel_rfl) (by kernel_rfl) (by kernel_rfl) (fun _ _ _ h => h) (by rfl) ?_ (by assumption) ?_
  rotate_left
  · (intro u hSu; (try dsimp only at hSu); go_simp; (try with_reducible rfl))
  (try simp only [Act.put, List.setIfInBounds_toArray, List.set_cons_zero, List.set_cons_succ])
  refine Man.take1 (i := 5) (v := ?_) rfl (by kernel_rfl) (by kernel_rfl) (by kernel_rfl) (fun _ _ _ h => h) (by rfl) ?_ (by assumption) ?_
  rotate_left
  · (intro u hSu; (try dsimp only at hSu); go_simp; (try with_reducible rfl))
  (try simp only [Act.put, List.setIfInBounds_toArray, List.set_cons_zero, List.set_cons_succ])
  refine Man.take1 (i := 6) (v := ?_) rfl (by kernel_rfl) (by kernel_rfl) (by kernel_rfl) (fun _ _ _ h => h) (by rfl) ?_ (by assumption) ?_
  rotate_left
  · (intro u hSu; (try dsimp only at hSu); go_simp; (try with_reducible rfl))
  (try simp only [Act.put, List.setIfInBounds_toArray, List.set_cons_zero, List.set_cons_succ])
  refine Man.take1 (i := 7) (v := ?_) rfl (by kernel_rfl) (by kernel_rfl) (by kernel_rfl) (fun _ _ _ h => h) (by rfl) ?_ (by assumption) ?_
  rotate_left
  · (intro u hSu; (try dsimp only at hSu); go_simp; (try with_reducible rfl))
  (try simp only [Act.put, List.setIfInBounds_toArray, List.set_cons_zero, List.set_cons_succ])
  refine Man.take1 (i := 9) (v := ?_) rfl (by kernel_rfl) (by kernel_rfl) (by kernel_rfl) (fun _ _ _ h => h) (by rfl) ?_ (by assumption) ?_
  rotate_left
  · (intro u hSu; (try dsimp only at hSu); go_simp; (try with_reducible rfl))
  (try simp only [Act.put, List.setIfInBounds_toArray, List.set_cons_zero, List.set_cons_succ])
  refine Man.take1 (i := 10) (v := ?_) rfl (by kernel_rfl) (by kernel_rfl) (by kernel_rfl) (fun _ _ _ h => h) (by rfl) ?_ (by assumption) ?_
  rotate_left
  · (intro u hSu; (try dsimp only at hSu); go_simp; (try with_reducible rfl))
  (try simp only [Act.put, List.setIfInBounds_toArray, List.set_cons_zero, List.set_cons_succ])
  refine Man.one (i := 8) rfl (by kernel_rfl) (fun K hK => ?_)
  go_simp
  (go_at_call 9; (with_reducible refine (cmp_is 1 n b s k2 n2 b2 s2 cv hcv.out _).mono ?_); rintro e w' ⟨rfl, hb⟩)
  refine hK.out _ _ ?_ (fun hNew => ?_)
  · exact one_step hHeld hb
  clear hHeld hK K hb
  have hHeld := hNew
  clear hNew
  (try simp only [Act.put, List.setIfInBounds_toArray, List.set_cons_zero, List.set_cons_succ])
  refine Man.one (i := 11) rfl (by kernel_rfl) (fun K hK => ?_)
  go_simp
  (go_at_call 10; (with_reducible refine (rcmp_is 1 n b s k2 n2 b2 s2 hb_.out hb2_.out hs_.out hs2_.out cv hcv.out _).mono ?_); rintro e w' ⟨rfl, hb⟩)
  refine hK.out _ _ ?_ (fun hNew => ?_)
  · exact one_step hHeld hb
  clear hHeld hK K hb
  have hHeld := hNew
  clear hNew
  (try simp only [Act.put, List.setIfInBounds_toArray, List.set_cons_zero, List.set_cons_succ])
  refine Man.take1 (i := 12) (v := ?_) rfl (by kernel_rfl) (by kernel_rfl) (by kernel_rfl) (fun _ _ _ h => h) (by rfl) ?_ (by assumption) ?_
  rotate_left
  · (intro u hSu; (try dsimp only at hSu); go_simp; (try with_reducible rfl))
  (try simp only [Act.put, List.setIfInBounds_toArray, List.set_cons_zero, List.set_cons_succ])
  refine Man.take1 (i := 13) (v := ?_) rfl (by kernel_rfl) (by kernel_rfl) (by kernel_rfl) (fun _ _ _ h => h) (by rfl) ?_ (by assumption) ?_
  rotate_left
  · (intro u hSu; (try dsimp only at hSu); go_simp; (try with_reducible rfl))
  (try simp only [Act.put, List.setIfInBounds_toArray, List.set_cons_zero, List.set_cons_succ])
  refine Man.take1 (i := 14) (v := ?_) rfl (by kernel_rfl) (by kernel_rfl) (by kernel_rfl) (fun _ _ _ h => h) (by rfl) ?_ (by assumption) ?_
  rotate_left
  · (intro u hSu; (try dsimp only at hSu); go_simp; (try with_reducible rfl))
  (try simp only [Act.put, List.setIfInBounds_toArray, List.set_cons_zero, List.set_cons_succ])
  refine Man.take1 (i := 15) (v := ?_) rfl (by kernel_rfl) (by kernel_rfl) (by kernel_rfl) (fun _ _ _ h => h) (by rfl) ?_ (by assumption) ?_
  rotate_left
  · (intro u hSu; (try dsimp only at hSu); go_simp; (try with_reducible rfl))
  (try simp only [Act.put, List.setIfInBounds_toArray, List.set_cons_zero, List.set_cons_succ])
  refine Man.take1 (i := 16) (v := ?_) rfl (by kernel_rfl) (by kernel_rfl) (by kernel_rfl) (fun _ _ _ h => h) (by rfl) ?_ (by assumption) ?_
  rotate_left
  · (intro u hSu; (try dsimp only at hSu); go_simp; (try with_reducible rfl))
  (try simp only [Act.put, List.setIfInBounds_toArray, List.set_cons_zero, List.set_cons_succ])
  refine Man.take1 (i := 18) (v := ?_) rfl (by kernel_rfl) (by kernel_rfl) (by kernel_rfl) (fun _ _ _ h => h) (by rfl) ?_ (by assumption) ?_
  rotate_left
  · (intro u hSu; (try dsimp only at hSu); go_simp; (try with_reducible rfl))
  (try simp only [Act.put, List.setIfInBounds_toArray, List.set_cons_zero, List.set_cons_succ])
  refine Man.one (i := 17) rfl (by kernel_rfl) (fun K hK => ?_)
  go_simp
  (go_at_call 11; (with_reducible refine (same_is 1 n b s k2 n2 b2 s2 _ hsm.out _).mono ?_); rintro e w' ⟨rfl, hb⟩)
  refine hK.out _ _ ?_ (fun hNew => ?_)
  · exact one_step hHeld hb
  clear hHeld hK K hb
  have hHeld := hNew
  clear hNew
  (try simp only [Act.put, List.setIfInBounds_toArray, List.set_cons_zero, List.set_cons_succ])
  refine Man.one (i := 19) rfl (by kernel_rfl) (fun K hK => ?_)
  go_simp
  (go_at_call 7; (with_reducible refine (ref_is 1 n b s hb_.out _ ra.out _).mono ?_); rintro e w' ⟨rfl, hb⟩)
  refine hK.out _ _ ?_ (fun hNew => ?_)
  · exact one_step hHeld hb
  clear hHeld hK K hb
  have hHeld := hNew
  clear hNew
  (try simp only [Act.put, List.setIfInBounds_toArray, List.set_cons_zero, List.set_cons_succ])
  refine Man.take1 (i := 20) (v := ?_) rfl (by kernel_rfl) (by kernel_rfl) (by kernel_rfl) (fun _ _ _ h => h) (by rfl) ?_ (by assumption) ?_
  rotate_left
  · (intro u hSu; (try dsimp only at hSu); go_simp; (try with_reducible rfl))
  (try simp only [Act.put, List.setIfInBounds_toArray, List.set_cons_zero, List.set_cons_succ])
  refine Man.take1 (i := 21) (v := ?_) rfl (by kernel_rfl) (by kernel_rfl) (by kernel_rfl) (fun _ _ _ h => h) (by rfl) ?_ (by assumption) ?_
  rotate_left
  · (intro u hSu; (try dsimp only at hSu); go_simp; (try with_reducible rfl))
  (try simp only [Act.put, List.setIfInBounds_toArray, List.set_cons_zero, List.set_cons_succ])
  refine Man.one (i := 22) rfl (by kernel_rfl) (fun K hK => ?_)
  go_simp
  (go_at_call 7; (with_reducible refine (ref_is k2 n2 b2 s2 hb2_.out _ rb.out _).mono ?_); rintro e w' ⟨rfl, hb⟩)
  refine hK.out _ _ ?_ (fun hNew => ?_)
  · exact one_step hHeld hb
  clear hHeld hK K hb
  have hHeld := hNew
  clear hNew
  (try simp only [Act.put, List.setIfInBounds_toArray, List.set_cons_zero, List.set_cons_succ])
  refine Man.take1 (i := 23) (v := ?_) rfl (by kernel_rfl) (by kernel_rfl) (by kernel_rfl) (fun _ _ _ h => h) (by rfl) ?_ (by assumption) ?_
  rotate_left
  · (intro u hSu; (try dsimp only at hSu); go_simp; (try with_reducible rfl))
  (try simp only [Act.put, List.setIfInBounds_toArray, List.set_cons_zero, List.set_cons_succ])
  refine Man.take1 (i := 24) (v := ?_) rfl (by kernel_rfl) (by kernel_rfl) (by kernel_rfl) (fun _ _ _ h => h) (by rfl) ?_ (by assumption) ?_
  rotate_left
  · (intro u hSu; (try dsimp only at hSu); go_simp; (try with_reducible rfl))
  (try simp only [Act.put, List.setIfInBounds_toArray, List.set_cons_zero, List.set_cons_succ])
  refine Man.take1 (i := 25) (v := ?_) rfl (by kernel_rfl) (by kernel_rfl) (by kernel_rfl) (fun _ _ _ h => h) (by rfl) ?_ (by assumption) ?_
  rotate_left
  · (intro u hSu; (try dsimp only at hSu); go_simp; (try with_reducible rfl))
  (try simp only [Act.put, List.setIfInBounds_toArray, List.set_cons_zero, List.set_cons_succ])
  refine Man.take1 (i := 26) (v := ?_) rfl (by kernel_rfl) (by kernel_rfl) (by kernel_rfl) (fun _ _ _ h => h) (by rfl) ?_ (by assumption) ?_
  rotate_left
  · (intro u hSu; (try dsimp only at hSu); go_simp; (try with_reducible rfl))
  (try simp only [Act.put, List.setIfInBounds_toArray, List.set_cons_zero, List.set_cons_succ])
  refine Man.take1 (i := 27) (v := ?_) rfl (by kernel_rfl) (by kernel_rfl) (by kernel_rfl) (fun _ _ _ h => h) (by rfl) ?_ (by assumption) ?_
  rotate_left
  · (intro u hSu; (try dsimp only at hSu); go_simp; (try with_reducible rfl))
  (try simp only [Act.put, List.setIfInBounds_toArray, List.set_cons_zero, List.set_cons_succ])
  refine Man.take1 (i := 28) (v := ?_) rfl (by kernel_rfl) (by kernel_rfl) (by kernel_rfl) (fun _ _ _ h => h) (by rfl) ?_ (by assumption) ?_
  rotate_left
  · (intro u hSu; (try dsimp only at hSu); go_simp; (try with_reducible rfl))
  (try simp only [Act.put, List.setIfInBounds_toArray, List.set_cons_zero, List.set_cons_succ])
  refine Man.take1 (i := 29) (v := ?_) rfl (by kernel_rfl) (by kernel_rfl) (by kernel_rfl) (fun _ _ _ h => h) (by rfl) ?_ (by assumption) ?_
  rotate_left
  · (intro u hSu; (try dsimp only at hSu); go_simp; (try with_reducible rfl))
  (try simp only [Act.put, List.setIfInBounds_toArray, List.set_cons_zero, List.set_cons_succ])
  refine Man.take1 (i := 30) (v := ?_) rfl (by kernel_rfl) (by kernel_rfl) (by kernel_rfl) (fun _ _ _ h => h) (by rfl) ?_ (by assumption) ?_
  rotate_left
  · (intro u hSu; (try dsimp only at hSu); go_simp; (try with_reducible rfl))
  (try simp only [Act.put, List.setIfInBounds_toArray, List.set_cons_zero, List.set_cons_succ])
  refine Man.take1 (i := 31) (v := ?_) rfl (by kernel_rfl) (by kernel_rfl) (by kernel_rfl) (fun _ _ _ h => h) (by rfl) ?_ (by assumption) ?_
  rotate_left
  · (intro u hSu; (try dsimp only at hSu); go_simp; (try with_reducible rfl))
  (try simp only [Act.put, List.setIfInBounds_toArray, List.set_cons_zero, List.set_cons_succ])
  refine Man.take1 (i := 32) (v := ?_) rfl (by kernel_rfl) (by kernel_rfl) (by kernel_rfl) (fun _ _ _ h => h) (by rfl) ?_ (by assumption) ?_
  rotate_left
  · (intro u hSu; (try dsimp only at hSu); go_simp; (try with_reducible rfl))
  (try simp only [Act.put, List.setIfInBounds_toArray, List.set_cons_zero, List.set_cons_succ])
  refine Man.take1 (i := 34) (v := ?_) rfl (by kernel_rfl) (by kernel_rfl) (by kernel_rfl) (fun _ _ _ h => h) (by rfl) ?_ (by assumption) ?_
  rotate_left
  · (intro u hSu; (try dsimp only at hSu); go_simp; (try with_reducible rfl))
  (try simp only [Act.put, List.setIfInBounds_toArray, List.set_cons_zero, List.set_cons_succ])
  refine Man.one (i := 33) rfl (by kernel_rfl) (fun K hK => ?_)
  go_simp
  (go_at_call 12; (with_reducible refine (show_is 1 n b s T h0.out h1.out hb_.out hT.out _ (And.left hHeld)).mono ?_); rintro e w' ⟨rfl, hb⟩)
  refine hK.out _ _ ?_ (fun hNew => ?_)
  · exact one_step hHeld hb
  clear hHeld hK K hb
  have hHeld := hNew
  clear hNew
  (try simp only [Act.put, List.setIfInBounds_toArray, List.set_cons_zero, List.set_cons_succ])
  refine Man.one (i := 35) rfl (by kernel_rfl) (fun K hK => ?_)
  go_simp
  (go_at_call 13; (with_reducible refine (rshow_is 1 n b s T hb_.out h0.out h1.out hT.out _).mono ?_); rintro e w' ⟨rfl, hb⟩)
  refine hK.out _ _ ?_ (fun hNew => ?_)
  · exact one_step hHeld hb
  clear hHeld hK K hb
  have hHeld := hNew
  clear hNew
  (try simp only [Act.put, List.setIfInBounds_toArray, List.set_cons_zero, List.set_cons_succ])
  refine Man.take1 (i := 36) (v := ?_) rfl (by kernel_rfl) (by kernel_rfl) (by kernel_rfl) (fun _ _ _ h => h) (by rfl) ?_ (by assumption) ?_
  rotate_left
  · (intro u hSu; (try dsimp only at hSu); go_simp; (try with_reducible rfl))
  (try simp only [Act.put, List.setIfInBounds_toArray, List.set_cons_zero, List.set_cons_succ])
  refine Man.take1 (i := 37) (v := ?_) rfl (by kernel_rfl) (by kernel_rfl) (by kernel_rfl) (fun _ _ _ h => h) (by rfl) ?_ (by assumption) ?_
  rotate_left
  · (intro u hSu; (try dsimp only at hSu); go_simp; (try with_reducible rfl))
  (try simp only [Act.put, List.setIfInBounds_toArray, List.set_cons_zero, List.set_cons_succ])
  refine Man.take1 (i := 38) (v := ?_) rfl (by kernel_rfl) (by kernel_rfl) (by kernel_rfl) (fun _ _ _ h => h) (by rfl) ?_ (by assumption) ?_
  rotate_left
  · (intro u hSu; (try dsimp only at hSu); go_simp; (try with_reducible rfl))
  (try simp only [Act.put, List.setIfInBounds_toArray, List.set_cons_zero, List.set_cons_succ])
  refine Man.take1 (i := 39) (v := ?_) rfl (by kernel_rfl) (by kernel_rfl) (by kernel_rfl) (fun _ _ _ h => h) (by rfl) ?_ (by assumption) ?_
  rotate_left
  · (intro u hSu; (try dsimp only at hSu); go_simp; (try with_reducible rfl))
  (try simp only [Act.put, List.setIfInBounds_toArray, List.set_cons_zero, List.set_cons_succ])
  refine Man.take1 (i := 41) (v := ?_) rfl (by kernel_rfl) (by kernel_rfl) (by kernel_rfl) (fun _ _ _ h => h) (by rfl) ?_ (by assumption) ?_
  rotate_left
  · (intro u hSu; (try dsimp only at hSu); go_simp; (try with_reducible rfl))
  (try simp only [Act.put, List.setIfInBounds_toArray, List.set_cons_zero, List.set_cons_succ])
  refine Man.one (i := 40) rfl (by kernel_rfl) (fun K hK => ?_)
  go_simp
  (go_at_call 14; (with_reducible refine (truth_is 1 n b s _ htr.out _).mono ?_); rintro e w' ⟨rfl, hb⟩)
  refine hK.out _ _ ?_ (fun hNew => ?_)
  · exact one_step hHeld hb
  clear hHeld hK K hb
  have hHeld := hNew
  clear hNew
  (try simp only [Act.put, List.setIfInBounds_toArray, List.set_cons_zero, List.set_cons_succ])
  refine Man.take1 (i := 42) (v := ?_) rfl (by kernel_rfl) (by kernel_rfl) (by kernel_rfl) (fun _ _ _ h => h) (by rfl) ?_ (by assumption) ?_
  rotate_left
  · (intro u hSu; (try dsimp only at hSu); go_simp; (try with_reducible rfl))
  (try simp only [Act.put, List.setIfInBounds_toArray, List.set_cons_zero, List.set_cons_succ])
  refine Man.take1 (i := 43) (v := ?_) rfl (by kernel_rfl) (by kernel_rfl) (by kernel_rfl) (fun _ _ _ h => h) (by rfl) ?_ (by assumption) ?_
  rotate_left
  · (intro u hSu; (try dsimp only at hSu); go_simp; (try with_reducible rfl))
  (try simp only [Act.put, List.setIfInBounds_toArray, List.set_cons_zero, List.set_cons_succ])
  refine Man.take1 (i := 44) (v := ?_) rfl (by kernel_rfl) (by kernel_rfl) (by kernel_rfl) (fun _ _ _ h => h) (by rfl) ?_ (by assumption) ?_
  rotate_left
  · (intro u hSu; (try dsimp only at hSu); go_simp; (try with_reducible rfl))
  (try simp only [Act.put, List.setIfInBounds_toArray, List.set_cons_zero, List.set_cons_succ])
  refine Man.one (i := 45) rfl (by kernel_rfl) (fun K hK => ?_)
  go_simp
  (go_at_call 6; (with_reducible refine (Rd.known_any _ (And.left hHeld)).mono ?_); rintro e w' ⟨rfl, hb⟩)
  refine hK.out _ _ ?_ (fun hNew => ?_)
  · exact one_step hHeld hb
  clear hHeld hK K hb
  have hHeld := hNew
  clear hNew
  (try simp only [Act.put, List.setIfInBounds_toArray, List.set_cons_zero, List.set_cons_succ])
  refine Man.take1 (i := 46) (v := ?_) rfl (by kernel_rfl) (by kernel_rfl) (by kernel_rfl) (fun _ _ _ h => h) (by rfl) ?_ (by assumption) ?_
  rotate_left
  · (intro u hSu; (try dsimp only at hSu); go_simp; (try with_reducible rfl))
  (try simp only [Act.put, List.setIfInBounds_toArray, List.set_cons_zero, List.set_cons_succ])
  refine Man.take1 (i := 47) (v := ?_) rfl (by kernel_rfl) (by kernel_rfl) (by kernel_rfl) (fun _ _ _ h => h) (by rfl) ?_ (by assumption) ?_
  rotate_left
  · (intro u hSu; (try dsimp only at hSu); go_simp; (try with_reducible rfl))
  (try simp only [Act.put, List.setIfInBounds_toArray, List.set_cons_zero, List.set_cons_succ])
  refine wpAnyH_done (by kernel_rfl) ?_ _
  obtain ⟨hqe, hqb, hqz, a0, a1, a2, a3, c0, c1, c2, c3⟩ := hHeld
  have QB := Lib.hid hqb
  clear hqe hqb SS SD
  go_wp2_with fail
  go_ret
  exact ⟨rfl, QB.out⟩
set_option maxHeartbeats 8000000 in
set_option maxRecDepth 100000 in
theorem te_fn (k : Int) (n : Int) (b : Nat) (s : ByteArray) (k2 n2 : Int) (b2 : Nat) (s2 : ByteArray) (w : World) (he : Val.Env w) (g1 : decide ((5000 : Int) < s.size) = false) (g2 : decide ((5000 : Int) < s2.size) = false) (hb_ : Hid (b < 18446744073709551616)) (hb2_ : Hid (b2 < 18446744073709551616)) (hs_ : Hid (s.size ≤ 35184372088832)) (hs2_ : Hid (s2.size ≤ 35184372088832)) (h0 : Hid (-9223372036854775808 ≤ n)) (h1 : Hid (n ≤ 9223372036854775807)) (T : ByteArray) (hT : Hid (T.data.toList = Val.showL k n b s)) (cv : Int) (hcv : Hid (Val.cmpV k n b s k2 n2 b2 s2 = cv)) (ra : Hid (Val.rightB k n b s = true)) (rb : Hid (Val.rightB k2 n2 b2 s2 = true)) (gq : Val.eqV k n b s k2 n2 b2 s2 = false) (hsm : Hid (Val.sameB k n b s k2 n2 b2 s2 = false)) (htr : Hid (Val.truthI k n b s = (-1))) (gk : (k == (1 : Int)) = false) : Calls Tryd.prog 3 #[.agg #[.int .i64 k, .int .i64 n, .int .u64 b, .string s], .agg #[.int .i64 k2, .int .i64 n2, .int .u64 b2, .string s2]] w fun e w' => e = .returned (.bool true) ∧ Below w.heap.size w w' := by
  have HE0 := Lib.hid ((he.below ((Below.refl w.heap.size w).alloc (Nat.le_refl _) (.cells #[.int .i64 k, .int .i64 n, .int .u64 b, .string s] 24))).below ((Below.refl (w.alloc (.cells #[.int .i64 k, .int .i64 n, .int .u64 b, .string s] 24)).heap.size (w.alloc (.cells #[.int .i64 k, .int .i64 n, .int .u64 b, .string s] 24))).alloc (Nat.le_refl _) (.cells #[.int .i64 k2, .int .i64 n2, .int .u64 b2, .string s2] 24)))
  have T20 := Lib.hid ((Rd.Box.new w k n b s).old (.cells #[.int .i64 k2, .int .i64 n2, .int .u64 b2, .string s2] 24))
  have T30 := Lib.hid (show Rd.Box ((w.alloc (.cells #[.int .i64 k, .int .i64 n, .int .u64 b, .string s] 24)).alloc (.cells #[.int .i64 k2, .int .i64 n2, .int .u64 b2, .string s2] 24)) (w.heap.size + 1) k2 n2 b2 s2 from by have h := Rd.Box.new (w.alloc (.cells #[.int .i64 k, .int .i64 n, .int .u64 b, .string s] 24)) k2 n2 b2 s2; rwa [show (w.alloc (.cells #[.int .i64 k, .int .i64 n, .int .u64 b, .string s] 24)).heap.size = w.heap.size + 1 from by simp] at h)
  have B0 := Lib.hid (((Below.refl w.heap.size w).alloc (Nat.le_refl _) (.cells #[.int .i64 k, .int .i64 n, .int .u64 b, .string s] 24)).alloc (by simp) (.cells #[.int .i64 k2, .int .i64 n2, .int .u64 b2, .string s2] 24))
  have Z0 : w.heap.size ≤ ((w.alloc (.cells #[.int .i64 k, .int .i64 n, .int .u64 b, .string s] 24)).alloc (.cells #[.int .i64 k2, .int .i64 n2, .int .u64 b2, .string s2] 24)).heap.size := by simp; omega
  clear he
  have gs : (T.toList == T.toList) = true := by simp
  go_enter Tryd.func3, Tryd.ntmps3
  go_wp2_with fail
  refine (ref_is k n b s hb_.out _ ra.out _).mono ?_
  rintro e w1 ⟨rfl, hbn⟩
  have HE1 := Lib.hid (HE0.out.below hbn)
  have T21 := Lib.hid (T20.out.below hbn)
  have T31 := Lib.hid (T30.out.below hbn)
  have B1 := Lib.hid (B0.out.trans (hbn.mono Z0))
  have Z1 : w.heap.size ≤ w1.heap.size := Nat.le_trans Z0 hbn.size
  clear hbn HE0 B0 Z0 T20 T30
  have q0 := T21.out.c0
  have q1 := T21.out.c1
  have q2 := T21.out.c2
  have q3 := T21.out.c3
  go_wp2_with fail
  have SS : (fun w' => Val.Env w' ∧ Below w.heap.size w w' ∧ w.heap.size ≤ w'.heap.size ∧ w'.cell? ⟨w.heap.size, 0, none⟩ = some (.int .i64 k) ∧ w'.cell? ⟨w.heap.size, 1, none⟩ = some (.int .i64 n) ∧ w'.cell? ⟨w.heap.size, 2, none⟩ = some (.int .u64 b) ∧ w'.cell? ⟨w.heap.size, 3, none⟩ = some (.string s) ∧ w'.cell? ⟨(w.heap.size + 1), 0, none⟩ = some (.int .i64 k2) ∧ w'.cell? ⟨(w.heap.size + 1), 1, none⟩ = some (.int .i64 n2) ∧ w'.cell? ⟨(w.heap.size + 1), 2, none⟩ = some (.int .u64 b2) ∧ w'.cell? ⟨(w.heap.size + 1), 3, none⟩ = some (.string s2)) w1 := ⟨HE1.out, B1.out, Z1, T21.out.c0, T21.out.c1, T21.out.c2, T21.out.c3, T31.out.c0, T31.out.c1, T31.out.c2, T31.out.c3⟩
  clear q0 q1 q2 q3 HE1 B1 Z1 T21 T31
  have SD : (fun w' => Val.Env w' ∧ Below w.heap.size w w' ∧ w.heap.size ≤ w'.heap.size ∧ w'.cell? ⟨w.heap.size, 0, none⟩ = some (.int .i64 k) ∧ w'.cell? ⟨w.heap.size, 1, none⟩ = some (.int .i64 n) ∧ w'.cell? ⟨w.heap.size, 2, none⟩ = some (.int .u64 b) ∧ w'.cell? ⟨w.heap.size, 3, none⟩ = some (.string s) ∧ w'.cell? ⟨(w.heap.size + 1), 0, none⟩ = some (.int .i64 k2) ∧ w'.cell? ⟨(w.heap.size + 1), 1, none⟩ = some (.int .i64 n2) ∧ w'.cell? ⟨(w.heap.size + 1), 2, none⟩ = some (.int .u64 b2) ∧ w'.cell? ⟨(w.heap.size + 1), 3, none⟩ = some (.string s2)) w1.drew := ⟨SS.1.below (Below.refl _ w1).drew, SS.2.1.drew, SS.2.2⟩
  refine wp_region_held_drew (S := fun w' => Val.Env w' ∧ Below w.heap.size w w' ∧ w.heap.size ≤ w'.heap.size ∧ w'.cell? ⟨w.heap.size, 0, none⟩ = some (.int .i64 k) ∧ w'.cell? ⟨w.heap.size, 1, none⟩ = some (.int .i64 n) ∧ w'.cell? ⟨w.heap.size, 2, none⟩ = some (.int .u64 b) ∧ w'.cell? ⟨w.heap.size, 3, none⟩ = some (.string s) ∧ w'.cell? ⟨(w.heap.size + 1), 0, none⟩ = some (.int .i64 k2) ∧ w'.cell? ⟨(w.heap.size + 1), 1, none⟩ = some (.int .i64 n2) ∧ w'.cell? ⟨(w.heap.size + 1), 2, none⟩ = some (.int .u64 b2) ∧ w'.cell? ⟨(w.heap.size + 1), 3, none⟩ = some (.string s2)) (by kernel_rfl) ?_ (fun hHeld => ?_)
  · exact SD
  refine Man.take1 (i := 0) (v := ?_) rfl (by kernel_rfl) (by kernel_rfl) (by kernel_rfl) (fun _ _ _ h => h) (by rfl) ?_ (by assumption) ?_
  rotate_left
  · (intro u hSu; (try dsimp only at hSu); go_simp; (try with_reducible rfl))
  (try simp only [Act.put, List.setIfInBounds_toArray, List.set_cons_zero, List.set_cons_succ])
  refine Man.take1 (i := 2) (v := ?_) rfl (by kernel_rfl) (by kernel_rfl) (by kernel_rfl) (fun _ _ _ h => h) (by rfl) ?_ (by assumption) ?_
  rotate_left
  · (intro u hSu; (try dsimp only at hSu); go_simp; (try with_reducible rfl))
  (try simp only [Act.put, List.setIfInBounds_toArray, List.set_cons_zero, List.set_cons_succ])
  refine Man.one (i := 1) rfl (by kernel_rfl) (fun K hK => ?_)
  go_simp
  (go_at_call 8; (with_reducible refine (right_is k n b s _ ra.out _).mono ?_); rintro e w' ⟨rfl, hb⟩)
  refine hK.out _ _ ?_ (fun hNew => ?_)
  · exact one_step hHeld hb
  clear hHeld hK K hb
  have hHeld := hNew
  clear hNew
  (try simp only [Act.put, List.setIfInBounds_toArray, List.set_cons_zero, List.set_cons_succ])
  refine Man.one (i := 3) rfl (by kernel_rfl) (fun K hK => ?_)
  go_simp
  (go_at_call 7; (with_reducible refine (ref_is k n b s hb_.out _ ra.out _).mono ?_); rintro e w' ⟨rfl, hb⟩)
  refine hK.out _ _ ?_ (fun hNew => ?_)
  · exact one_step hHeld hb
  clear hHeld hK K hb
  have hHeld := hNew
  clear hNew
  (try simp only [Act.put, List.setIfInBounds_toArray, List.set_cons_zero, List.set_cons_succ])
  refine Man.take1 (i := 4) (v := ?_) rfl (by kernel_rfl) (by kernel_rfl) (by kernel_rfl) (fun _ _ _ h => h) (by rfl) ?_ (by assumption) ?_
  rotate_left
  · (intro u hSu; (try dsimp only at hSu); go_simp; (try with_reducible rfl))
  (try simp only [Act.put, List.setIfInBounds_toArray, List.set_cons_zero, List.set_cons_succ])
  refine Man.take1 (i := 5) (v := ?_) rfl (by kernel_rfl) (by kernel_rfl) (by kernel_rfl) (fun _ _ _ h => h) (by rfl) ?_ (by assumption) ?_
  rotate_left
  · (intro u hSu; (try dsimp only at hSu); go_simp; (try with_reducible rfl))
  (try simp only [Act.put, List.setIfInBounds_toArray, List.set_cons_zero, List.set_cons_succ])
  refine Man.take1 (i := 6) (v := ?_) rfl (by kernel_rfl) (by kernel_rfl) (by kernel_rfl) (fun _ _ _ h => h) (by rfl) ?_ (by assumption) ?_
  rotate_left
  · (intro u hSu; (try dsimp only at hSu); go_simp; (try with_reducible rfl))
  (try simp only [Act.put, List.setIfInBounds_toArray, List.set_cons_zero, List.set_cons_succ])
  refine Man.take1 (i := 7) (v := ?_) rfl (by kernel_rfl) (by kernel_rfl) (by kernel_rfl) (fun _ _ _ h => h) (by rfl) ?_ (by assumption) ?_
  rotate_left
  · (intro u hSu; (try dsimp only at hSu); go_simp; (try with_reducible rfl))
  (try simp only [Act.put, List.setIfInBounds_toArray, List.set_cons_zero, List.set_cons_succ])
  refine Man.take1 (i := 9) (v := ?_) rfl (by kernel_rfl) (by kernel_rfl) (by kernel_rfl) (fun _ _ _ h => h) (by rfl) ?_ (by assumption) ?_
  rotate_left
  · (intro u hSu; (try dsimp only at hSu); go_simp; (try with_reducible rfl))
  (try simp only [Act.put, List.setIfInBounds_toArray, List.set_cons_zero, List.set_cons_succ])
  refine Man.take1 (i := 10) (v := ?_) rfl (by kernel_rfl) (by kernel_rfl) (by kernel_rfl) (fun _ _ _ h => h) (by rfl) ?_ (by assumption) ?_
  rotate_left
  · (intro u hSu; (try dsimp only at hSu); go_simp; (try with_reducible rfl))
  (try simp only [Act.put, List.setIfInBounds_toArray, List.set_cons_zero, List.set_cons_succ])
  refine Man.one (i := 8) rfl (by kernel_rfl) (fun K hK => ?_)
  go_simp
  (go_at_call 9; (with_reducible refine (cmp_is k n b s k2 n2 b2 s2 cv hcv.out _).mono ?_); rintro e w' ⟨rfl, hb⟩)
  refine hK.out _ _ ?_ (fun hNew => ?_)
  · exact one_step hHeld hb
  clear hHeld hK K hb
  have hHeld := hNew
  clear hNew
  (try simp only [Act.put, List.setIfInBounds_toArray, List.set_cons_zero, List.set_cons_succ])
  refine Man.one (i := 11) rfl (by kernel_rfl) (fun K hK => ?_)
  go_simp
  (go_at_call 10; (with_reducible refine (rcmp_is k n b s k2 n2 b2 s2 hb_.out hb2_.out hs_.out hs2_.out cv hcv.out _).mono ?_); rintro e w' ⟨rfl, hb⟩)
  refine hK.out _ _ ?_ (fun hNew => ?_)
  · exact one_step hHeld hb
  clear hHeld hK K hb
  have hHeld := hNew
  clear hNew
  (try simp only [Act.put, List.setIfInBounds_toArray, List.set_cons_zero, List.set_cons_succ])
  refine Man.take1 (i := 12) (v := ?_) rfl (by kernel_rfl) (by kernel_rfl) (by kernel_rfl) (fun _ _ _ h => h) (by rfl) ?_ (by assumption) ?_
  rotate_left
  · (intro u hSu; (try dsimp only at hSu); go_simp; (try with_reducible rfl))
  (try simp only [Act.put, List.setIfInBounds_toArray, List.set_cons_zero, List.set_cons_succ])
  refine Man.take1 (i := 13) (v := ?_) rfl (by kernel_rfl) (by kernel_rfl) (by kernel_rfl) (fun _ _ _ h => h) (by rfl) ?_ (by assumption) ?_
  rotate_left
  · (intro u hSu; (try dsimp only at hSu); go_simp; (try with_reducible rfl))
  (try simp only [Act.put, List.setIfInBounds_toArray, List.set_cons_zero, List.set_cons_succ])
  refine Man.take1 (i := 14) (v := ?_) rfl (by kernel_rfl) (by kernel_rfl) (by kernel_rfl) (fun _ _ _ h => h) (by rfl) ?_ (by assumption) ?_
  rotate_left
  · (intro u hSu; (try dsimp only at hSu); go_simp; (try with_reducible rfl))
  (try simp only [Act.put, List.setIfInBounds_toArray, List.set_cons_zero, List.set_cons_succ])
  refine Man.take1 (i := 15) (v := ?_) rfl (by kernel_rfl) (by kernel_rfl) (by kernel_rfl) (fun _ _ _ h => h) (by rfl) ?_ (by assumption) ?_
  rotate_left
  · (intro u hSu; (try dsimp only at hSu); go_simp; (try with_reducible rfl))
  (try simp only [Act.put, List.setIfInBounds_toArray, List.set_cons_zero, List.set_cons_succ])
  refine Man.take1 (i := 16) (v := ?_) rfl (by kernel_rfl) (by kernel_rfl) (by kernel_rfl) (fun _ _ _ h => h) (by rfl) ?_ (by assumption) ?_
  rotate_left
  · (intro u hSu; (try dsimp only at hSu); go_simp; (try with_reducible rfl))
  (try simp only [Act.put, List.setIfInBounds_toArray, List.set_cons_zero, List.set_cons_succ])
  refine Man.take1 (i := 18) (v := ?_) rfl (by kernel_rfl) (by kernel_rfl) (by kernel_rfl) (fun _ _ _ h => h) (by rfl) ?_ (by assumption) ?_
  rotate_left
  · (intro u hSu; (try dsimp only at hSu); go_simp; (try with_reducible rfl))
  (try simp only [Act.put, List.setIfInBounds_toArray, List.set_cons_zero, List.set_cons_succ])
  refine Man.one (i := 17) rfl (by kernel_rfl) (fun K hK => ?_)
  go_simp
  (go_at_call 11; (with_reducible refine (same_is k n b s k2 n2 b2 s2 _ hsm.out _).mono ?_); rintro e w' ⟨rfl, hb⟩)
  refine hK.out _ _ ?_ (fun hNew => ?_)
  · exact one_step hHeld hb
  clear hHeld hK K hb
  have hHeld := hNew
  clear hNew
  (try simp only [Act.put, List.setIfInBounds_toArray, List.set_cons_zero, List.set_cons_succ])
  refine Man.one (i := 19) rfl (by kernel_rfl) (fun K hK => ?_)
  go_simp
  (go_at_call 7; (with_reducible refine (ref_is k n b s hb_.out _ ra.out _).mono ?_); rintro e w' ⟨rfl, hb⟩)
  refine hK.out _ _ ?_ (fun hNew => ?_)
  · exact one_step hHeld hb
  clear hHeld hK K hb
  have hHeld := hNew
  clear hNew
  (try simp only [Act.put, List.setIfInBounds_toArray, List.set_cons_zero, List.set_cons_succ])
  refine Man.take1 (i := 20) (v := ?_) rfl (by kernel_rfl) (by kernel_rfl) (by kernel_rfl) (fun _ _ _ h => h) (by rfl) ?_ (by assumption) ?_
  rotate_left
  · (intro u hSu; (try dsimp only at hSu); go_simp; (try with_reducible rfl))
  (try simp only [Act.put, List.setIfInBounds_toArray, List.set_cons_zero, List.set_cons_succ])
  refine Man.take1 (i := 21) (v := ?_) rfl (by kernel_rfl) (by kernel_rfl) (by kernel_rfl) (fun _ _ _ h => h) (by rfl) ?_ (by assumption) ?_
  rotate_left
  · (intro u hSu; (try dsimp only at hSu); go_simp; (try with_reducible rfl))
  (try simp only [Act.put, List.setIfInBounds_toArray, List.set_cons_zero, List.set_cons_succ])
  refine Man.one (i := 22) rfl (by kernel_rfl) (fun K hK => ?_)
  go_simp
  (go_at_call 7; (with_reducible refine (ref_is k2 n2 b2 s2 hb2_.out _ rb.out _).mono ?_); rintro e w' ⟨rfl, hb⟩)
  refine hK.out _ _ ?_ (fun hNew => ?_)
  · exact one_step hHeld hb
  clear hHeld hK K hb
  have hHeld := hNew
  clear hNew
  (try simp only [Act.put, List.setIfInBounds_toArray, List.set_cons_zero, List.set_cons_succ])
  refine Man.take1 (i := 23) (v := ?_) rfl (by kernel_rfl) (by kernel_rfl) (by kernel_rfl) (fun _ _ _ h => h) (by rfl) ?_ (by assumption) ?_
  rotate_left
  · (intro u hSu; (try dsimp only at hSu); go_simp; (try with_reducible rfl))
  (try simp only [Act.put, List.setIfInBounds_toArray, List.set_cons_zero, List.set_cons_succ])
  refine Man.take1 (i := 24) (v := ?_) rfl (by kernel_rfl) (by kernel_rfl) (by kernel_rfl) (fun _ _ _ h => h) (by rfl) ?_ (by assumption) ?_
  rotate_left
  · (intro u hSu; (try dsimp only at hSu); go_simp; (try with_reducible rfl))
  (try simp only [Act.put, List.setIfInBounds_toArray, List.set_cons_zero, List.set_cons_succ])
  refine Man.take1 (i := 25) (v := ?_) rfl (by kernel_rfl) (by kernel_rfl) (by kernel_rfl) (fun _ _ _ h => h) (by rfl) ?_ (by assumption) ?_
  rotate_left
  · (intro u hSu; (try dsimp only at hSu); go_simp; (try with_reducible rfl))
  (try simp only [Act.put, List.setIfInBounds_toArray, List.set_cons_zero, List.set_cons_succ])
  refine Man.take1 (i := 26) (v := ?_) rfl (by kernel_rfl) (by kernel_rfl) (by kernel_rfl) (fun _ _ _ h => h) (by rfl) ?_ (by assumption) ?_
  rotate_left
  · (intro u hSu; (try dsimp only at hSu); go_simp; (try with_reducible rfl))
  (try simp only [Act.put, List.setIfInBounds_toArray, List.set_cons_zero, List.set_cons_succ])
  refine Man.take1 (i := 27) (v := ?_) rfl (by kernel_rfl) (by kernel_rfl) (by kernel_rfl) (fun _ _ _ h => h) (by rfl) ?_ (by assumption) ?_
  rotate_left
  · (intro u hSu; (try dsimp only at hSu); go_simp; (try with_reducible rfl))
  (try simp only [Act.put, List.setIfInBounds_toArray, List.set_cons_zero, List.set_cons_succ])
  refine Man.take1 (i := 28) (v := ?_) rfl (by kernel_rfl) (by kernel_rfl) (by kernel_rfl) (fun _ _ _ h => h) (by rfl) ?_ (by assumption) ?_
  rotate_left
  · (intro u hSu; (try dsimp only at hSu); go_simp; (try with_reducible rfl))
  (try simp only [Act.put, List.setIfInBounds_toArray, List.set_cons_zero, List.set_cons_succ])
  refine Man.take1 (i := 29) (v := ?_) rfl (by kernel_rfl) (by kernel_rfl) (by kernel_rfl) (fun _ _ _ h => h) (by rfl) ?_ (by assumption) ?_
  rotate_left
  · (intro u hSu; (try dsimp only at hSu); go_simp; (try with_reducible rfl))
  (try simp only [Act.put, List.setIfInBounds_toArray, List.set_cons_zero, List.set_cons_succ])
  refine Man.take1 (i := 30) (v := ?_) rfl (by kernel_rfl) (by kernel_rfl) (by kernel_rfl) (fun _ _ _ h => h) (by rfl) ?_ (by assumption) ?_
  rotate_left
  · (intro u hSu; (try dsimp only at hSu); go_simp; (try with_reducible rfl))
  (try simp only [Act.put, List.setIfInBounds_toArray, List.set_cons_zero, List.set_cons_succ])
  refine Man.take1 (i := 31) (v := ?_) rfl (by kernel_rfl) (by kernel_rfl) (by kernel_rfl) (fun _ _ _ h => h) (by rfl) ?_ (by assumption) ?_
  rotate_left
  · (intro u hSu; (try dsimp only at hSu); go_simp; (try with_reducible rfl))
  (try simp only [Act.put, List.setIfInBounds_toArray, List.set_cons_zero, List.set_cons_succ])
  refine Man.take1 (i := 32) (v := ?_) rfl (by kernel_rfl) (by kernel_rfl) (by kernel_rfl) (fun _ _ _ h => h) (by rfl) ?_ (by assumption) ?_
  rotate_left
  · (intro u hSu; (try dsimp only at hSu); go_simp; (try with_reducible rfl))
  (try simp only [Act.put, List.setIfInBounds_toArray, List.set_cons_zero, List.set_cons_succ])
  refine Man.take1 (i := 34) (v := ?_) rfl (by kernel_rfl) (by kernel_rfl) (by kernel_rfl) (fun _ _ _ h => h) (by rfl) ?_ (by assumption) ?_
  rotate_left
  · (intro u hSu; (try dsimp only at hSu); go_simp; (try with_reducible rfl))
  (try simp only [Act.put, List.setIfInBounds_toArray, List.set_cons_zero, List.set_cons_succ])
  refine Man.one (i := 33) rfl (by kernel_rfl) (fun K hK => ?_)
  go_simp
  (go_at_call 12; (with_reducible refine (show_is k n b s T h0.out h1.out hb_.out hT.out _ (And.left hHeld)).mono ?_); rintro e w' ⟨rfl, hb⟩)
  refine hK.out _ _ ?_ (fun hNew => ?_)
  · exact one_step hHeld hb
  clear hHeld hK K hb
  have hHeld := hNew
  clear hNew
  (try simp only [Act.put, List.setIfInBounds_toArray, List.set_cons_zero, List.set_cons_succ])
  refine Man.one (i := 35) rfl (by kernel_rfl) (fun K hK => ?_)
  go_simp
  (go_at_call 13; (with_reducible refine (rshow_is k n b s T hb_.out h0.out h1.out hT.out _).mono ?_); rintro e w' ⟨rfl, hb⟩)
  refine hK.out _ _ ?_ (fun hNew => ?_)
  · exact one_step hHeld hb
  clear hHeld hK K hb
  have hHeld := hNew
  clear hNew
  (try simp only [Act.put, List.setIfInBounds_toArray, List.set_cons_zero, List.set_cons_succ])
  refine Man.take1 (i := 36) (v := ?_) rfl (by kernel_rfl) (by kernel_rfl) (by kernel_rfl) (fun _ _ _ h => h) (by rfl) ?_ (by assumption) ?_
  rotate_left
  · (intro u hSu; (try dsimp only at hSu); go_simp; (try with_reducible rfl))
  (try simp only [Act.put, List.setIfInBounds_toArray, List.set_cons_zero, List.set_cons_succ])
  refine Man.take1 (i := 37) (v := ?_) rfl (by kernel_rfl) (by kernel_rfl) (by kernel_rfl) (fun _ _ _ h => h) (by rfl) ?_ (by assumption) ?_
  rotate_left
  · (intro u hSu; (try dsimp only at hSu); go_simp; (try with_reducible rfl))
  (try simp only [Act.put, List.setIfInBounds_toArray, List.set_cons_zero, List.set_cons_succ])
  refine Man.take1 (i := 38) (v := ?_) rfl (by kernel_rfl) (by kernel_rfl) (by kernel_rfl) (fun _ _ _ h => h) (by rfl) ?_ (by assumption) ?_
  rotate_left
  · (intro u hSu; (try dsimp only at hSu); go_simp; (try with_reducible rfl))
  (try simp only [Act.put, List.setIfInBounds_toArray, List.set_cons_zero, List.set_cons_succ])
  refine Man.take1 (i := 39) (v := ?_) rfl (by kernel_rfl) (by kernel_rfl) (by kernel_rfl) (fun _ _ _ h => h) (by rfl) ?_ (by assumption) ?_
  rotate_left
  · (intro u hSu; (try dsimp only at hSu); go_simp; (try with_reducible rfl))
  (try simp only [Act.put, List.setIfInBounds_toArray, List.set_cons_zero, List.set_cons_succ])
  refine Man.take1 (i := 41) (v := ?_) rfl (by kernel_rfl) (by kernel_rfl) (by kernel_rfl) (fun _ _ _ h => h) (by rfl) ?_ (by assumption) ?_
  rotate_left
  · (intro u hSu; (try dsimp only at hSu); go_simp; (try with_reducible rfl))
  (try simp only [Act.put, List.setIfInBounds_toArray, List.set_cons_zero, List.set_cons_succ])
  refine Man.one (i := 40) rfl (by kernel_rfl) (fun K hK => ?_)
  go_simp
  (go_at_call 14; (with_reducible refine (truth_is k n b s _ htr.out _).mono ?_); rintro e w' ⟨rfl, hb⟩)
  refine hK.out _ _ ?_ (fun hNew => ?_)
  · exact one_step hHeld hb
  clear hHeld hK K hb
  have hHeld := hNew
  clear hNew
  (try simp only [Act.put, List.setIfInBounds_toArray, List.set_cons_zero, List.set_cons_succ])
  refine Man.take1 (i := 42) (v := ?_) rfl (by kernel_rfl) (by kernel_rfl) (by kernel_rfl) (fun _ _ _ h => h) (by rfl) ?_ (by assumption) ?_
  rotate_left
  · (intro u hSu; (try dsimp only at hSu); go_simp; (try with_reducible rfl))
  (try simp only [Act.put, List.setIfInBounds_toArray, List.set_cons_zero, List.set_cons_succ])
  refine Man.take1 (i := 43) (v := ?_) rfl (by kernel_rfl) (by kernel_rfl) (by kernel_rfl) (fun _ _ _ h => h) (by rfl) ?_ (by assumption) ?_
  rotate_left
  · (intro u hSu; (try dsimp only at hSu); go_simp; (try with_reducible rfl))
  (try simp only [Act.put, List.setIfInBounds_toArray, List.set_cons_zero, List.set_cons_succ])
  refine Man.take1 (i := 44) (v := ?_) rfl (by kernel_rfl) (by kernel_rfl) (by kernel_rfl) (fun _ _ _ h => h) (by rfl) ?_ (by assumption) ?_
  rotate_left
  · (intro u hSu; (try dsimp only at hSu); go_simp; (try with_reducible rfl))
  (try simp only [Act.put, List.setIfInBounds_toArray, List.set_cons_zero, List.set_cons_succ])
  refine Man.one (i := 45) rfl (by kernel_rfl) (fun K hK => ?_)
  go_simp
  (go_at_call 6; (with_reducible refine (Rd.known_any _ (And.left hHeld)).mono ?_); rintro e w' ⟨rfl, hb⟩)
  refine hK.out _ _ ?_ (fun hNew => ?_)
  · exact one_step hHeld hb
  clear hHeld hK K hb
  have hHeld := hNew
  clear hNew
  (try simp only [Act.put, List.setIfInBounds_toArray, List.set_cons_zero, List.set_cons_succ])
  refine Man.take1 (i := 46) (v := ?_) rfl (by kernel_rfl) (by kernel_rfl) (by kernel_rfl) (fun _ _ _ h => h) (by rfl) ?_ (by assumption) ?_
  rotate_left
  · (intro u hSu; (try dsimp only at hSu); go_simp; (try with_reducible rfl))
  (try simp only [Act.put, List.setIfInBounds_toArray, List.set_cons_zero, List.set_cons_succ])
  refine Man.take1 (i := 47) (v := ?_) rfl (by kernel_rfl) (by kernel_rfl) (by kernel_rfl) (fun _ _ _ h => h) (by rfl) ?_ (by assumption) ?_
  rotate_left
  · (intro u hSu; (try dsimp only at hSu); go_simp; (try with_reducible rfl))
  (try simp only [Act.put, List.setIfInBounds_toArray, List.set_cons_zero, List.set_cons_succ])
  refine wpAnyH_done (by kernel_rfl) ?_ _
  obtain ⟨hqe, hqb, hqz, a0, a1, a2, a3, c0, c1, c2, c3⟩ := hHeld
  have QB := Lib.hid hqb
  clear hqe hqb SS SD
  go_wp2_with fail
  go_ret
  exact ⟨rfl, QB.out⟩
theorem law_any (k n : Int) (b : Nat) (s : ByteArray) (k2 n2 : Int) (b2 : Nat) (s2 : ByteArray) (w : World) (he : Val.Env w) (hb_ : Hid (b < 18446744073709551616)) (hb2_ : Hid (b2 < 18446744073709551616)) (h0 : Hid (-9223372036854775808 ≤ n)) (h1 : Hid (n ≤ 9223372036854775807)) : Calls Tryd.prog 3 #[.agg #[.int .i64 k, .int .i64 n, .int .u64 b, .string s], .agg #[.int .i64 k2, .int .i64 n2, .int .u64 b2, .string s2]] w fun e w' => e = .returned (.bool true) ∧ Below w.heap.size w w' := by
  by_cases g1 : (5000 : Int) < s.size
  · exact te_long1 k n b s k2 n2 b2 s2 w he (decide_eq_true g1)
  · by_cases g2 : (5000 : Int) < s2.size
    · exact te_long2 k n b s k2 n2 b2 s2 w he (decide_eq_false g1) (decide_eq_true g2)
    · have d1 := decide_eq_false g1
      have d2 := decide_eq_false g2
      have hs : Hid (s.size ≤ 35184372088832) := Lib.hid (by omega)
      have hs2 : Hid (s2.size ≤ 35184372088832) := Lib.hid (by omega)
      have hT : Hid ((⟨(Val.showL k n b s).toArray⟩ : ByteArray).data.toList = Val.showL k n b s) := Lib.hid rfl
      cases ra : Val.rightB k n b s
      · exact te_w k n b s k2 n2 b2 s2 w he d1 d2 hb_ hb2_ hs hs2 h0 h1 _ hT _ (Lib.hid rfl) (Lib.hid ra) (Lib.hid (odd_same ra)) (Lib.hid (odd_truth ra))
      · cases rb : Val.rightB k2 n2 b2 s2
        · have sm : Val.sameB k n b s k2 n2 b2 s2 = false := by
            cases q : Val.eqV k n b s k2 n2 b2 s2
            · unfold Val.sameB; rw [q, Bool.false_and]
            · obtain ⟨e1, e2, e3, e4⟩ := (Rd.eqV_iff _ _ _ _ _ _ _ _).1 q
              obtain rfl : s = s2 := by rw [← eta s, ← eta s2, e4]
              obtain rfl : b = b2 := by omega
              subst e1 e2
              rw [ra] at rb; cases rb
          by_cases hk : k = 1
          · subst hk
            exact te_o1 n b s k2 n2 b2 s2 w he d1 d2 hb_ hb2_ hs hs2 h0 h1 _ hT _ (Lib.hid rfl) (Lib.hid ra) (Lib.hid rb) (Lib.hid sm) (Lib.hid (by unfold Val.truthI; rw [if_pos ⟨rfl, ra⟩]))
          · exact te_on k n b s k2 n2 b2 s2 w he d1 d2 hb_ hb2_ hs hs2 h0 h1 _ hT _ (Lib.hid rfl) (Lib.hid ra) (Lib.hid rb) (Lib.hid sm) (Lib.hid (by unfold Val.truthI; rw [if_neg (fun x => hk x.1)])) (by simp [hk])
        · cases q : Val.eqV k n b s k2 n2 b2 s2
          · have sm : Val.sameB k n b s k2 n2 b2 s2 = false := by unfold Val.sameB; rw [q, Bool.false_and]
            by_cases hk : k = 1
            · subst hk
              exact te_f1 n b s k2 n2 b2 s2 w he d1 d2 hb_ hb2_ hs hs2 h0 h1 _ hT _ (Lib.hid rfl) (Lib.hid ra) (Lib.hid rb) q (Lib.hid sm) (Lib.hid (by unfold Val.truthI; rw [if_pos ⟨rfl, ra⟩]))
            · exact te_fn k n b s k2 n2 b2 s2 w he d1 d2 hb_ hb2_ hs hs2 h0 h1 _ hT _ (Lib.hid rfl) (Lib.hid ra) (Lib.hid rb) q (Lib.hid sm) (Lib.hid (by unfold Val.truthI; rw [if_neg (fun x => hk x.1)])) (by simp [hk])
          · have sm : Val.sameB k n b s k2 n2 b2 s2 = true := by unfold Val.sameB; rw [q, ra, Bool.and_true]
            by_cases hk : k = 1
            · subst hk
              exact te_t1 n b s k2 n2 b2 s2 w he d1 d2 hb_ hb2_ hs hs2 h0 h1 _ hT _ (Lib.hid rfl) (Lib.hid ra) (Lib.hid rb) q (Lib.hid sm) (Lib.hid (by unfold Val.truthI; rw [if_pos ⟨rfl, ra⟩]))
            · exact te_tn k n b s k2 n2 b2 s2 w he d1 d2 hb_ hb2_ hs hs2 h0 h1 _ hT _ (Lib.hid rfl) (Lib.hid ra) (Lib.hid rb) q (Lib.hid sm) (Lib.hid (by unfold Val.truthI; rw [if_neg (fun x => hk x.1)])) (by simp [hk])
set_option maxRecDepth 100000 in
theorem contract (H : Type) (enc : TypeId × Value → H) (W : World) (base : Nat) (args : Array Value) (ds gs : List (DataW H)) (before : List MemPlace)
    (hval : ∀ (j : Nat) t v, Tryd.f3.params[j]? = some t → args[j]? = some v → Value.okWide Tryd.prog W .any base t v)
    (hW : DataW.Whole enc Tryd.prog Tryd.f3.params.toList Rows.valueTellsSpec.vars false W args.toList ds gs before) (hL : laidMet Tryd.prog Rows.valueTellsRow.laid W) :
    Calls Tryd.prog 3 args W fun e W' => ∃ v, e = .returned v ∧ Rows.valueTellsSpec.post enc Tryd.prog Tryd.f3 false true false false W args v W' := by
  have hW' := hW
  obtain ⟨p, q, hA0, hV, rfl, hfz, hnd⟩ := hW
  have hA : DataW.TrodAll enc Tryd.prog W 0 (fun _ => true) true Tryd.f3.params.toList args.toList ds p := hA0
  rw [Tryd.params3] at hA hval
  obtain ⟨v0, vs0, d0, ds0, p0, q0, hargs, rfl, rfl, h0, r0⟩ := trodAll_cons hA
  obtain ⟨v1, vs1, d1, ds1, p1, q1, rfl, rfl, rfl, h1, r1⟩ := trodAll_cons r0
  obtain ⟨rfl, rfl, rfl⟩ := trodAll_nil r1
  obtain rfl : args = #[v0, v1] := by cases args; simp_all
  obtain ⟨rfl, rfl⟩ := trodVars_none hV
  obtain ⟨xk, xn, xb, xs, rfl, rfl, rfl, wxk, wxn, wxb, wxs⟩ := Fr.open_val (hval 0 24 v0 rfl rfl) h0
  obtain ⟨yk, yn, yb, ys, rfl, rfl, rfl, wyk, wyn, wyb, wys⟩ := Fr.open_val (hval 1 24 v1 rfl rfl) h1
  clear hA0
  simp only [List.append_nil] at hW'
  have he := Fr.env_of hL
  have hb1 := bounds_u64 wxb
  have hb2 := bounds_u64 wyb
  have hn1 := bounds_i64 wxn
  obtain ⟨xb, rfl⟩ := Int.eq_ofNat_of_zero_le hb1.1
  obtain ⟨yb, rfl⟩ := Int.eq_ofNat_of_zero_le hb2.1
  have walk := law_any xk xn xb xs yk yn yb ys W he (Lib.hid (by omega)) (Lib.hid (by omega)) (Lib.hid hn1.1) (Lib.hid hn1.2)
  clear hb1 hb2 hn1
  refine walk.mono fun e W' ⟨he, hg⟩ => ?_
  subst he
  exact ⟨_, rfl, Fr.post_made (pa := []) (pv := []) hW' (fun _ _ _ => trodAll_cons_mk (shut_bool Tryd.underlying4 _) trodAll_mk0) (fun _ _ => (trodAll_cons_mk (Fr.shut_val wxk wxn wxb wxs) (trodAll_cons_mk (Fr.shut_val wyk wyn wyb wys) trodAll_mk0))) (fun _ _ => rfl) rfl hg (ok_one (by kernel_rfl) rfl (okWide_bool_mk Tryd.underlying4 _))⟩
theorem reads (os : Os) {H : Type} (enc : TypeId × Value → H) : ∃ places, DataW.whole enc Tryd.prog ((World.doorLaid Tryd.prog 600 os).forCall (fun _ _ => 0) ⟨#[], #[.agg #[.int .i64 0, .int .i64 0, .int .u64 0, .string ⟨#[]⟩], .agg #[.int .i64 0, .int .i64 0, .int .u64 0, .string ⟨#[]⟩]], []⟩).memory Tryd.f3.params.toList Rows.valueTellsSpec.vars false (#[.agg #[.int .i64 0, .int .i64 0, .int .u64 0, .string ⟨#[]⟩], .agg #[.int .i64 0, .int .i64 0, .int .u64 0, .string ⟨#[]⟩]] : Array Value).toList 8 = some ([.agg [.lit (.int .i64 0), .lit (.int .i64 0), .lit (.int .u64 0), .lit (.string [])], .agg [.lit (.int .i64 0), .lit (.int .i64 0), .lit (.int .u64 0), .lit (.string [])]], [], places) :=
  ⟨[], by kernel_rfl⟩
set_option maxRecDepth 100000 in
theorem lifted (os : Os) (started : os.Started) (H : Type) (enc : TypeId × Value → H) (F : Stop.Interp) :
    ReturnsInHanded {} Tryd.checked os 3 .any ((OpenSpec.ofChange Rows.valueTellsSpec).preRow enc Tryd.prog Tryd.f3 Rows.valueTellsRow.domain false Rows.valueTellsRow.laid) (((OpenSpec.ofChange Rows.valueTellsSpec).at F).post enc Tryd.prog Tryd.f3 false true false false) := by
  obtain ⟨places, hx⟩ := reads os enc
  refine returnsInHanded_of_row (C := Tryd.checked) (s := OpenSpec.ofChange Rows.valueTellsSpec) Fr.own started (by kernel_rfl) Tryd.func3
    (witness_row_atRef (enc := enc) (C := Tryd.checked) false (World.doorLaid Tryd.prog 600 os) #[.agg #[.int .i64 0, .int .i64 0, .int .u64 0, .string ⟨#[]⟩], .agg #[.int .i64 0, .int .i64 0, .int .u64 0, .string ⟨#[]⟩]] rfl (by kernel_rfl) (by kernel_rfl) (by kernel_rfl)
      (OpenSpec.preRow_of_cond 8 hx (by kernel_rfl) (fun k hk => by cases hk) (by kernel_rfl) (Fr.door_met os _))) ?_
  intro W base args ds gs before hval hW _ _ _ hL _ _
  exact contract H enc W base args ds gs before hval hW hL
theorem said : Rows.ValueTellsSaid :=
  OpenClaim.holds_of_cond 3 Tryd.f3 rfl rfl rfl rfl rfl rfl rfl ⟨rfl, rfl, rfl, rfl, rfl⟩ rfl rfl rfl rfl rfl (by kernel_rfl) Tryd.func3 (by kernel_rfl)
    (of_decide_eq_true (by kernel_rfl)) (by unfold Func.isWrapper; first | (rw [if_pos (by decide +kernel)]; kernel_rfl) | (rw [if_neg (by decide +kernel)]; exact ⟨rfl, rfl⟩))
    (fun os started H enc _ F => by rw [OpenClaim.pre_eq_preRow]; exact lifted os started H enc F)
theorem plain (f : FuncId) (fn : Func) (hf : Tryd.pinned.checked.prog.funcNamed "memoir/memoirlaw01.ValueTells" = some f) (hfn : Tryd.pinned.checked.prog.funcs[f]? = some fn) :
    true = Tryd.pinned.checked.prog.looks [] ∧ ∀ (j : Nat) t, fn.params[j]? = some t → Tryd.pinned.checked.prog.wantsStandIn t = false := by
  obtain rfl : f = 3 := Option.some.inj ((show Tryd.prog.funcNamed "memoir/memoirlaw01.ValueTells" = some 3 by kernel_rfl).symm.trans hf) |>.symm
  obtain rfl : fn = Tryd.f3 := (Option.some.inj (Tryd.func3.symm.trans hfn)).symm
  refine ⟨by kernel_rfl, fun j t ht => ?_⟩
  rw [Tryd.params3] at ht
  have hm := Array.mem_of_getElem? ht
  simp only [List.mem_toArray, List.mem_cons, List.not_mem_nil, or_false] at hm
  rcases hm with rfl | rfl
  all_goals exact (show Tryd.prog.wantsStandIn 24 = false by kernel_rfl)
theorem card : Rows.ValueTellsCardSaid :=
  Claim7.holds_tied_plain_at .later [] _ _ _ _ said (fun _ h => by cases h) (by kernel_rfl) (fun _ h => by cases h) valueTells_row_tie rfl ⟨rfl, rfl⟩ (by kernel_rfl) rfl plain (by kernel_rfl)
end LaValueTells
end Go.Proofs.YtinnkdbojgoicaaDoor
