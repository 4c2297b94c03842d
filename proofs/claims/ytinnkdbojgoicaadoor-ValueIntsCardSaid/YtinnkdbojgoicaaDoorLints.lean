/- ValueInts is proved: for every input the law returns true and its arguments read as they did; its listed variables are tied to the program's text. No other condition. -/
import Derived.Test.YtinnkdbojgoicaaDoorFrV
import Derived.Test.YtinnkdbojgoicaaDoorMan
import Derived.Lib.ItoaLen
namespace Go.Proofs.YtinnkdbojgoicaaDoor
open Go.ChangeShapes Go.WideShapes Go.ChangeAt Go.RowKit
namespace LaValueInts
theorem eta (s : ByteArray) : (⟨s.data.toList.toArray⟩ : ByteArray) = s := by
  rw [Array.toArray_toList]
theorem parse_some (T : ByteArray) (hmax : T.size ≤ 35184372088832) (k n : Int) (b : Nat) (s : ByteArray) (h : Rd.parse T.data.toList = some ⟨k, n, b, s.data.toList⟩) (w : World) (he : Val.Env w) :
    Calls Tryd.prog 15 #[.string T] w fun e w' => e = .returned (.tuple #[.agg #[.int .i64 k, .int .i64 n, .int .u64 b, .string s], .int .i64 0]) ∧ Below w.heap.size w w' := by
  have g := Rd.parse_any T hmax w he
  rw [h] at g
  refine g.mono ?_
  rintro e w' ⟨rfl, hb⟩
  exact ⟨by rw [eta], hb⟩
theorem parse_none (T : ByteArray) (hmax : T.size ≤ 35184372088832) (h : Rd.parse T.data.toList = none) (w : World) (he : Val.Env w) :
    Calls Tryd.prog 15 #[.string T] w fun e w' => e = .returned (.tuple #[.agg #[.int .i64 0, .int .i64 0, .int .u64 0, .string ⟨#[]⟩], .int .i64 7]) ∧ Below w.heap.size w w' := by
  have g := Rd.parse_any T hmax w he
  rw [h] at g
  exact g
theorem show_is (k n : Int) (b : Nat) (s T : ByteArray) (h0 : -9223372036854775808 ≤ n) (h1 : n ≤ 9223372036854775807) (hb : b < 18446744073709551616) (h : T.data.toList = Val.showL k n b s) (w : World) (he : Val.Env w) :
    Calls Tryd.prog 12 #[.agg #[.int .i64 k, .int .i64 n, .int .u64 b, .string s]] w fun e w' => e = .returned (.string T) ∧ Below w.heap.size w w' := by
  refine (Val.show_any k n b s w he h0 h1 hb).mono ?_
  rintro e w' ⟨rfl, hb⟩
  exact ⟨by rw [← h, eta], hb⟩
theorem right_is (k n : Int) (b : Nat) (s : ByteArray) (v : Bool) (h : Val.rightB k n b s = v) (w : World) :
    Calls Tryd.prog 8 #[.agg #[.int .i64 k, .int .i64 n, .int .u64 b, .string s]] w fun e w' => e = .returned (.bool v) ∧ Below w.heap.size w w' := by
  have g := Val.right_any k n b s w
  rw [h] at g; exact g
theorem self_eqV (k n : Int) (b : Nat) (s : ByteArray) : Val.eqV k n b s k n b s = true := (Rd.eqV_iff _ _ _ _ _ _ _ _).2 ⟨rfl, rfl, rfl, rfl⟩
theorem cmp_ints (m n : Int) (w : World) :
    Calls Tryd.prog 9 #[.agg #[.int .i64 2, .int .i64 m, .int .u64 0, .string ⟨#[]⟩], .agg #[.int .i64 2, .int .i64 n, .int .u64 0, .string ⟨#[]⟩]] w fun e w' => e = .returned (.int .i64 (Val.cmpI m n)) ∧ Below w.heap.size w w' := by
  have g := Val.compare_any 2 m 0 ⟨#[]⟩ 2 n 0 ⟨#[]⟩ w
  have r1 : Val.rightB 2 m 0 ⟨#[]⟩ = true := Rd.right2 m
  have r2 : Val.rightB 2 n 0 ⟨#[]⟩ = true := Rd.right2 n
  have e : Val.cmpV 2 m 0 ⟨#[]⟩ 2 n 0 ⟨#[]⟩ = Val.cmpI m n := by
    unfold Val.cmpV
    rw [r1, r2]
    simp
  rw [e] at g; exact g
theorem dec_mono (v : Nat) : ∀ u, u ≤ v → (Lib.decDigits u).length ≤ (Lib.decDigits v).length := by
  induction v using Nat.strongRecOn with
  | _ v ih =>
    intro u hu
    by_cases hv : v < 10
    · have hu' : u < 10 := by omega
      rw [Lib.decDigits, dif_pos hu', Lib.decDigits, dif_pos hv]
      simp
    · by_cases hu' : u < 10
      · rw [Lib.decDigits, dif_pos hu', Lib.decDigits, dif_neg hv]
        simp
      · rw [Lib.decDigits, dif_neg hu']
        rw [show Lib.decDigits v = Lib.decDigits (v / 10) ++ [UInt8.ofNat (48 + v % 10)] from by rw [Lib.decDigits, dif_neg hv]]
        have := ih (v / 10) (by omega) (u / 10) (by omega)
        simp only [List.length_append, List.length_cons, List.length_nil]
        omega
theorem itoa_up (m n : Int) (h0 : 0 ≤ m) (h : m ≤ n) : (Lib.itoa m).length ≤ (Lib.itoa n).length := by
  unfold Lib.itoa
  rw [if_neg (by omega), if_neg (by omega)]
  exact dec_mono _ _ (by omega)
theorem itoa_down (m n : Int) (h0 : m < 0) (h : n ≤ m) : (Lib.itoa m).length ≤ (Lib.itoa n).length := by
  unfold Lib.itoa
  rw [if_pos h0, if_pos (by omega)]
  have := dec_mono n.natAbs m.natAbs (by omega)
  simp only [List.length_cons]
  omega
theorem show_i (n : Int) (T : ByteArray) (h0 : -9223372036854775808 ≤ n) (h1 : n ≤ 9223372036854775807) (h : T.data.toList = Val.showL 2 n 0 ⟨#[]⟩) (w : World) (he : Val.Env w) :
    Calls Tryd.prog 12 #[.agg #[.int .i64 2, .int .i64 n, .int .u64 0, .string ⟨#[]⟩]] w fun e w' => e = .returned (.string T) ∧ Below w.heap.size w w' := show_is 2 n 0 ⟨#[]⟩ T h0 h1 (by decide) h w he
theorem two_step {w w1 w' : World} {b5 b6 b7 : Nat} {m n : Int} (h : Val.Env w1 ∧ Below w.heap.size w w1 ∧ w.heap.size ≤ w1.heap.size ∧ w1.cell? ⟨b5, 0, none⟩ = some (.int .i64 2) ∧ w1.cell? ⟨b5, 1, none⟩ = some (.int .i64 m) ∧ w1.cell? ⟨b5, 2, none⟩ = some (.int .u64 0) ∧ w1.cell? ⟨b5, 3, none⟩ = some (.string ⟨#[]⟩) ∧ w1.cell? ⟨b6, 0, none⟩ = some (.int .i64 2) ∧ w1.cell? ⟨b6, 1, none⟩ = some (.int .i64 n) ∧ w1.cell? ⟨b6, 2, none⟩ = some (.int .u64 0) ∧ w1.cell? ⟨b6, 3, none⟩ = some (.string ⟨#[]⟩) ∧ w1.cell? ⟨b7, 0, none⟩ = some (.int .i64 2) ∧ w1.cell? ⟨b7, 1, none⟩ = some (.int .i64 m) ∧ w1.cell? ⟨b7, 2, none⟩ = some (.int .u64 0) ∧ w1.cell? ⟨b7, 3, none⟩ = some (.string ⟨#[]⟩)) (hb : Below w1.heap.size w1 w') : Val.Env w' ∧ Below w.heap.size w w' ∧ w.heap.size ≤ w'.heap.size ∧ w'.cell? ⟨b5, 0, none⟩ = some (.int .i64 2) ∧ w'.cell? ⟨b5, 1, none⟩ = some (.int .i64 m) ∧ w'.cell? ⟨b5, 2, none⟩ = some (.int .u64 0) ∧ w'.cell? ⟨b5, 3, none⟩ = some (.string ⟨#[]⟩) ∧ w'.cell? ⟨b6, 0, none⟩ = some (.int .i64 2) ∧ w'.cell? ⟨b6, 1, none⟩ = some (.int .i64 n) ∧ w'.cell? ⟨b6, 2, none⟩ = some (.int .u64 0) ∧ w'.cell? ⟨b6, 3, none⟩ = some (.string ⟨#[]⟩) ∧ w'.cell? ⟨b7, 0, none⟩ = some (.int .i64 2) ∧ w'.cell? ⟨b7, 1, none⟩ = some (.int .i64 m) ∧ w'.cell? ⟨b7, 2, none⟩ = some (.int .u64 0) ∧ w'.cell? ⟨b7, 3, none⟩ = some (.string ⟨#[]⟩) := by
  obtain ⟨he, hB, hz, c0, c1, c2, c3, d0, d1, d2, d3, e0, e1, e2, e3⟩ := h
  exact ⟨he.below hb, hB.trans (hb.mono hz), Nat.le_trans hz hb.size, cell_later hb c0, cell_later hb c1, cell_later hb c2, cell_later hb c3, cell_later hb d0, cell_later hb d1, cell_later hb d2, cell_later hb d3, cell_later hb e0, cell_later hb e1, cell_later hb e2, cell_later hb e3⟩
set_option maxHeartbeats 8000000 in
set_option maxRecDepth 100000 in
theorem in_up_lt (m n : Int) (w : World) (he : Val.Env w) (m0 : -9223372036854775808 ≤ m) (m1 : m ≤ 9223372036854775807) (n0 : -9223372036854775808 ≤ n) (n1 : n ≤ 9223372036854775807) (Tm Tn : ByteArray) (hTm : Tm.data.toList = Val.showL 2 m 0 ⟨#[]⟩) (hTn : Tn.data.toList = Val.showL 2 n 0 ⟨#[]⟩) (hms : Tm.size ≤ 35184372088832) (hp : Rd.parse Tm.data.toList = some ⟨2, m, 0, []⟩) (cv : Int) (hcv : Val.cmpI m n = cv) (gm : decide (0 ≤ m) = true) (gn : decide (m ≤ n) = true) (gs : decide (m < 0) = false) (gl : decide (Tn.size < Tm.size) = false) (g1 : decide (m < n) = true) (g2 : decide (n < m) = false) (hcvv : cv = -1) : Calls Tryd.prog 5 #[.int .i64 m, .int .i64 n] w fun e w' => e = .returned (.bool true) ∧ Below w.heap.size w w' := by
  have hTm_ := Lib.hid hTm
  have hTn_ := Lib.hid hTn
  have hms_ := Lib.hid hms
  have hp_ := Lib.hid hp
  have m0_ := Lib.hid m0
  have m1_ := Lib.hid m1
  have n0_ := Lib.hid n0
  have n1_ := Lib.hid n1
  have hcv_ := Lib.hid hcv
  clear hTm hTn hms hp m0 m1 n0 n1 hcv
  obtain rfl : cv = -1 := hcvv
  have HE0 := Lib.hid ((he.below ((Below.refl w.heap.size w).alloc (Nat.le_refl _) (.cells #[.int .i64 2, .int .i64 m, .int .u64 0, .string ⟨#[]⟩] 24))).below ((Below.refl (w.alloc (.cells #[.int .i64 2, .int .i64 m, .int .u64 0, .string ⟨#[]⟩] 24)).heap.size (w.alloc (.cells #[.int .i64 2, .int .i64 m, .int .u64 0, .string ⟨#[]⟩] 24))).alloc (Nat.le_refl _) (.cells #[.int .i64 2, .int .i64 n, .int .u64 0, .string ⟨#[]⟩] 24)))
  have T50 := Lib.hid ((Rd.Box.new w 2 m 0 ⟨#[]⟩).old (.cells #[.int .i64 2, .int .i64 n, .int .u64 0, .string ⟨#[]⟩] 24))
  have T60 := Lib.hid (show Rd.Box ((w.alloc (.cells #[.int .i64 2, .int .i64 m, .int .u64 0, .string ⟨#[]⟩] 24)).alloc (.cells #[.int .i64 2, .int .i64 n, .int .u64 0, .string ⟨#[]⟩] 24)) (w.heap.size + 1) 2 n 0 ⟨#[]⟩ from by have h := Rd.Box.new (w.alloc (.cells #[.int .i64 2, .int .i64 m, .int .u64 0, .string ⟨#[]⟩] 24)) 2 n 0 ⟨#[]⟩; rwa [show (w.alloc (.cells #[.int .i64 2, .int .i64 m, .int .u64 0, .string ⟨#[]⟩] 24)).heap.size = w.heap.size + 1 from by simp] at h)
  have B0 := Lib.hid (((Below.refl w.heap.size w).alloc (Nat.le_refl _) (.cells #[.int .i64 2, .int .i64 m, .int .u64 0, .string ⟨#[]⟩] 24)).alloc (by simp) (.cells #[.int .i64 2, .int .i64 n, .int .u64 0, .string ⟨#[]⟩] 24))
  have Z0 : w.heap.size ≤ ((w.alloc (.cells #[.int .i64 2, .int .i64 m, .int .u64 0, .string ⟨#[]⟩] 24)).alloc (.cells #[.int .i64 2, .int .i64 n, .int .u64 0, .string ⟨#[]⟩] 24)).heap.size := by simp; omega
  clear he
  have gq := self_eqV 2 m 0 ⟨#[]⟩
  go_enter Tryd.func5, Tryd.ntmps5
  go_wp2_with fail
  refine (show_is 2 m 0 ⟨#[]⟩ Tm m0_.out m1_.out (by decide) hTm_.out _ HE0.out).mono ?_
  rintro e w1 ⟨rfl, hbn⟩
  have HE1 := Lib.hid (HE0.out.below hbn)
  have T51 := Lib.hid (T50.out.below hbn)
  have T61 := Lib.hid (T60.out.below hbn)
  have B1 := Lib.hid (B0.out.trans (hbn.mono Z0))
  have Z1 : w.heap.size ≤ w1.heap.size := Nat.le_trans Z0 hbn.size
  clear hbn HE0 B0 Z0 T50 T60
  go_wp2_with fail
  refine (parse_some Tm hms_.out 2 m 0 ⟨#[]⟩ hp_.out _ HE1.out).mono ?_
  rintro e w2 ⟨rfl, hbn⟩
  have HE2 := Lib.hid (HE1.out.below hbn)
  have T52 := Lib.hid (T51.out.below hbn)
  have T62 := Lib.hid (T61.out.below hbn)
  have B2 := Lib.hid (B1.out.trans (hbn.mono Z1))
  have Z2 : w.heap.size ≤ w2.heap.size := Nat.le_trans Z1 hbn.size
  clear hbn HE1 B1 Z1 T51 T61
  have HE2a := Lib.hid (HE2.out.below ((Below.refl w2.heap.size w2).alloc (Nat.le_refl _) (.cells #[.int .i64 2, .int .i64 m, .int .u64 0, .string ⟨#[]⟩] 24)))
  have T52a := Lib.hid (T52.out.old (.cells #[.int .i64 2, .int .i64 m, .int .u64 0, .string ⟨#[]⟩] 24))
  have T62a := Lib.hid (T62.out.old (.cells #[.int .i64 2, .int .i64 m, .int .u64 0, .string ⟨#[]⟩] 24))
  have T72a := Lib.hid (Rd.Box.new w2 2 m 0 ⟨#[]⟩)
  have B2a := Lib.hid (B2.out.alloc Z2 (.cells #[.int .i64 2, .int .i64 m, .int .u64 0, .string ⟨#[]⟩] 24))
  have Z2a : w.heap.size ≤ (w2.alloc (.cells #[.int .i64 2, .int .i64 m, .int .u64 0, .string ⟨#[]⟩] 24)).heap.size := by simp; omega
  clear HE2 B2 Z2 T52 T62
  have qT50 := T52a.out.c0
  have qT51 := T52a.out.c1
  have qT52 := T52a.out.c2
  have qT53 := T52a.out.c3
  have qT60 := T62a.out.c0
  have qT61 := T62a.out.c1
  have qT62 := T62a.out.c2
  have qT63 := T62a.out.c3
  go_wp2_with fail
  refine (cmp_ints m n _).mono ?_
  rw [hcv_.out]
  rintro e w3 ⟨rfl, hbn⟩
  clear qT50 qT51 qT52 qT53 qT60 qT61 qT62 qT63
  have HE3 := Lib.hid (HE2a.out.below hbn)
  have T53 := Lib.hid (T52a.out.below hbn)
  have T63 := Lib.hid (T62a.out.below hbn)
  have T73 := Lib.hid (T72a.out.below hbn)
  have B3 := Lib.hid (B2a.out.trans (hbn.mono Z2a))
  have Z3 : w.heap.size ≤ w3.heap.size := Nat.le_trans Z2a hbn.size
  clear hbn HE2a B2a Z2a T52a T62a T72a
  go_wp2_with fail
  have SS : (fun w' => Val.Env w' ∧ Below w.heap.size w w' ∧ w.heap.size ≤ w'.heap.size ∧ w'.cell? ⟨w.heap.size, 0, none⟩ = some (.int .i64 2) ∧ w'.cell? ⟨w.heap.size, 1, none⟩ = some (.int .i64 m) ∧ w'.cell? ⟨w.heap.size, 2, none⟩ = some (.int .u64 0) ∧ w'.cell? ⟨w.heap.size, 3, none⟩ = some (.string ⟨#[]⟩) ∧ w'.cell? ⟨(w.heap.size + 1), 0, none⟩ = some (.int .i64 2) ∧ w'.cell? ⟨(w.heap.size + 1), 1, none⟩ = some (.int .i64 n) ∧ w'.cell? ⟨(w.heap.size + 1), 2, none⟩ = some (.int .u64 0) ∧ w'.cell? ⟨(w.heap.size + 1), 3, none⟩ = some (.string ⟨#[]⟩) ∧ w'.cell? ⟨w2.heap.size, 0, none⟩ = some (.int .i64 2) ∧ w'.cell? ⟨w2.heap.size, 1, none⟩ = some (.int .i64 m) ∧ w'.cell? ⟨w2.heap.size, 2, none⟩ = some (.int .u64 0) ∧ w'.cell? ⟨w2.heap.size, 3, none⟩ = some (.string ⟨#[]⟩)) w3 := ⟨HE3.out, B3.out, Z3, T53.out.c0, T53.out.c1, T53.out.c2, T53.out.c3, T63.out.c0, T63.out.c1, T63.out.c2, T63.out.c3, T73.out.c0, T73.out.c1, T73.out.c2, T73.out.c3⟩
  clear HE3 B3 Z3 T53 T63 T73
  generalize w2.heap.size = b7 at SS ⊢
  have SD : (fun w' => Val.Env w' ∧ Below w.heap.size w w' ∧ w.heap.size ≤ w'.heap.size ∧ w'.cell? ⟨w.heap.size, 0, none⟩ = some (.int .i64 2) ∧ w'.cell? ⟨w.heap.size, 1, none⟩ = some (.int .i64 m) ∧ w'.cell? ⟨w.heap.size, 2, none⟩ = some (.int .u64 0) ∧ w'.cell? ⟨w.heap.size, 3, none⟩ = some (.string ⟨#[]⟩) ∧ w'.cell? ⟨(w.heap.size + 1), 0, none⟩ = some (.int .i64 2) ∧ w'.cell? ⟨(w.heap.size + 1), 1, none⟩ = some (.int .i64 n) ∧ w'.cell? ⟨(w.heap.size + 1), 2, none⟩ = some (.int .u64 0) ∧ w'.cell? ⟨(w.heap.size + 1), 3, none⟩ = some (.string ⟨#[]⟩) ∧ w'.cell? ⟨b7, 0, none⟩ = some (.int .i64 2) ∧ w'.cell? ⟨b7, 1, none⟩ = some (.int .i64 m) ∧ w'.cell? ⟨b7, 2, none⟩ = some (.int .u64 0) ∧ w'.cell? ⟨b7, 3, none⟩ = some (.string ⟨#[]⟩)) w3.drew := ⟨SS.1.below (Below.refl _ w3).drew, SS.2.1.drew, SS.2.2⟩
  refine wp_region_held_drew (S := fun w' => Val.Env w' ∧ Below w.heap.size w w' ∧ w.heap.size ≤ w'.heap.size ∧ w'.cell? ⟨w.heap.size, 0, none⟩ = some (.int .i64 2) ∧ w'.cell? ⟨w.heap.size, 1, none⟩ = some (.int .i64 m) ∧ w'.cell? ⟨w.heap.size, 2, none⟩ = some (.int .u64 0) ∧ w'.cell? ⟨w.heap.size, 3, none⟩ = some (.string ⟨#[]⟩) ∧ w'.cell? ⟨(w.heap.size + 1), 0, none⟩ = some (.int .i64 2) ∧ w'.cell? ⟨(w.heap.size + 1), 1, none⟩ = some (.int .i64 n) ∧ w'.cell? ⟨(w.heap.size + 1), 2, none⟩ = some (.int .u64 0) ∧ w'.cell? ⟨(w.heap.size + 1), 3, none⟩ = some (.string ⟨#[]⟩) ∧ w'.cell? ⟨b7, 0, none⟩ = some (.int .i64 2) ∧ w'.cell? ⟨b7, 1, none⟩ = some (.int .i64 m) ∧ w'.cell? ⟨b7, 2, none⟩ = some (.int .u64 0) ∧ w'.cell? ⟨b7, 3, none⟩ = some (.string ⟨#[]⟩)) (by kernel_rfl) ?_ (fun hHeld => ?_)
  · exact SD
  refine Man.take1 (i := 0) (v := ?_) rfl (by kernel_rfl) (by kernel_rfl) (by kernel_rfl) (fun _ _ _ h => h) (by rfl) ?_ (by assumption) ?_
  rotate_left
  · (intro u hSu; (try dsimp only at hSu); go_simp; (try with_reducible rfl))
  (try simp only [Act.put, List.setIfInBounds_toArray, List.set_cons_zero, List.set_cons_succ])
  refine Man.take1 (i := 1) (v := ?_) rfl (by kernel_rfl) (by kernel_rfl) (by kernel_rfl) (fun _ _ _ h => h) (by rfl) ?_ (by assumption) ?_
  rotate_left
  · (intro u hSu; (try dsimp only at hSu); go_simp; (try with_reducible rfl))
  (try simp only [Act.put, List.setIfInBounds_toArray, List.set_cons_zero, List.set_cons_succ])
  refine Man.take1 (i := 2) (v := ?_) rfl (by kernel_rfl) (by kernel_rfl) (by kernel_rfl) (fun _ _ _ h => h) (by rfl) ?_ (by assumption) ?_
  rotate_left
  · (intro u hSu; (try dsimp only at hSu); go_simp; (try with_reducible rfl))
  (try simp only [Act.put, List.setIfInBounds_toArray, List.set_cons_zero, List.set_cons_succ])
  refine Man.take1 (i := 3) (v := ?_) rfl (by kernel_rfl) (by kernel_rfl) (by kernel_rfl) (fun _ _ _ h => h) (by rfl) ?_ (by assumption) ?_
  rotate_left
  · (intro u hSu; (try dsimp only at hSu); go_simp; (try with_reducible rfl))
  (try simp only [Act.put, List.setIfInBounds_toArray, List.set_cons_zero, List.set_cons_succ])
  refine Man.take1 (i := 4) (v := ?_) rfl (by kernel_rfl) (by kernel_rfl) (by kernel_rfl) (fun _ _ _ h => h) (by rfl) ?_ (by assumption) ?_
  rotate_left
  · (intro u hSu; (try dsimp only at hSu); go_simp; (try with_reducible rfl))
  (try simp only [Act.put, List.setIfInBounds_toArray, List.set_cons_zero, List.set_cons_succ])
  refine Man.take1 (i := 5) (v := ?_) rfl (by kernel_rfl) (by kernel_rfl) (by kernel_rfl) (fun _ _ _ h => h) (by rfl) ?_ (by assumption) ?_
  rotate_left
  · (intro u hSu; (try dsimp only at hSu); go_simp; (try with_reducible rfl))
  (try simp only [Act.put, List.setIfInBounds_toArray, List.set_cons_zero, List.set_cons_succ])
  refine Man.take1 (i := 6) (v := ?_) rfl (by kernel_rfl) (by kernel_rfl) (by kernel_rfl) (fun _ _ _ h => h) (by rfl) ?_ (by assumption) ?_
  rotate_left
  · (intro u hSu; (try dsimp only at hSu); go_simp; (try with_reducible rfl))
  (try simp only [Act.put, List.setIfInBounds_toArray, List.set_cons_zero, List.set_cons_succ])
  refine Man.take1 (i := 7) (v := ?_) rfl (by kernel_rfl) (by kernel_rfl) (by kernel_rfl) (fun _ _ _ h => h) (by rfl) ?_ (by assumption) ?_
  rotate_left
  · (intro u hSu; (try dsimp only at hSu); go_simp; (try with_reducible rfl))
  (try simp only [Act.put, List.setIfInBounds_toArray, List.set_cons_zero, List.set_cons_succ])
  refine Man.take1 (i := 8) (v := ?_) rfl (by kernel_rfl) (by kernel_rfl) (by kernel_rfl) (fun _ _ _ h => h) (by rfl) ?_ (by assumption) ?_
  rotate_left
  · (intro u hSu; (try dsimp only at hSu); go_simp; (try with_reducible rfl))
  (try simp only [Act.put, List.setIfInBounds_toArray, List.set_cons_zero, List.set_cons_succ])
  refine Man.take1 (i := 11) (v := ?_) rfl (by kernel_rfl) (by kernel_rfl) (by kernel_rfl) (fun _ _ _ h => h) (by rfl) ?_ (by assumption) ?_
  rotate_left
  · (intro u hSu; (try dsimp only at hSu); go_simp; (try with_reducible rfl))
  (try simp only [Act.put, List.setIfInBounds_toArray, List.set_cons_zero, List.set_cons_succ])
  refine Man.one (i := 9) rfl (by kernel_rfl) (fun K hK => ?_)
  go_simp
  (go_at_call 12; (with_reducible refine (show_i n Tn n0_.out n1_.out hTn_.out _ (And.left hHeld)).mono ?_); rintro e w' ⟨rfl, hb⟩)
  refine hK.out _ _ ?_ (fun hNew => ?_)
  · exact two_step hHeld hb
  clear hHeld hK K hb
  have hHeld := hNew
  clear hNew
  (try simp only [Act.put, List.setIfInBounds_toArray, List.set_cons_zero, List.set_cons_succ])
  refine Man.take1 (i := 10) (v := ?_) rfl (by kernel_rfl) (by kernel_rfl) (by kernel_rfl) (fun _ _ _ h => h) (by rfl) ?_ (by assumption) ?_
  rotate_left
  · (intro u hSu; (try dsimp only at hSu); go_simp; (try with_reducible rfl))
  (try simp only [Act.put, List.setIfInBounds_toArray, List.set_cons_zero, List.set_cons_succ])
  refine Man.one (i := 12) rfl (by kernel_rfl) (fun K hK => ?_)
  go_simp
  (go_at_call 12; (with_reducible refine (show_i m Tm m0_.out m1_.out hTm_.out _ (And.left hHeld)).mono ?_); rintro e w' ⟨rfl, hb⟩)
  refine hK.out _ _ ?_ (fun hNew => ?_)
  · exact two_step hHeld hb
  clear hHeld hK K hb
  have hHeld := hNew
  clear hNew
  (try simp only [Act.put, List.setIfInBounds_toArray, List.set_cons_zero, List.set_cons_succ])
  refine Man.take1 (i := 13) (v := ?_) rfl (by kernel_rfl) (by kernel_rfl) (by kernel_rfl) (fun _ _ _ h => h) (by rfl) ?_ (by assumption) ?_
  rotate_left
  · (intro u hSu; (try dsimp only at hSu); go_simp; (try with_reducible rfl))
  (try simp only [Act.put, List.setIfInBounds_toArray, List.set_cons_zero, List.set_cons_succ])
  refine Man.take1 (i := 14) (v := ?_) rfl (by kernel_rfl) (by kernel_rfl) (by kernel_rfl) (fun _ _ _ h => h) (by rfl) ?_ (by assumption) ?_
  rotate_left
  · (intro u hSu; (try dsimp only at hSu); go_simp; (try with_reducible rfl))
  (try simp only [Act.put, List.setIfInBounds_toArray, List.set_cons_zero, List.set_cons_succ])
  refine Man.take1 (i := 15) (v := ?_) rfl (by kernel_rfl) (by kernel_rfl) (by kernel_rfl) (fun _ _ _ h => h) (by rfl) ?_ (by assumption) ?_
  rotate_left
  · (intro u hSu; (try dsimp only at hSu); go_simp; (try with_reducible rfl))
  (try simp only [Act.put, List.setIfInBounds_toArray, List.set_cons_zero, List.set_cons_succ])
  refine Man.take1 (i := 16) (v := ?_) rfl (by kernel_rfl) (by kernel_rfl) (by kernel_rfl) (fun _ _ _ h => h) (by rfl) ?_ (by assumption) ?_
  rotate_left
  · (intro u hSu; (try dsimp only at hSu); go_simp; (try with_reducible rfl))
  (try simp only [Act.put, List.setIfInBounds_toArray, List.set_cons_zero, List.set_cons_succ])
  refine Man.take1 (i := 17) (v := ?_) rfl (by kernel_rfl) (by kernel_rfl) (by kernel_rfl) (fun _ _ _ h => h) (by rfl) ?_ (by assumption) ?_
  rotate_left
  · (intro u hSu; (try dsimp only at hSu); go_simp; (try with_reducible rfl))
  (try simp only [Act.put, List.setIfInBounds_toArray, List.set_cons_zero, List.set_cons_succ])
  refine Man.take1 (i := 18) (v := ?_) rfl (by kernel_rfl) (by kernel_rfl) (by kernel_rfl) (fun _ _ _ h => h) (by rfl) ?_ (by assumption) ?_
  rotate_left
  · (intro u hSu; (try dsimp only at hSu); go_simp; (try with_reducible rfl))
  (try simp only [Act.put, List.setIfInBounds_toArray, List.set_cons_zero, List.set_cons_succ])
  refine Man.take1 (i := 19) (v := ?_) rfl (by kernel_rfl) (by kernel_rfl) (by kernel_rfl) (fun _ _ _ h => h) (by rfl) ?_ (by assumption) ?_
  rotate_left
  · (intro u hSu; (try dsimp only at hSu); go_simp; (try with_reducible rfl))
  (try simp only [Act.put, List.setIfInBounds_toArray, List.set_cons_zero, List.set_cons_succ])
  refine Man.take0 (i := 20) rfl (by kernel_rfl) (by kernel_rfl) (by kernel_rfl) (fun _ _ _ h => h) (by rfl) (by assumption) ?_
  (try simp only [Act.put, List.setIfInBounds_toArray, List.set_cons_zero, List.set_cons_succ])
  refine Man.take0 (i := 21) rfl (by kernel_rfl) (by kernel_rfl) (by kernel_rfl) (fun _ _ _ h => h) (by rfl) (by assumption) ?_
  (try simp only [Act.put, List.setIfInBounds_toArray, List.set_cons_zero, List.set_cons_succ])
  refine Man.take0 (i := 22) rfl (by kernel_rfl) (by kernel_rfl) (by kernel_rfl) (fun _ _ _ h => h) (by rfl) (by assumption) ?_
  (try simp only [Act.put, List.setIfInBounds_toArray, List.set_cons_zero, List.set_cons_succ])
  refine Man.take1 (i := 23) (v := ?_) rfl (by kernel_rfl) (by kernel_rfl) (by kernel_rfl) (fun _ _ _ h => h) (by rfl) ?_ (by assumption) ?_
  rotate_left
  · (intro u hSu; (try dsimp only at hSu); go_simp; (try with_reducible rfl))
  (try simp only [Act.put, List.setIfInBounds_toArray, List.set_cons_zero, List.set_cons_succ])
  refine Man.take1 (i := 24) (v := ?_) rfl (by kernel_rfl) (by kernel_rfl) (by kernel_rfl) (fun _ _ _ h => h) (by rfl) ?_ (by assumption) ?_
  rotate_left
  · (intro u hSu; (try dsimp only at hSu); go_simp; (try with_reducible rfl))
  (try simp only [Act.put, List.setIfInBounds_toArray, List.set_cons_zero, List.set_cons_succ])
  refine Man.take0 (i := 25) rfl (by kernel_rfl) (by kernel_rfl) (by kernel_rfl) (fun _ _ _ h => h) (by rfl) (by assumption) ?_
  (try simp only [Act.put, List.setIfInBounds_toArray, List.set_cons_zero, List.set_cons_succ])
  refine Man.take0 (i := 26) rfl (by kernel_rfl) (by kernel_rfl) (by kernel_rfl) (fun _ _ _ h => h) (by rfl) (by assumption) ?_
  (try simp only [Act.put, List.setIfInBounds_toArray, List.set_cons_zero, List.set_cons_succ])
  refine Man.take0 (i := 27) rfl (by kernel_rfl) (by kernel_rfl) (by kernel_rfl) (fun _ _ _ h => h) (by rfl) (by assumption) ?_
  (try simp only [Act.put, List.setIfInBounds_toArray, List.set_cons_zero, List.set_cons_succ])
  refine Man.take0 (i := 28) rfl (by kernel_rfl) (by kernel_rfl) (by kernel_rfl) (fun _ _ _ h => h) (by rfl) (by assumption) ?_
  (try simp only [Act.put, List.setIfInBounds_toArray, List.set_cons_zero, List.set_cons_succ])
  refine Man.take0 (i := 29) rfl (by kernel_rfl) (by kernel_rfl) (by kernel_rfl) (fun _ _ _ h => h) (by rfl) (by assumption) ?_
  (try simp only [Act.put, List.setIfInBounds_toArray, List.set_cons_zero, List.set_cons_succ])
  refine Man.take0 (i := 30) rfl (by kernel_rfl) (by kernel_rfl) (by kernel_rfl) (fun _ _ _ h => h) (by rfl) (by assumption) ?_
  (try simp only [Act.put, List.setIfInBounds_toArray, List.set_cons_zero, List.set_cons_succ])
  refine Man.take0 (i := 31) rfl (by kernel_rfl) (by kernel_rfl) (by kernel_rfl) (fun _ _ _ h => h) (by rfl) (by assumption) ?_
  (try simp only [Act.put, List.setIfInBounds_toArray, List.set_cons_zero, List.set_cons_succ])
  refine Man.take1 (i := 32) (v := ?_) rfl (by kernel_rfl) (by kernel_rfl) (by kernel_rfl) (fun _ _ _ h => h) (by rfl) ?_ (by assumption) ?_
  rotate_left
  · (intro u hSu; (try dsimp only at hSu); go_simp; (try with_reducible rfl))
  (try simp only [Act.put, List.setIfInBounds_toArray, List.set_cons_zero, List.set_cons_succ])
  refine Man.take1 (i := 33) (v := ?_) rfl (by kernel_rfl) (by kernel_rfl) (by kernel_rfl) (fun _ _ _ h => h) (by rfl) ?_ (by assumption) ?_
  rotate_left
  · (intro u hSu; (try dsimp only at hSu); go_simp; (try with_reducible rfl))
  (try simp only [Act.put, List.setIfInBounds_toArray, List.set_cons_zero, List.set_cons_succ])
  refine wpAnyH_done (by kernel_rfl) ?_ _
  obtain ⟨hqe, hqb, hqz, a0, a1, a2, a3, b0, b1, b2, b3, e0, e1, e2, e3⟩ := hHeld
  have QE := Lib.hid hqe
  have QB := Lib.hid hqb
  clear hqe hqb SS SD
  go_wp2_with fail
  refine (Rd.known_any _ QE.out).mono ?_
  rintro e w9 ⟨rfl, hbn⟩
  have B9 := Lib.hid (QB.out.trans (hbn.mono hqz))
  clear hbn
  go_wp2_with fail
  go_ret
  exact ⟨rfl, B9.out⟩
set_option maxHeartbeats 8000000 in
set_option maxRecDepth 100000 in
theorem in_up_eq (m n : Int) (w : World) (he : Val.Env w) (m0 : -9223372036854775808 ≤ m) (m1 : m ≤ 9223372036854775807) (n0 : -9223372036854775808 ≤ n) (n1 : n ≤ 9223372036854775807) (Tm Tn : ByteArray) (hTm : Tm.data.toList = Val.showL 2 m 0 ⟨#[]⟩) (hTn : Tn.data.toList = Val.showL 2 n 0 ⟨#[]⟩) (hms : Tm.size ≤ 35184372088832) (hp : Rd.parse Tm.data.toList = some ⟨2, m, 0, []⟩) (cv : Int) (hcv : Val.cmpI m n = cv) (gm : decide (0 ≤ m) = true) (gn : decide (m ≤ n) = true) (gs : decide (m < 0) = false) (gl : decide (Tn.size < Tm.size) = false) (g1 : decide (m < n) = false) (g2 : decide (n < m) = false) (hcvv : cv = 0) : Calls Tryd.prog 5 #[.int .i64 m, .int .i64 n] w fun e w' => e = .returned (.bool true) ∧ Below w.heap.size w w' := by
  have hTm_ := Lib.hid hTm
  have hTn_ := Lib.hid hTn
  have hms_ := Lib.hid hms
  have hp_ := Lib.hid hp
  have m0_ := Lib.hid m0
  have m1_ := Lib.hid m1
  have n0_ := Lib.hid n0
  have n1_ := Lib.hid n1
  have hcv_ := Lib.hid hcv
  clear hTm hTn hms hp m0 m1 n0 n1 hcv
  obtain rfl : cv = 0 := hcvv
  have HE0 := Lib.hid ((he.below ((Below.refl w.heap.size w).alloc (Nat.le_refl _) (.cells #[.int .i64 2, .int .i64 m, .int .u64 0, .string ⟨#[]⟩] 24))).below ((Below.refl (w.alloc (.cells #[.int .i64 2, .int .i64 m, .int .u64 0, .string ⟨#[]⟩] 24)).heap.size (w.alloc (.cells #[.int .i64 2, .int .i64 m, .int .u64 0, .string ⟨#[]⟩] 24))).alloc (Nat.le_refl _) (.cells #[.int .i64 2, .int .i64 n, .int .u64 0, .string ⟨#[]⟩] 24)))
  have T50 := Lib.hid ((Rd.Box.new w 2 m 0 ⟨#[]⟩).old (.cells #[.int .i64 2, .int .i64 n, .int .u64 0, .string ⟨#[]⟩] 24))
  have T60 := Lib.hid (show Rd.Box ((w.alloc (.cells #[.int .i64 2, .int .i64 m, .int .u64 0, .string ⟨#[]⟩] 24)).alloc (.cells #[.int .i64 2, .int .i64 n, .int .u64 0, .string ⟨#[]⟩] 24)) (w.heap.size + 1) 2 n 0 ⟨#[]⟩ from by have h := Rd.Box.new (w.alloc (.cells #[.int .i64 2, .int .i64 m, .int .u64 0, .string ⟨#[]⟩] 24)) 2 n 0 ⟨#[]⟩; rwa [show (w.alloc (.cells #[.int .i64 2, .int .i64 m, .int .u64 0, .string ⟨#[]⟩] 24)).heap.size = w.heap.size + 1 from by simp] at h)
  have B0 := Lib.hid (((Below.refl w.heap.size w).alloc (Nat.le_refl _) (.cells #[.int .i64 2, .int .i64 m, .int .u64 0, .string ⟨#[]⟩] 24)).alloc (by simp) (.cells #[.int .i64 2, .int .i64 n, .int .u64 0, .string ⟨#[]⟩] 24))
  have Z0 : w.heap.size ≤ ((w.alloc (.cells #[.int .i64 2, .int .i64 m, .int .u64 0, .string ⟨#[]⟩] 24)).alloc (.cells #[.int .i64 2, .int .i64 n, .int .u64 0, .string ⟨#[]⟩] 24)).heap.size := by simp; omega
  clear he
  have gq := self_eqV 2 m 0 ⟨#[]⟩
  go_enter Tryd.func5, Tryd.ntmps5
  go_wp2_with fail
  refine (show_is 2 m 0 ⟨#[]⟩ Tm m0_.out m1_.out (by decide) hTm_.out _ HE0.out).mono ?_
  rintro e w1 ⟨rfl, hbn⟩
  have HE1 := Lib.hid (HE0.out.below hbn)
  have T51 := Lib.hid (T50.out.below hbn)
  have T61 := Lib.hid (T60.out.below hbn)
  have B1 := Lib.hid (B0.out.trans (hbn.mono Z0))
  have Z1 : w.heap.size ≤ w1.heap.size := Nat.le_trans Z0 hbn.size
  clear hbn HE0 B0 Z0 T50 T60
  go_wp2_with fail
  refine (parse_some Tm hms_.out 2 m 0 ⟨#[]⟩ hp_.out _ HE1.out).mono ?_
  rintro e w2 ⟨rfl, hbn⟩
  have HE2 := Lib.hid (HE1.out.below hbn)
  have T52 := Lib.hid (T51.out.below hbn)
  have T62 := Lib.hid (T61.out.below hbn)
  have B2 := Lib.hid (B1.out.trans (hbn.mono Z1))
  have Z2 : w.heap.size ≤ w2.heap.size := Nat.le_trans Z1 hbn.size
  clear hbn HE1 B1 Z1 T51 T61
  have HE2a := Lib.hid (HE2.out.below ((Below.refl w2.heap.size w2).alloc (Nat.le_refl _) (.cells #[.int .i64 2, .int .i64 m, .int .u64 0, .string ⟨#[]⟩] 24)))
  have T52a := Lib.hid (T52.out.old (.cells #[.int .i64 2, .int .i64 m, .int .u64 0, .string ⟨#[]⟩] 24))
  have T62a := Lib.hid (T62.out.old (.cells #[.int .i64 2, .int .i64 m, .int .u64 0, .string ⟨#[]⟩] 24))
  have T72a := Lib.hid (Rd.Box.new w2 2 m 0 ⟨#[]⟩)
  have B2a := Lib.hid (B2.out.alloc Z2 (.cells #[.int .i64 2, .int .i64 m, .int .u64 0, .string ⟨#[]⟩] 24))
  have Z2a : w.heap.size ≤ (w2.alloc (.cells #[.int .i64 2, .int .i64 m, .int .u64 0, .string ⟨#[]⟩] 24)).heap.size := by simp; omega
  clear HE2 B2 Z2 T52 T62
  have qT50 := T52a.out.c0
  have qT51 := T52a.out.c1
  have qT52 := T52a.out.c2
  have qT53 := T52a.out.c3
  have qT60 := T62a.out.c0
  have qT61 := T62a.out.c1
  have qT62 := T62a.out.c2
  have qT63 := T62a.out.c3
  go_wp2_with fail
  refine (cmp_ints m n _).mono ?_
  rw [hcv_.out]
  rintro e w3 ⟨rfl, hbn⟩
  clear qT50 qT51 qT52 qT53 qT60 qT61 qT62 qT63
  have HE3 := Lib.hid (HE2a.out.below hbn)
  have T53 := Lib.hid (T52a.out.below hbn)
  have T63 := Lib.hid (T62a.out.below hbn)
  have T73 := Lib.hid (T72a.out.below hbn)
  have B3 := Lib.hid (B2a.out.trans (hbn.mono Z2a))
  have Z3 : w.heap.size ≤ w3.heap.size := Nat.le_trans Z2a hbn.size
  clear hbn HE2a B2a Z2a T52a T62a T72a
  go_wp2_with fail
  have SS : (fun w' => Val.Env w' ∧ Below w.heap.size w w' ∧ w.heap.size ≤ w'.heap.size ∧ w'.cell? ⟨w.heap.size, 0, none⟩ = some (.int .i64 2) ∧ w'.cell? ⟨w.heap.size, 1, none⟩ = some (.int .i64 m) ∧ w'.cell? ⟨w.heap.size, 2, none⟩ = some (.int .u64 0) ∧ w'.cell? ⟨w.heap.size, 3, none⟩ = some (.string ⟨#[]⟩) ∧ w'.cell? ⟨(w.heap.size + 1), 0, none⟩ = some (.int .i64 2) ∧ w'.cell? ⟨(w.heap.size + 1), 1, none⟩ = some (.int .i64 n) ∧ w'.cell? ⟨(w.heap.size + 1), 2, none⟩ = some (.int .u64 0) ∧ w'.cell? ⟨(w.heap.size + 1), 3, none⟩ = some (.string ⟨#[]⟩) ∧ w'.cell? ⟨w2.heap.size, 0, none⟩ = some (.int .i64 2) ∧ w'.cell? ⟨w2.heap.size, 1, none⟩ = some (.int .i64 m) ∧ w'.cell? ⟨w2.heap.size, 2, none⟩ = some (.int .u64 0) ∧ w'.cell? ⟨w2.heap.size, 3, none⟩ = some (.string ⟨#[]⟩)) w3 := ⟨HE3.out, B3.out, Z3, T53.out.c0, T53.out.c1, T53.out.c2, T53.out.c3, T63.out.c0, T63.out.c1, T63.out.c2, T63.out.c3, T73.out.c0, T73.out.c1, T73.out.c2, T73.out.c3⟩
  clear HE3 B3 Z3 T53 T63 T73
  generalize w2.heap.size = b7 at SS ⊢
  have SD : (fun w' => Val.Env w' ∧ Below w.heap.size w w' ∧ w.heap.size ≤ w'.heap.size ∧ w'.cell? ⟨w.heap.size, 0, none⟩ = some (.int .i64 2) ∧ w'.cell? ⟨w.heap.size, 1, none⟩ = some (.int .i64 m) ∧ w'.cell? ⟨w.heap.size, 2, none⟩ = some (.int .u64 0) ∧ w'.cell? ⟨w.heap.size, 3, none⟩ = some (.string ⟨#[]⟩) ∧ w'.cell? ⟨(w.heap.size + 1), 0, none⟩ = some (.int .i64 2) ∧ w'.cell? ⟨(w.heap.size + 1), 1, none⟩ = some (.int .i64 n) ∧ w'.cell? ⟨(w.heap.size + 1), 2, none⟩ = some (.int .u64 0) ∧ w'.cell? ⟨(w.heap.size + 1), 3, none⟩ = some (.string ⟨#[]⟩) ∧ w'.cell? ⟨b7, 0, none⟩ = some (.int .i64 2) ∧ w'.cell? ⟨b7, 1, none⟩ = some (.int .i64 m) ∧ w'.cell? ⟨b7, 2, none⟩ = some (.int .u64 0) ∧ w'.cell? ⟨b7, 3, none⟩ = some (.string ⟨#[]⟩)) w3.drew := ⟨SS.1.below (Below.refl _ w3).drew, SS.2.1.drew, SS.2.2⟩
  refine wp_region_held_drew (S := fun w' => Val.Env w' ∧ Below w.heap.size w w' ∧ w.heap.size ≤ w'.heap.size ∧ w'.cell? ⟨w.heap.size, 0, none⟩ = some (.int .i64 2) ∧ w'.cell? ⟨w.heap.size, 1, none⟩ = some (.int .i64 m) ∧ w'.cell? ⟨w.heap.size, 2, none⟩ = some (.int .u64 0) ∧ w'.cell? ⟨w.heap.size, 3, none⟩ = some (.string ⟨#[]⟩) ∧ w'.cell? ⟨(w.heap.size + 1), 0, none⟩ = some (.int .i64 2) ∧ w'.cell? ⟨(w.heap.size + 1), 1, none⟩ = some (.int .i64 n) ∧ w'.cell? ⟨(w.heap.size + 1), 2, none⟩ = some (.int .u64 0) ∧ w'.cell? ⟨(w.heap.size + 1), 3, none⟩ = some (.string ⟨#[]⟩) ∧ w'.cell? ⟨b7, 0, none⟩ = some (.int .i64 2) ∧ w'.cell? ⟨b7, 1, none⟩ = some (.int .i64 m) ∧ w'.cell? ⟨b7, 2, none⟩ = some (.int .u64 0) ∧ w'.cell? ⟨b7, 3, none⟩ = some (.string ⟨#[]⟩)) (by kernel_rfl) ?_ (fun hHeld => ?_)
  · exact SD
  refine Man.take1 (i := 0) (v := ?_) rfl (by kernel_rfl) (by kernel_rfl) (by kernel_rfl) (fun _ _ _ h => h) (by rfl) ?_ (by assumption) ?_
  rotate_left
  · (intro u hSu; (try dsimp only at hSu); go_simp; (try with_reducible rfl))
  (try simp only [Act.put, List.setIfInBounds_toArray, List.set_cons_zero, List.set_cons_succ])
  refine Man.take1 (i := 1) (v := ?_) rfl (by kernel_rfl) (by kernel_rfl) (by kernel_rfl) (fun _ _ _ h => h) (by rfl) ?_ (by assumption) ?_
  rotate_left
  · (intro u hSu; (try dsimp only at hSu); go_simp; (try with_reducible rfl))
  (try simp only [Act.put, List.setIfInBounds_toArray, List.set_cons_zero, List.set_cons_succ])
  refine Man.take1 (i := 2) (v := ?_) rfl (by kernel_rfl) (by kernel_rfl) (by kernel_rfl) (fun _ _ _ h => h) (by rfl) ?_ (by assumption) ?_
  rotate_left
  · (intro u hSu; (try dsimp only at hSu); go_simp; (try with_reducible rfl))
  (try simp only [Act.put, List.setIfInBounds_toArray, List.set_cons_zero, List.set_cons_succ])
  refine Man.take1 (i := 3) (v := ?_) rfl (by kernel_rfl) (by kernel_rfl) (by kernel_rfl) (fun _ _ _ h => h) (by rfl) ?_ (by assumption) ?_
  rotate_left
  · (intro u hSu; (try dsimp only at hSu); go_simp; (try with_reducible rfl))
  (try simp only [Act.put, List.setIfInBounds_toArray, List.set_cons_zero, List.set_cons_succ])
  refine Man.take1 (i := 4) (v := ?_) rfl (by kernel_rfl) (by kernel_rfl) (by kernel_rfl) (fun _ _ _ h => h) (by rfl) ?_ (by assumption) ?_
  rotate_left
  · (intro u hSu; (try dsimp only at hSu); go_simp; (try with_reducible rfl))
  (try simp only [Act.put, List.setIfInBounds_toArray, List.set_cons_zero, List.set_cons_succ])
  refine Man.take1 (i := 5) (v := ?_) rfl (by kernel_rfl) (by kernel_rfl) (by kernel_rfl) (fun _ _ _ h => h) (by rfl) ?_ (by assumption) ?_
  rotate_left
  · (intro u hSu; (try dsimp only at hSu); go_simp; (try with_reducible rfl))
  (try simp only [Act.put, List.setIfInBounds_toArray, List.set_cons_zero, List.set_cons_succ])
  refine Man.take1 (i := 6) (v := ?_) rfl (by kernel_rfl) (by kernel_rfl) (by kernel_rfl) (fun _ _ _ h => h) (by rfl) ?_ (by assumption) ?_
  rotate_left
  · (intro u hSu; (try dsimp only at hSu); go_simp; (try with_reducible rfl))
  (try simp only [Act.put, List.setIfInBounds_toArray, List.set_cons_zero, List.set_cons_succ])
  refine Man.take1 (i := 7) (v := ?_) rfl (by kernel_rfl) (by kernel_rfl) (by kernel_rfl) (fun _ _ _ h => h) (by rfl) ?_ (by assumption) ?_
  rotate_left
  · (intro u hSu; (try dsimp only at hSu); go_simp; (try with_reducible rfl))
  (try simp only [Act.put, List.setIfInBounds_toArray, List.set_cons_zero, List.set_cons_succ])
  refine Man.take1 (i := 8) (v := ?_) rfl (by kernel_rfl) (by kernel_rfl) (by kernel_rfl) (fun _ _ _ h => h) (by rfl) ?_ (by assumption) ?_
  rotate_left
  · (intro u hSu; (try dsimp only at hSu); go_simp; (try with_reducible rfl))
  (try simp only [Act.put, List.setIfInBounds_toArray, List.set_cons_zero, List.set_cons_succ])
  refine Man.take1 (i := 11) (v := ?_) rfl (by kernel_rfl) (by kernel_rfl) (by kernel_rfl) (fun _ _ _ h => h) (by rfl) ?_ (by assumption) ?_
  rotate_left
  · (intro u hSu; (try dsimp only at hSu); go_simp; (try with_reducible rfl))
  (try simp only [Act.put, List.setIfInBounds_toArray, List.set_cons_zero, List.set_cons_succ])
  refine Man.one (i := 9) rfl (by kernel_rfl) (fun K hK => ?_)
  go_simp
  (go_at_call 12; (with_reducible refine (show_i n Tn n0_.out n1_.out hTn_.out _ (And.left hHeld)).mono ?_); rintro e w' ⟨rfl, hb⟩)
  refine hK.out _ _ ?_ (fun hNew => ?_)
  · exact two_step hHeld hb
  clear hHeld hK K hb
  have hHeld := hNew
  clear hNew
  (try simp only [Act.put, List.setIfInBounds_toArray, List.set_cons_zero, List.set_cons_succ])
  refine Man.take1 (i := 10) (v := ?_) rfl (by kernel_rfl) (by kernel_rfl) (by kernel_rfl) (fun _ _ _ h => h) (by rfl) ?_ (by assumption) ?_
  rotate_left
  · (intro u hSu; (try dsimp only at hSu); go_simp; (try with_reducible rfl))
  (try simp only [Act.put, List.setIfInBounds_toArray, List.set_cons_zero, List.set_cons_succ])
  refine Man.one (i := 12) rfl (by kernel_rfl) (fun K hK => ?_)
  go_simp
  (go_at_call 12; (with_reducible refine (show_i m Tm m0_.out m1_.out hTm_.out _ (And.left hHeld)).mono ?_); rintro e w' ⟨rfl, hb⟩)
  refine hK.out _ _ ?_ (fun hNew => ?_)
  · exact two_step hHeld hb
  clear hHeld hK K hb
  have hHeld := hNew
  clear hNew
  (try simp only [Act.put, List.setIfInBounds_toArray, List.set_cons_zero, List.set_cons_succ])
  refine Man.take1 (i := 13) (v := ?_) rfl (by kernel_rfl) (by kernel_rfl) (by kernel_rfl) (fun _ _ _ h => h) (by rfl) ?_ (by assumption) ?_
  rotate_left
  · (intro u hSu; (try dsimp only at hSu); go_simp; (try with_reducible rfl))
  (try simp only [Act.put, List.setIfInBounds_toArray, List.set_cons_zero, List.set_cons_succ])
  refine Man.take1 (i := 14) (v := ?_) rfl (by kernel_rfl) (by kernel_rfl) (by kernel_rfl) (fun _ _ _ h => h) (by rfl) ?_ (by assumption) ?_
  rotate_left
  · (intro u hSu; (try dsimp only at hSu); go_simp; (try with_reducible rfl))
  (try simp only [Act.put, List.setIfInBounds_toArray, List.set_cons_zero, List.set_cons_succ])
  refine Man.take1 (i := 15) (v := ?_) rfl (by kernel_rfl) (by kernel_rfl) (by kernel_rfl) (fun _ _ _ h => h) (by rfl) ?_ (by assumption) ?_
  rotate_left
  · (intro u hSu; (try dsimp only at hSu); go_simp; (try with_reducible rfl))
  (try simp only [Act.put, List.setIfInBounds_toArray, List.set_cons_zero, List.set_cons_succ])
  refine Man.take1 (i := 16) (v := ?_) rfl (by kernel_rfl) (by kernel_rfl) (by kernel_rfl) (fun _ _ _ h => h) (by rfl) ?_ (by assumption) ?_
  rotate_left
  · (intro u hSu; (try dsimp only at hSu); go_simp; (try with_reducible rfl))
  (try simp only [Act.put, List.setIfInBounds_toArray, List.set_cons_zero, List.set_cons_succ])
  refine Man.take1 (i := 17) (v := ?_) rfl (by kernel_rfl) (by kernel_rfl) (by kernel_rfl) (fun _ _ _ h => h) (by rfl) ?_ (by assumption) ?_
  rotate_left
  · (intro u hSu; (try dsimp only at hSu); go_simp; (try with_reducible rfl))
  (try simp only [Act.put, List.setIfInBounds_toArray, List.set_cons_zero, List.set_cons_succ])
  refine Man.take1 (i := 18) (v := ?_) rfl (by kernel_rfl) (by kernel_rfl) (by kernel_rfl) (fun _ _ _ h => h) (by rfl) ?_ (by assumption) ?_
  rotate_left
  · (intro u hSu; (try dsimp only at hSu); go_simp; (try with_reducible rfl))
  (try simp only [Act.put, List.setIfInBounds_toArray, List.set_cons_zero, List.set_cons_succ])
  refine Man.take1 (i := 19) (v := ?_) rfl (by kernel_rfl) (by kernel_rfl) (by kernel_rfl) (fun _ _ _ h => h) (by rfl) ?_ (by assumption) ?_
  rotate_left
  · (intro u hSu; (try dsimp only at hSu); go_simp; (try with_reducible rfl))
  (try simp only [Act.put, List.setIfInBounds_toArray, List.set_cons_zero, List.set_cons_succ])
  refine Man.take0 (i := 20) rfl (by kernel_rfl) (by kernel_rfl) (by kernel_rfl) (fun _ _ _ h => h) (by rfl) (by assumption) ?_
  (try simp only [Act.put, List.setIfInBounds_toArray, List.set_cons_zero, List.set_cons_succ])
  refine Man.take0 (i := 21) rfl (by kernel_rfl) (by kernel_rfl) (by kernel_rfl) (fun _ _ _ h => h) (by rfl) (by assumption) ?_
  (try simp only [Act.put, List.setIfInBounds_toArray, List.set_cons_zero, List.set_cons_succ])
  refine Man.take0 (i := 22) rfl (by kernel_rfl) (by kernel_rfl) (by kernel_rfl) (fun _ _ _ h => h) (by rfl) (by assumption) ?_
  (try simp only [Act.put, List.setIfInBounds_toArray, List.set_cons_zero, List.set_cons_succ])
  refine Man.take1 (i := 23) (v := ?_) rfl (by kernel_rfl) (by kernel_rfl) (by kernel_rfl) (fun _ _ _ h => h) (by rfl) ?_ (by assumption) ?_
  rotate_left
  · (intro u hSu; (try dsimp only at hSu); go_simp; (try with_reducible rfl))
  (try simp only [Act.put, List.setIfInBounds_toArray, List.set_cons_zero, List.set_cons_succ])
  refine Man.take1 (i := 24) (v := ?_) rfl (by kernel_rfl) (by kernel_rfl) (by kernel_rfl) (fun _ _ _ h => h) (by rfl) ?_ (by assumption) ?_
  rotate_left
  · (intro u hSu; (try dsimp only at hSu); go_simp; (try with_reducible rfl))
  (try simp only [Act.put, List.setIfInBounds_toArray, List.set_cons_zero, List.set_cons_succ])
  refine Man.take0 (i := 25) rfl (by kernel_rfl) (by kernel_rfl) (by kernel_rfl) (fun _ _ _ h => h) (by rfl) (by assumption) ?_
  (try simp only [Act.put, List.setIfInBounds_toArray, List.set_cons_zero, List.set_cons_succ])
  refine Man.take0 (i := 26) rfl (by kernel_rfl) (by kernel_rfl) (by kernel_rfl) (fun _ _ _ h => h) (by rfl) (by assumption) ?_
  (try simp only [Act.put, List.setIfInBounds_toArray, List.set_cons_zero, List.set_cons_succ])
  refine Man.take0 (i := 27) rfl (by kernel_rfl) (by kernel_rfl) (by kernel_rfl) (fun _ _ _ h => h) (by rfl) (by assumption) ?_
  (try simp only [Act.put, List.setIfInBounds_toArray, List.set_cons_zero, List.set_cons_succ])
  refine Man.take0 (i := 28) rfl (by kernel_rfl) (by kernel_rfl) (by kernel_rfl) (fun _ _ _ h => h) (by rfl) (by assumption) ?_
  (try simp only [Act.put, List.setIfInBounds_toArray, List.set_cons_zero, List.set_cons_succ])
  refine Man.take0 (i := 29) rfl (by kernel_rfl) (by kernel_rfl) (by kernel_rfl) (fun _ _ _ h => h) (by rfl) (by assumption) ?_
  (try simp only [Act.put, List.setIfInBounds_toArray, List.set_cons_zero, List.set_cons_succ])
  refine Man.take0 (i := 30) rfl (by kernel_rfl) (by kernel_rfl) (by kernel_rfl) (fun _ _ _ h => h) (by rfl) (by assumption) ?_
  (try simp only [Act.put, List.setIfInBounds_toArray, List.set_cons_zero, List.set_cons_succ])
  refine Man.take0 (i := 31) rfl (by kernel_rfl) (by kernel_rfl) (by kernel_rfl) (fun _ _ _ h => h) (by rfl) (by assumption) ?_
  (try simp only [Act.put, List.setIfInBounds_toArray, List.set_cons_zero, List.set_cons_succ])
  refine Man.take1 (i := 32) (v := ?_) rfl (by kernel_rfl) (by kernel_rfl) (by kernel_rfl) (fun _ _ _ h => h) (by rfl) ?_ (by assumption) ?_
  rotate_left
  · (intro u hSu; (try dsimp only at hSu); go_simp; (try with_reducible rfl))
  (try simp only [Act.put, List.setIfInBounds_toArray, List.set_cons_zero, List.set_cons_succ])
  refine Man.take1 (i := 33) (v := ?_) rfl (by kernel_rfl) (by kernel_rfl) (by kernel_rfl) (fun _ _ _ h => h) (by rfl) ?_ (by assumption) ?_
  rotate_left
  · (intro u hSu; (try dsimp only at hSu); go_simp; (try with_reducible rfl))
  (try simp only [Act.put, List.setIfInBounds_toArray, List.set_cons_zero, List.set_cons_succ])
  refine wpAnyH_done (by kernel_rfl) ?_ _
  obtain ⟨hqe, hqb, hqz, a0, a1, a2, a3, b0, b1, b2, b3, e0, e1, e2, e3⟩ := hHeld
  have QE := Lib.hid hqe
  have QB := Lib.hid hqb
  clear hqe hqb SS SD
  go_wp2_with fail
  refine (Rd.known_any _ QE.out).mono ?_
  rintro e w9 ⟨rfl, hbn⟩
  have B9 := Lib.hid (QB.out.trans (hbn.mono hqz))
  clear hbn
  go_wp2_with fail
  go_ret
  exact ⟨rfl, B9.out⟩
set_option maxHeartbeats 8000000 in
set_option maxRecDepth 100000 in
theorem in_lo (m n : Int) (w : World) (he : Val.Env w) (m0 : -9223372036854775808 ≤ m) (m1 : m ≤ 9223372036854775807) (n0 : -9223372036854775808 ≤ n) (n1 : n ≤ 9223372036854775807) (Tm Tn : ByteArray) (hTm : Tm.data.toList = Val.showL 2 m 0 ⟨#[]⟩) (hTn : Tn.data.toList = Val.showL 2 n 0 ⟨#[]⟩) (hms : Tm.size ≤ 35184372088832) (hp : Rd.parse Tm.data.toList = some ⟨2, m, 0, []⟩) (cv : Int) (hcv : Val.cmpI m n = cv) (gm : decide (0 ≤ m) = true) (gn : decide (m ≤ n) = false) (gs : decide (m < 0) = false) (g1 : decide (m < n) = false) (g2 : decide (n < m) = true) (hcvv : cv = 1) : Calls Tryd.prog 5 #[.int .i64 m, .int .i64 n] w fun e w' => e = .returned (.bool true) ∧ Below w.heap.size w w' := by
  have hTm_ := Lib.hid hTm
  have hTn_ := Lib.hid hTn
  have hms_ := Lib.hid hms
  have hp_ := Lib.hid hp
  have m0_ := Lib.hid m0
  have m1_ := Lib.hid m1
  have n0_ := Lib.hid n0
  have n1_ := Lib.hid n1
  have hcv_ := Lib.hid hcv
  clear hTm hTn hms hp m0 m1 n0 n1 hcv
  obtain rfl : cv = 1 := hcvv
  have HE0 := Lib.hid ((he.below ((Below.refl w.heap.size w).alloc (Nat.le_refl _) (.cells #[.int .i64 2, .int .i64 m, .int .u64 0, .string ⟨#[]⟩] 24))).below ((Below.refl (w.alloc (.cells #[.int .i64 2, .int .i64 m, .int .u64 0, .string ⟨#[]⟩] 24)).heap.size (w.alloc (.cells #[.int .i64 2, .int .i64 m, .int .u64 0, .string ⟨#[]⟩] 24))).alloc (Nat.le_refl _) (.cells #[.int .i64 2, .int .i64 n, .int .u64 0, .string ⟨#[]⟩] 24)))
  have T50 := Lib.hid ((Rd.Box.new w 2 m 0 ⟨#[]⟩).old (.cells #[.int .i64 2, .int .i64 n, .int .u64 0, .string ⟨#[]⟩] 24))
  have T60 := Lib.hid (show Rd.Box ((w.alloc (.cells #[.int .i64 2, .int .i64 m, .int .u64 0, .string ⟨#[]⟩] 24)).alloc (.cells #[.int .i64 2, .int .i64 n, .int .u64 0, .string ⟨#[]⟩] 24)) (w.heap.size + 1) 2 n 0 ⟨#[]⟩ from by have h := Rd.Box.new (w.alloc (.cells #[.int .i64 2, .int .i64 m, .int .u64 0, .string ⟨#[]⟩] 24)) 2 n 0 ⟨#[]⟩; rwa [show (w.alloc (.cells #[.int .i64 2, .int .i64 m, .int .u64 0, .string ⟨#[]⟩] 24)).heap.size = w.heap.size + 1 from by simp] at h)
  have B0 := Lib.hid (((Below.refl w.heap.size w).alloc (Nat.le_refl _) (.cells #[.int .i64 2, .int .i64 m, .int .u64 0, .string ⟨#[]⟩] 24)).alloc (by simp) (.cells #[.int .i64 2, .int .i64 n, .int .u64 0, .string ⟨#[]⟩] 24))
  have Z0 : w.heap.size ≤ ((w.alloc (.cells #[.int .i64 2, .int .i64 m, .int .u64 0, .string ⟨#[]⟩] 24)).alloc (.cells #[.int .i64 2, .int .i64 n, .int .u64 0, .string ⟨#[]⟩] 24)).heap.size := by simp; omega
  clear he
  have gq := self_eqV 2 m 0 ⟨#[]⟩
  go_enter Tryd.func5, Tryd.ntmps5
  go_wp2_with fail
  refine (show_is 2 m 0 ⟨#[]⟩ Tm m0_.out m1_.out (by decide) hTm_.out _ HE0.out).mono ?_
  rintro e w1 ⟨rfl, hbn⟩
  have HE1 := Lib.hid (HE0.out.below hbn)
  have T51 := Lib.hid (T50.out.below hbn)
  have T61 := Lib.hid (T60.out.below hbn)
  have B1 := Lib.hid (B0.out.trans (hbn.mono Z0))
  have Z1 : w.heap.size ≤ w1.heap.size := Nat.le_trans Z0 hbn.size
  clear hbn HE0 B0 Z0 T50 T60
  go_wp2_with fail
  refine (parse_some Tm hms_.out 2 m 0 ⟨#[]⟩ hp_.out _ HE1.out).mono ?_
  rintro e w2 ⟨rfl, hbn⟩
  have HE2 := Lib.hid (HE1.out.below hbn)
  have T52 := Lib.hid (T51.out.below hbn)
  have T62 := Lib.hid (T61.out.below hbn)
  have B2 := Lib.hid (B1.out.trans (hbn.mono Z1))
  have Z2 : w.heap.size ≤ w2.heap.size := Nat.le_trans Z1 hbn.size
  clear hbn HE1 B1 Z1 T51 T61
  have HE2a := Lib.hid (HE2.out.below ((Below.refl w2.heap.size w2).alloc (Nat.le_refl _) (.cells #[.int .i64 2, .int .i64 m, .int .u64 0, .string ⟨#[]⟩] 24)))
  have T52a := Lib.hid (T52.out.old (.cells #[.int .i64 2, .int .i64 m, .int .u64 0, .string ⟨#[]⟩] 24))
  have T62a := Lib.hid (T62.out.old (.cells #[.int .i64 2, .int .i64 m, .int .u64 0, .string ⟨#[]⟩] 24))
  have T72a := Lib.hid (Rd.Box.new w2 2 m 0 ⟨#[]⟩)
  have B2a := Lib.hid (B2.out.alloc Z2 (.cells #[.int .i64 2, .int .i64 m, .int .u64 0, .string ⟨#[]⟩] 24))
  have Z2a : w.heap.size ≤ (w2.alloc (.cells #[.int .i64 2, .int .i64 m, .int .u64 0, .string ⟨#[]⟩] 24)).heap.size := by simp; omega
  clear HE2 B2 Z2 T52 T62
  have qT50 := T52a.out.c0
  have qT51 := T52a.out.c1
  have qT52 := T52a.out.c2
  have qT53 := T52a.out.c3
  have qT60 := T62a.out.c0
  have qT61 := T62a.out.c1
  have qT62 := T62a.out.c2
  have qT63 := T62a.out.c3
  go_wp2_with fail
  refine (cmp_ints m n _).mono ?_
  rw [hcv_.out]
  rintro e w3 ⟨rfl, hbn⟩
  clear qT50 qT51 qT52 qT53 qT60 qT61 qT62 qT63
  have HE3 := Lib.hid (HE2a.out.below hbn)
  have T53 := Lib.hid (T52a.out.below hbn)
  have T63 := Lib.hid (T62a.out.below hbn)
  have T73 := Lib.hid (T72a.out.below hbn)
  have B3 := Lib.hid (B2a.out.trans (hbn.mono Z2a))
  have Z3 : w.heap.size ≤ w3.heap.size := Nat.le_trans Z2a hbn.size
  clear hbn HE2a B2a Z2a T52a T62a T72a
  go_wp2_with fail
  have SS : (fun w' => Val.Env w' ∧ Below w.heap.size w w' ∧ w.heap.size ≤ w'.heap.size ∧ w'.cell? ⟨w.heap.size, 0, none⟩ = some (.int .i64 2) ∧ w'.cell? ⟨w.heap.size, 1, none⟩ = some (.int .i64 m) ∧ w'.cell? ⟨w.heap.size, 2, none⟩ = some (.int .u64 0) ∧ w'.cell? ⟨w.heap.size, 3, none⟩ = some (.string ⟨#[]⟩) ∧ w'.cell? ⟨(w.heap.size + 1), 0, none⟩ = some (.int .i64 2) ∧ w'.cell? ⟨(w.heap.size + 1), 1, none⟩ = some (.int .i64 n) ∧ w'.cell? ⟨(w.heap.size + 1), 2, none⟩ = some (.int .u64 0) ∧ w'.cell? ⟨(w.heap.size + 1), 3, none⟩ = some (.string ⟨#[]⟩) ∧ w'.cell? ⟨w2.heap.size, 0, none⟩ = some (.int .i64 2) ∧ w'.cell? ⟨w2.heap.size, 1, none⟩ = some (.int .i64 m) ∧ w'.cell? ⟨w2.heap.size, 2, none⟩ = some (.int .u64 0) ∧ w'.cell? ⟨w2.heap.size, 3, none⟩ = some (.string ⟨#[]⟩)) w3 := ⟨HE3.out, B3.out, Z3, T53.out.c0, T53.out.c1, T53.out.c2, T53.out.c3, T63.out.c0, T63.out.c1, T63.out.c2, T63.out.c3, T73.out.c0, T73.out.c1, T73.out.c2, T73.out.c3⟩
  clear HE3 B3 Z3 T53 T63 T73
  generalize w2.heap.size = b7 at SS ⊢
  have SD : (fun w' => Val.Env w' ∧ Below w.heap.size w w' ∧ w.heap.size ≤ w'.heap.size ∧ w'.cell? ⟨w.heap.size, 0, none⟩ = some (.int .i64 2) ∧ w'.cell? ⟨w.heap.size, 1, none⟩ = some (.int .i64 m) ∧ w'.cell? ⟨w.heap.size, 2, none⟩ = some (.int .u64 0) ∧ w'.cell? ⟨w.heap.size, 3, none⟩ = some (.string ⟨#[]⟩) ∧ w'.cell? ⟨(w.heap.size + 1), 0, none⟩ = some (.int .i64 2) ∧ w'.cell? ⟨(w.heap.size + 1), 1, none⟩ = some (.int .i64 n) ∧ w'.cell? ⟨(w.heap.size + 1), 2, none⟩ = some (.int .u64 0) ∧ w'.cell? ⟨(w.heap.size + 1), 3, none⟩ = some (.string ⟨#[]⟩) ∧ w'.cell? ⟨b7, 0, none⟩ = some (.int .i64 2) ∧ w'.cell? ⟨b7, 1, none⟩ = some (.int .i64 m) ∧ w'.cell? ⟨b7, 2, none⟩ = some (.int .u64 0) ∧ w'.cell? ⟨b7, 3, none⟩ = some (.string ⟨#[]⟩)) w3.drew := ⟨SS.1.below (Below.refl _ w3).drew, SS.2.1.drew, SS.2.2⟩
  refine wp_region_held_drew (S := fun w' => Val.Env w' ∧ Below w.heap.size w w' ∧ w.heap.size ≤ w'.heap.size ∧ w'.cell? ⟨w.heap.size, 0, none⟩ = some (.int .i64 2) ∧ w'.cell? ⟨w.heap.size, 1, none⟩ = some (.int .i64 m) ∧ w'.cell? ⟨w.heap.size, 2, none⟩ = some (.int .u64 0) ∧ w'.cell? ⟨w.heap.size, 3, none⟩ = some (.string ⟨#[]⟩) ∧ w'.cell? ⟨(w.heap.size + 1), 0, none⟩ = some (.int .i64 2) ∧ w'.cell? ⟨(w.heap.size + 1), 1, none⟩ = some (.int .i64 n) ∧ w'.cell? ⟨(w.heap.size + 1), 2, none⟩ = some (.int .u64 0) ∧ w'.cell? ⟨(w.heap.size + 1), 3, none⟩ = some (.string ⟨#[]⟩) ∧ w'.cell? ⟨b7, 0, none⟩ = some (.int .i64 2) ∧ w'.cell? ⟨b7, 1, none⟩ = some (.int .i64 m) ∧ w'.cell? ⟨b7, 2, none⟩ = some (.int .u64 0) ∧ w'.cell? ⟨b7, 3, none⟩ = some (.string ⟨#[]⟩)) (by kernel_rfl) ?_ (fun hHeld => ?_)
  · exact SD
  refine Man.take1 (i := 0) (v := ?_) rfl (by kernel_rfl) (by kernel_rfl) (by kernel_rfl) (fun _ _ _ h => h) (by rfl) ?_ (by assumption) ?_
  rotate_left
  · (intro u hSu; (try dsimp only at hSu); go_simp; (try with_reducible rfl))
  (try simp only [Act.put, List.setIfInBounds_toArray, List.set_cons_zero, List.set_cons_succ])
  refine Man.take1 (i := 1) (v := ?_) rfl (by kernel_rfl) (by kernel_rfl) (by kernel_rfl) (fun _ _ _ h => h) (by rfl) ?_ (by assumption) ?_
  rotate_left
  · (intro u hSu; (try dsimp only at hSu); go_simp; (try with_reducible rfl))
  (try simp only [Act.put, List.setIfInBounds_toArray, List.set_cons_zero, List.set_cons_succ])
  refine Man.take1 (i := 2) (v := ?_) rfl (by kernel_rfl) (by kernel_rfl) (by kernel_rfl) (fun _ _ _ h => h) (by rfl) ?_ (by assumption) ?_
  rotate_left
  · (intro u hSu; (try dsimp only at hSu); go_simp; (try with_reducible rfl))
  (try simp only [Act.put, List.setIfInBounds_toArray, List.set_cons_zero, List.set_cons_succ])
  refine Man.take1 (i := 3) (v := ?_) rfl (by kernel_rfl) (by kernel_rfl) (by kernel_rfl) (fun _ _ _ h => h) (by rfl) ?_ (by assumption) ?_
  rotate_left
  · (intro u hSu; (try dsimp only at hSu); go_simp; (try with_reducible rfl))
  (try simp only [Act.put, List.setIfInBounds_toArray, List.set_cons_zero, List.set_cons_succ])
  refine Man.take1 (i := 4) (v := ?_) rfl (by kernel_rfl) (by kernel_rfl) (by kernel_rfl) (fun _ _ _ h => h) (by rfl) ?_ (by assumption) ?_
  rotate_left
  · (intro u hSu; (try dsimp only at hSu); go_simp; (try with_reducible rfl))
  (try simp only [Act.put, List.setIfInBounds_toArray, List.set_cons_zero, List.set_cons_succ])
  refine Man.take1 (i := 5) (v := ?_) rfl (by kernel_rfl) (by kernel_rfl) (by kernel_rfl) (fun _ _ _ h => h) (by rfl) ?_ (by assumption) ?_
  rotate_left
  · (intro u hSu; (try dsimp only at hSu); go_simp; (try with_reducible rfl))
  (try simp only [Act.put, List.setIfInBounds_toArray, List.set_cons_zero, List.set_cons_succ])
  refine Man.take1 (i := 6) (v := ?_) rfl (by kernel_rfl) (by kernel_rfl) (by kernel_rfl) (fun _ _ _ h => h) (by rfl) ?_ (by assumption) ?_
  rotate_left
  · (intro u hSu; (try dsimp only at hSu); go_simp; (try with_reducible rfl))
  (try simp only [Act.put, List.setIfInBounds_toArray, List.set_cons_zero, List.set_cons_succ])
  refine Man.take1 (i := 7) (v := ?_) rfl (by kernel_rfl) (by kernel_rfl) (by kernel_rfl) (fun _ _ _ h => h) (by rfl) ?_ (by assumption) ?_
  rotate_left
  · (intro u hSu; (try dsimp only at hSu); go_simp; (try with_reducible rfl))
  (try simp only [Act.put, List.setIfInBounds_toArray, List.set_cons_zero, List.set_cons_succ])
  refine Man.take0 (i := 8) rfl (by kernel_rfl) (by kernel_rfl) (by kernel_rfl) (fun _ _ _ h => h) (by rfl) (by assumption) ?_
  (try simp only [Act.put, List.setIfInBounds_toArray, List.set_cons_zero, List.set_cons_succ])
  refine Man.take0 (i := 9) rfl (by kernel_rfl) (by kernel_rfl) (by kernel_rfl) (fun _ _ _ h => h) (by rfl) (by assumption) ?_
  (try simp only [Act.put, List.setIfInBounds_toArray, List.set_cons_zero, List.set_cons_succ])
  refine Man.take0 (i := 10) rfl (by kernel_rfl) (by kernel_rfl) (by kernel_rfl) (fun _ _ _ h => h) (by rfl) (by assumption) ?_
  (try simp only [Act.put, List.setIfInBounds_toArray, List.set_cons_zero, List.set_cons_succ])
  refine Man.take0 (i := 11) rfl (by kernel_rfl) (by kernel_rfl) (by kernel_rfl) (fun _ _ _ h => h) (by rfl) (by assumption) ?_
  (try simp only [Act.put, List.setIfInBounds_toArray, List.set_cons_zero, List.set_cons_succ])
  refine Man.take0 (i := 12) rfl (by kernel_rfl) (by kernel_rfl) (by kernel_rfl) (fun _ _ _ h => h) (by rfl) (by assumption) ?_
  (try simp only [Act.put, List.setIfInBounds_toArray, List.set_cons_zero, List.set_cons_succ])
  refine Man.take0 (i := 13) rfl (by kernel_rfl) (by kernel_rfl) (by kernel_rfl) (fun _ _ _ h => h) (by rfl) (by assumption) ?_
  (try simp only [Act.put, List.setIfInBounds_toArray, List.set_cons_zero, List.set_cons_succ])
  refine Man.take0 (i := 14) rfl (by kernel_rfl) (by kernel_rfl) (by kernel_rfl) (fun _ _ _ h => h) (by rfl) (by assumption) ?_
  (try simp only [Act.put, List.setIfInBounds_toArray, List.set_cons_zero, List.set_cons_succ])
  refine Man.take1 (i := 15) (v := ?_) rfl (by kernel_rfl) (by kernel_rfl) (by kernel_rfl) (fun _ _ _ h => h) (by rfl) ?_ (by assumption) ?_
  rotate_left
  · (intro u hSu; (try dsimp only at hSu); go_simp; (try with_reducible rfl))
  (try simp only [Act.put, List.setIfInBounds_toArray, List.set_cons_zero, List.set_cons_succ])
  refine Man.take1 (i := 16) (v := ?_) rfl (by kernel_rfl) (by kernel_rfl) (by kernel_rfl) (fun _ _ _ h => h) (by rfl) ?_ (by assumption) ?_
  rotate_left
  · (intro u hSu; (try dsimp only at hSu); go_simp; (try with_reducible rfl))
  (try simp only [Act.put, List.setIfInBounds_toArray, List.set_cons_zero, List.set_cons_succ])
  refine Man.take1 (i := 17) (v := ?_) rfl (by kernel_rfl) (by kernel_rfl) (by kernel_rfl) (fun _ _ _ h => h) (by rfl) ?_ (by assumption) ?_
  rotate_left
  · (intro u hSu; (try dsimp only at hSu); go_simp; (try with_reducible rfl))
  (try simp only [Act.put, List.setIfInBounds_toArray, List.set_cons_zero, List.set_cons_succ])
  refine Man.take1 (i := 18) (v := ?_) rfl (by kernel_rfl) (by kernel_rfl) (by kernel_rfl) (fun _ _ _ h => h) (by rfl) ?_ (by assumption) ?_
  rotate_left
  · (intro u hSu; (try dsimp only at hSu); go_simp; (try with_reducible rfl))
  (try simp only [Act.put, List.setIfInBounds_toArray, List.set_cons_zero, List.set_cons_succ])
  refine Man.take1 (i := 19) (v := ?_) rfl (by kernel_rfl) (by kernel_rfl) (by kernel_rfl) (fun _ _ _ h => h) (by rfl) ?_ (by assumption) ?_
  rotate_left
  · (intro u hSu; (try dsimp only at hSu); go_simp; (try with_reducible rfl))
  (try simp only [Act.put, List.setIfInBounds_toArray, List.set_cons_zero, List.set_cons_succ])
  refine Man.take0 (i := 20) rfl (by kernel_rfl) (by kernel_rfl) (by kernel_rfl) (fun _ _ _ h => h) (by rfl) (by assumption) ?_
  (try simp only [Act.put, List.setIfInBounds_toArray, List.set_cons_zero, List.set_cons_succ])
  refine Man.take0 (i := 21) rfl (by kernel_rfl) (by kernel_rfl) (by kernel_rfl) (fun _ _ _ h => h) (by rfl) (by assumption) ?_
  (try simp only [Act.put, List.setIfInBounds_toArray, List.set_cons_zero, List.set_cons_succ])
  refine Man.take0 (i := 22) rfl (by kernel_rfl) (by kernel_rfl) (by kernel_rfl) (fun _ _ _ h => h) (by rfl) (by assumption) ?_
  (try simp only [Act.put, List.setIfInBounds_toArray, List.set_cons_zero, List.set_cons_succ])
  refine Man.take1 (i := 23) (v := ?_) rfl (by kernel_rfl) (by kernel_rfl) (by kernel_rfl) (fun _ _ _ h => h) (by rfl) ?_ (by assumption) ?_
  rotate_left
  · (intro u hSu; (try dsimp only at hSu); go_simp; (try with_reducible rfl))
  (try simp only [Act.put, List.setIfInBounds_toArray, List.set_cons_zero, List.set_cons_succ])
  refine Man.take1 (i := 24) (v := ?_) rfl (by kernel_rfl) (by kernel_rfl) (by kernel_rfl) (fun _ _ _ h => h) (by rfl) ?_ (by assumption) ?_
  rotate_left
  · (intro u hSu; (try dsimp only at hSu); go_simp; (try with_reducible rfl))
  (try simp only [Act.put, List.setIfInBounds_toArray, List.set_cons_zero, List.set_cons_succ])
  refine Man.take0 (i := 25) rfl (by kernel_rfl) (by kernel_rfl) (by kernel_rfl) (fun _ _ _ h => h) (by rfl) (by assumption) ?_
  (try simp only [Act.put, List.setIfInBounds_toArray, List.set_cons_zero, List.set_cons_succ])
  refine Man.take0 (i := 26) rfl (by kernel_rfl) (by kernel_rfl) (by kernel_rfl) (fun _ _ _ h => h) (by rfl) (by assumption) ?_
  (try simp only [Act.put, List.setIfInBounds_toArray, List.set_cons_zero, List.set_cons_succ])
  refine Man.take0 (i := 27) rfl (by kernel_rfl) (by kernel_rfl) (by kernel_rfl) (fun _ _ _ h => h) (by rfl) (by assumption) ?_
  (try simp only [Act.put, List.setIfInBounds_toArray, List.set_cons_zero, List.set_cons_succ])
  refine Man.take0 (i := 28) rfl (by kernel_rfl) (by kernel_rfl) (by kernel_rfl) (fun _ _ _ h => h) (by rfl) (by assumption) ?_
  (try simp only [Act.put, List.setIfInBounds_toArray, List.set_cons_zero, List.set_cons_succ])
  refine Man.take0 (i := 29) rfl (by kernel_rfl) (by kernel_rfl) (by kernel_rfl) (fun _ _ _ h => h) (by rfl) (by assumption) ?_
  (try simp only [Act.put, List.setIfInBounds_toArray, List.set_cons_zero, List.set_cons_succ])
  refine Man.take0 (i := 30) rfl (by kernel_rfl) (by kernel_rfl) (by kernel_rfl) (fun _ _ _ h => h) (by rfl) (by assumption) ?_
  (try simp only [Act.put, List.setIfInBounds_toArray, List.set_cons_zero, List.set_cons_succ])
  refine Man.take0 (i := 31) rfl (by kernel_rfl) (by kernel_rfl) (by kernel_rfl) (fun _ _ _ h => h) (by rfl) (by assumption) ?_
  (try simp only [Act.put, List.setIfInBounds_toArray, List.set_cons_zero, List.set_cons_succ])
  refine Man.take1 (i := 32) (v := ?_) rfl (by kernel_rfl) (by kernel_rfl) (by kernel_rfl) (fun _ _ _ h => h) (by rfl) ?_ (by assumption) ?_
  rotate_left
  · (intro u hSu; (try dsimp only at hSu); go_simp; (try with_reducible rfl))
  (try simp only [Act.put, List.setIfInBounds_toArray, List.set_cons_zero, List.set_cons_succ])
  refine Man.take1 (i := 33) (v := ?_) rfl (by kernel_rfl) (by kernel_rfl) (by kernel_rfl) (fun _ _ _ h => h) (by rfl) ?_ (by assumption) ?_
  rotate_left
  · (intro u hSu; (try dsimp only at hSu); go_simp; (try with_reducible rfl))
  (try simp only [Act.put, List.setIfInBounds_toArray, List.set_cons_zero, List.set_cons_succ])
  refine wpAnyH_done (by kernel_rfl) ?_ _
  obtain ⟨hqe, hqb, hqz, a0, a1, a2, a3, b0, b1, b2, b3, e0, e1, e2, e3⟩ := hHeld
  have QE := Lib.hid hqe
  have QB := Lib.hid hqb
  clear hqe hqb SS SD
  go_wp2_with fail
  refine (Rd.known_any _ QE.out).mono ?_
  rintro e w9 ⟨rfl, hbn⟩
  have B9 := Lib.hid (QB.out.trans (hbn.mono hqz))
  clear hbn
  go_wp2_with fail
  go_ret
  exact ⟨rfl, B9.out⟩
set_option maxHeartbeats 8000000 in
set_option maxRecDepth 100000 in
theorem in_dn_gt (m n : Int) (w : World) (he : Val.Env w) (m0 : -9223372036854775808 ≤ m) (m1 : m ≤ 9223372036854775807) (n0 : -9223372036854775808 ≤ n) (n1 : n ≤ 9223372036854775807) (Tm Tn : ByteArray) (hTm : Tm.data.toList = Val.showL 2 m 0 ⟨#[]⟩) (hTn : Tn.data.toList = Val.showL 2 n 0 ⟨#[]⟩) (hms : Tm.size ≤ 35184372088832) (hp : Rd.parse Tm.data.toList = some ⟨2, m, 0, []⟩) (cv : Int) (hcv : Val.cmpI m n = cv) (gm : decide (0 ≤ m) = false) (gs : decide (m < 0) = true) (gd : decide (n ≤ m) = true) (gl : decide (Tn.size < Tm.size) = false) (g1 : decide (m < n) = false) (g2 : decide (n < m) = true) (hcvv : cv = 1) : Calls Tryd.prog 5 #[.int .i64 m, .int .i64 n] w fun e w' => e = .returned (.bool true) ∧ Below w.heap.size w w' := by
  have hTm_ := Lib.hid hTm
  have hTn_ := Lib.hid hTn
  have hms_ := Lib.hid hms
  have hp_ := Lib.hid hp
  have m0_ := Lib.hid m0
  have m1_ := Lib.hid m1
  have n0_ := Lib.hid n0
  have n1_ := Lib.hid n1
  have hcv_ := Lib.hid hcv
  clear hTm hTn hms hp m0 m1 n0 n1 hcv
  obtain rfl : cv = 1 := hcvv
  have HE0 := Lib.hid ((he.below ((Below.refl w.heap.size w).alloc (Nat.le_refl _) (.cells #[.int .i64 2, .int .i64 m, .int .u64 0, .string ⟨#[]⟩] 24))).below ((Below.refl (w.alloc (.cells #[.int .i64 2, .int .i64 m, .int .u64 0, .string ⟨#[]⟩] 24)).heap.size (w.alloc (.cells #[.int .i64 2, .int .i64 m, .int .u64 0, .string ⟨#[]⟩] 24))).alloc (Nat.le_refl _) (.cells #[.int .i64 2, .int .i64 n, .int .u64 0, .string ⟨#[]⟩] 24)))
  have T50 := Lib.hid ((Rd.Box.new w 2 m 0 ⟨#[]⟩).old (.cells #[.int .i64 2, .int .i64 n, .int .u64 0, .string ⟨#[]⟩] 24))
  have T60 := Lib.hid (show Rd.Box ((w.alloc (.cells #[.int .i64 2, .int .i64 m, .int .u64 0, .string ⟨#[]⟩] 24)).alloc (.cells #[.int .i64 2, .int .i64 n, .int .u64 0, .string ⟨#[]⟩] 24)) (w.heap.size + 1) 2 n 0 ⟨#[]⟩ from by have h := Rd.Box.new (w.alloc (.cells #[.int .i64 2, .int .i64 m, .int .u64 0, .string ⟨#[]⟩] 24)) 2 n 0 ⟨#[]⟩; rwa [show (w.alloc (.cells #[.int .i64 2, .int .i64 m, .int .u64 0, .string ⟨#[]⟩] 24)).heap.size = w.heap.size + 1 from by simp] at h)
  have B0 := Lib.hid (((Below.refl w.heap.size w).alloc (Nat.le_refl _) (.cells #[.int .i64 2, .int .i64 m, .int .u64 0, .string ⟨#[]⟩] 24)).alloc (by simp) (.cells #[.int .i64 2, .int .i64 n, .int .u64 0, .string ⟨#[]⟩] 24))
  have Z0 : w.heap.size ≤ ((w.alloc (.cells #[.int .i64 2, .int .i64 m, .int .u64 0, .string ⟨#[]⟩] 24)).alloc (.cells #[.int .i64 2, .int .i64 n, .int .u64 0, .string ⟨#[]⟩] 24)).heap.size := by simp; omega
  clear he
  have gq := self_eqV 2 m 0 ⟨#[]⟩
  go_enter Tryd.func5, Tryd.ntmps5
  go_wp2_with fail
  refine (show_is 2 m 0 ⟨#[]⟩ Tm m0_.out m1_.out (by decide) hTm_.out _ HE0.out).mono ?_
  rintro e w1 ⟨rfl, hbn⟩
  have HE1 := Lib.hid (HE0.out.below hbn)
  have T51 := Lib.hid (T50.out.below hbn)
  have T61 := Lib.hid (T60.out.below hbn)
  have B1 := Lib.hid (B0.out.trans (hbn.mono Z0))
  have Z1 : w.heap.size ≤ w1.heap.size := Nat.le_trans Z0 hbn.size
  clear hbn HE0 B0 Z0 T50 T60
  go_wp2_with fail
  refine (parse_some Tm hms_.out 2 m 0 ⟨#[]⟩ hp_.out _ HE1.out).mono ?_
  rintro e w2 ⟨rfl, hbn⟩
  have HE2 := Lib.hid (HE1.out.below hbn)
  have T52 := Lib.hid (T51.out.below hbn)
  have T62 := Lib.hid (T61.out.below hbn)
  have B2 := Lib.hid (B1.out.trans (hbn.mono Z1))
  have Z2 : w.heap.size ≤ w2.heap.size := Nat.le_trans Z1 hbn.size
  clear hbn HE1 B1 Z1 T51 T61
  have HE2a := Lib.hid (HE2.out.below ((Below.refl w2.heap.size w2).alloc (Nat.le_refl _) (.cells #[.int .i64 2, .int .i64 m, .int .u64 0, .string ⟨#[]⟩] 24)))
  have T52a := Lib.hid (T52.out.old (.cells #[.int .i64 2, .int .i64 m, .int .u64 0, .string ⟨#[]⟩] 24))
  have T62a := Lib.hid (T62.out.old (.cells #[.int .i64 2, .int .i64 m, .int .u64 0, .string ⟨#[]⟩] 24))
  have T72a := Lib.hid (Rd.Box.new w2 2 m 0 ⟨#[]⟩)
  have B2a := Lib.hid (B2.out.alloc Z2 (.cells #[.int .i64 2, .int .i64 m, .int .u64 0, .string ⟨#[]⟩] 24))
  have Z2a : w.heap.size ≤ (w2.alloc (.cells #[.int .i64 2, .int .i64 m, .int .u64 0, .string ⟨#[]⟩] 24)).heap.size := by simp; omega
  clear HE2 B2 Z2 T52 T62
  have qT50 := T52a.out.c0
  have qT51 := T52a.out.c1
  have qT52 := T52a.out.c2
  have qT53 := T52a.out.c3
  have qT60 := T62a.out.c0
  have qT61 := T62a.out.c1
  have qT62 := T62a.out.c2
  have qT63 := T62a.out.c3
  go_wp2_with fail
  refine (cmp_ints m n _).mono ?_
  rw [hcv_.out]
  rintro e w3 ⟨rfl, hbn⟩
  clear qT50 qT51 qT52 qT53 qT60 qT61 qT62 qT63
  have HE3 := Lib.hid (HE2a.out.below hbn)
  have T53 := Lib.hid (T52a.out.below hbn)
  have T63 := Lib.hid (T62a.out.below hbn)
  have T73 := Lib.hid (T72a.out.below hbn)
  have B3 := Lib.hid (B2a.out.trans (hbn.mono Z2a))
  have Z3 : w.heap.size ≤ w3.heap.size := Nat.le_trans Z2a hbn.size
  clear hbn HE2a B2a Z2a T52a T62a T72a
  go_wp2_with fail
  have SS : (fun w' => Val.Env w' ∧ Below w.heap.size w w' ∧ w.heap.size ≤ w'.heap.size ∧ w'.cell? ⟨w.heap.size, 0, none⟩ = some (.int .i64 2) ∧ w'.cell? ⟨w.heap.size, 1, none⟩ = some (.int .i64 m) ∧ w'.cell? ⟨w.heap.size, 2, none⟩ = some (.int .u64 0) ∧ w'.cell? ⟨w.heap.size, 3, none⟩ = some (.string ⟨#[]⟩) ∧ w'.cell? ⟨(w.heap.size + 1), 0, none⟩ = some (.int .i64 2) ∧ w'.cell? ⟨(w.heap.size + 1), 1, none⟩ = some (.int .i64 n) ∧ w'.cell? ⟨(w.heap.size + 1), 2, none⟩ = some (.int .u64 0) ∧ w'.cell? ⟨(w.heap.size + 1), 3, none⟩ = some (.string ⟨#[]⟩) ∧ w'.cell? ⟨w2.heap.size, 0, none⟩ = some (.int .i64 2) ∧ w'.cell? ⟨w2.heap.size, 1, none⟩ = some (.int .i64 m) ∧ w'.cell? ⟨w2.heap.size, 2, none⟩ = some (.int .u64 0) ∧ w'.cell? ⟨w2.heap.size, 3, none⟩ = some (.string ⟨#[]⟩)) w3 := ⟨HE3.out, B3.out, Z3, T53.out.c0, T53.out.c1, T53.out.c2, T53.out.c3, T63.out.c0, T63.out.c1, T63.out.c2, T63.out.c3, T73.out.c0, T73.out.c1, T73.out.c2, T73.out.c3⟩
  clear HE3 B3 Z3 T53 T63 T73
  generalize w2.heap.size = b7 at SS ⊢
  have SD : (fun w' => Val.Env w' ∧ Below w.heap.size w w' ∧ w.heap.size ≤ w'.heap.size ∧ w'.cell? ⟨w.heap.size, 0, none⟩ = some (.int .i64 2) ∧ w'.cell? ⟨w.heap.size, 1, none⟩ = some (.int .i64 m) ∧ w'.cell? ⟨w.heap.size, 2, none⟩ = some (.int .u64 0) ∧ w'.cell? ⟨w.heap.size, 3, none⟩ = some (.string ⟨#[]⟩) ∧ w'.cell? ⟨(w.heap.size + 1), 0, none⟩ = some (.int .i64 2) ∧ w'.cell? ⟨(w.heap.size + 1), 1, none⟩ = some (.int .i64 n) ∧ w'.cell? ⟨(w.heap.size + 1), 2, none⟩ = some (.int .u64 0) ∧ w'.cell? ⟨(w.heap.size + 1), 3, none⟩ = some (.string ⟨#[]⟩) ∧ w'.cell? ⟨b7, 0, none⟩ = some (.int .i64 2) ∧ w'.cell? ⟨b7, 1, none⟩ = some (.int .i64 m) ∧ w'.cell? ⟨b7, 2, none⟩ = some (.int .u64 0) ∧ w'.cell? ⟨b7, 3, none⟩ = some (.string ⟨#[]⟩)) w3.drew := ⟨SS.1.below (Below.refl _ w3).drew, SS.2.1.drew, SS.2.2⟩
  refine wp_region_held_drew (S := fun w' => Val.Env w' ∧ Below w.heap.size w w' ∧ w.heap.size ≤ w'.heap.size ∧ w'.cell? ⟨w.heap.size, 0, none⟩ = some (.int .i64 2) ∧ w'.cell? ⟨w.heap.size, 1, none⟩ = some (.int .i64 m) ∧ w'.cell? ⟨w.heap.size, 2, none⟩ = some (.int .u64 0) ∧ w'.cell? ⟨w.heap.size, 3, none⟩ = some (.string ⟨#[]⟩) ∧ w'.cell? ⟨(w.heap.size + 1), 0, none⟩ = some (.int .i64 2) ∧ w'.cell? ⟨(w.heap.size + 1), 1, none⟩ = some (.int .i64 n) ∧ w'.cell? ⟨(w.heap.size + 1), 2, none⟩ = some (.int .u64 0) ∧ w'.cell? ⟨(w.heap.size + 1), 3, none⟩ = some (.string ⟨#[]⟩) ∧ w'.cell? ⟨b7, 0, none⟩ = some (.int .i64 2) ∧ w'.cell? ⟨b7, 1, none⟩ = some (.int .i64 m) ∧ w'.cell? ⟨b7, 2, none⟩ = some (.int .u64 0) ∧ w'.cell? ⟨b7, 3, none⟩ = some (.string ⟨#[]⟩)) (by kernel_rfl) ?_ (fun hHeld => ?_)
  · exact SD
  refine Man.take1 (i := 0) (v := ?_) rfl (by kernel_rfl) (by kernel_rfl) (by kernel_rfl) (fun _ _ _ h => h) (by rfl) ?_ (by assumption) ?_
  rotate_left
  · (intro u hSu; (try dsimp only at hSu); go_simp; (try with_reducible rfl))
  (try simp only [Act.put, List.setIfInBounds_toArray, List.set_cons_zero, List.set_cons_succ])
  refine Man.take1 (i := 1) (v := ?_) rfl (by kernel_rfl) (by kernel_rfl) (by kernel_rfl) (fun _ _ _ h => h) (by rfl) ?_ (by assumption) ?_
  rotate_left
  · (intro u hSu; (try dsimp only at hSu); go_simp; (try with_reducible rfl))
  (try simp only [Act.put, List.setIfInBounds_toArray, List.set_cons_zero, List.set_cons_succ])
  refine Man.take1 (i := 2) (v := ?_) rfl (by kernel_rfl) (by kernel_rfl) (by kernel_rfl) (fun _ _ _ h => h) (by rfl) ?_ (by assumption) ?_
  rotate_left
  · (intro u hSu; (try dsimp only at hSu); go_simp; (try with_reducible rfl))
  (try simp only [Act.put, List.setIfInBounds_toArray, List.set_cons_zero, List.set_cons_succ])
  refine Man.take0 (i := 3) rfl (by kernel_rfl) (by kernel_rfl) (by kernel_rfl) (fun _ _ _ h => h) (by rfl) (by assumption) ?_
  (try simp only [Act.put, List.setIfInBounds_toArray, List.set_cons_zero, List.set_cons_succ])
  refine Man.take0 (i := 4) rfl (by kernel_rfl) (by kernel_rfl) (by kernel_rfl) (fun _ _ _ h => h) (by rfl) (by assumption) ?_
  (try simp only [Act.put, List.setIfInBounds_toArray, List.set_cons_zero, List.set_cons_succ])
  refine Man.take0 (i := 5) rfl (by kernel_rfl) (by kernel_rfl) (by kernel_rfl) (fun _ _ _ h => h) (by rfl) (by assumption) ?_
  (try simp only [Act.put, List.setIfInBounds_toArray, List.set_cons_zero, List.set_cons_succ])
  refine Man.take1 (i := 6) (v := ?_) rfl (by kernel_rfl) (by kernel_rfl) (by kernel_rfl) (fun _ _ _ h => h) (by rfl) ?_ (by assumption) ?_
  rotate_left
  · (intro u hSu; (try dsimp only at hSu); go_simp; (try with_reducible rfl))
  (try simp only [Act.put, List.setIfInBounds_toArray, List.set_cons_zero, List.set_cons_succ])
  refine Man.take1 (i := 7) (v := ?_) rfl (by kernel_rfl) (by kernel_rfl) (by kernel_rfl) (fun _ _ _ h => h) (by rfl) ?_ (by assumption) ?_
  rotate_left
  · (intro u hSu; (try dsimp only at hSu); go_simp; (try with_reducible rfl))
  (try simp only [Act.put, List.setIfInBounds_toArray, List.set_cons_zero, List.set_cons_succ])
  refine Man.take0 (i := 8) rfl (by kernel_rfl) (by kernel_rfl) (by kernel_rfl) (fun _ _ _ h => h) (by rfl) (by assumption) ?_
  (try simp only [Act.put, List.setIfInBounds_toArray, List.set_cons_zero, List.set_cons_succ])
  refine Man.take0 (i := 9) rfl (by kernel_rfl) (by kernel_rfl) (by kernel_rfl) (fun _ _ _ h => h) (by rfl) (by assumption) ?_
  (try simp only [Act.put, List.setIfInBounds_toArray, List.set_cons_zero, List.set_cons_succ])
  refine Man.take0 (i := 10) rfl (by kernel_rfl) (by kernel_rfl) (by kernel_rfl) (fun _ _ _ h => h) (by rfl) (by assumption) ?_
  (try simp only [Act.put, List.setIfInBounds_toArray, List.set_cons_zero, List.set_cons_succ])
  refine Man.take0 (i := 11) rfl (by kernel_rfl) (by kernel_rfl) (by kernel_rfl) (fun _ _ _ h => h) (by rfl) (by assumption) ?_
  (try simp only [Act.put, List.setIfInBounds_toArray, List.set_cons_zero, List.set_cons_succ])
  refine Man.take0 (i := 12) rfl (by kernel_rfl) (by kernel_rfl) (by kernel_rfl) (fun _ _ _ h => h) (by rfl) (by assumption) ?_
  (try simp only [Act.put, List.setIfInBounds_toArray, List.set_cons_zero, List.set_cons_succ])
  refine Man.take0 (i := 13) rfl (by kernel_rfl) (by kernel_rfl) (by kernel_rfl) (fun _ _ _ h => h) (by rfl) (by assumption) ?_
  (try simp only [Act.put, List.setIfInBounds_toArray, List.set_cons_zero, List.set_cons_succ])
  refine Man.take0 (i := 14) rfl (by kernel_rfl) (by kernel_rfl) (by kernel_rfl) (fun _ _ _ h => h) (by rfl) (by assumption) ?_
  (try simp only [Act.put, List.setIfInBounds_toArray, List.set_cons_zero, List.set_cons_succ])
  refine Man.take1 (i := 15) (v := ?_) rfl (by kernel_rfl) (by kernel_rfl) (by kernel_rfl) (fun _ _ _ h => h) (by rfl) ?_ (by assumption) ?_
  rotate_left
  · (intro u hSu; (try dsimp only at hSu); go_simp; (try with_reducible rfl))
  (try simp only [Act.put, List.setIfInBounds_toArray, List.set_cons_zero, List.set_cons_succ])
  refine Man.take1 (i := 16) (v := ?_) rfl (by kernel_rfl) (by kernel_rfl) (by kernel_rfl) (fun _ _ _ h => h) (by rfl) ?_ (by assumption) ?_
  rotate_left
  · (intro u hSu; (try dsimp only at hSu); go_simp; (try with_reducible rfl))
  (try simp only [Act.put, List.setIfInBounds_toArray, List.set_cons_zero, List.set_cons_succ])
  refine Man.take1 (i := 17) (v := ?_) rfl (by kernel_rfl) (by kernel_rfl) (by kernel_rfl) (fun _ _ _ h => h) (by rfl) ?_ (by assumption) ?_
  rotate_left
  · (intro u hSu; (try dsimp only at hSu); go_simp; (try with_reducible rfl))
  (try simp only [Act.put, List.setIfInBounds_toArray, List.set_cons_zero, List.set_cons_succ])
  refine Man.take1 (i := 18) (v := ?_) rfl (by kernel_rfl) (by kernel_rfl) (by kernel_rfl) (fun _ _ _ h => h) (by rfl) ?_ (by assumption) ?_
  rotate_left
  · (intro u hSu; (try dsimp only at hSu); go_simp; (try with_reducible rfl))
  (try simp only [Act.put, List.setIfInBounds_toArray, List.set_cons_zero, List.set_cons_succ])
  refine Man.take1 (i := 19) (v := ?_) rfl (by kernel_rfl) (by kernel_rfl) (by kernel_rfl) (fun _ _ _ h => h) (by rfl) ?_ (by assumption) ?_
  rotate_left
  · (intro u hSu; (try dsimp only at hSu); go_simp; (try with_reducible rfl))
  (try simp only [Act.put, List.setIfInBounds_toArray, List.set_cons_zero, List.set_cons_succ])
  refine Man.take1 (i := 20) (v := ?_) rfl (by kernel_rfl) (by kernel_rfl) (by kernel_rfl) (fun _ _ _ h => h) (by rfl) ?_ (by assumption) ?_
  rotate_left
  · (intro u hSu; (try dsimp only at hSu); go_simp; (try with_reducible rfl))
  (try simp only [Act.put, List.setIfInBounds_toArray, List.set_cons_zero, List.set_cons_succ])
  refine Man.take1 (i := 21) (v := ?_) rfl (by kernel_rfl) (by kernel_rfl) (by kernel_rfl) (fun _ _ _ h => h) (by rfl) ?_ (by assumption) ?_
  rotate_left
  · (intro u hSu; (try dsimp only at hSu); go_simp; (try with_reducible rfl))
  (try simp only [Act.put, List.setIfInBounds_toArray, List.set_cons_zero, List.set_cons_succ])
  refine Man.take1 (i := 22) (v := ?_) rfl (by kernel_rfl) (by kernel_rfl) (by kernel_rfl) (fun _ _ _ h => h) (by rfl) ?_ (by assumption) ?_
  rotate_left
  · (intro u hSu; (try dsimp only at hSu); go_simp; (try with_reducible rfl))
  (try simp only [Act.put, List.setIfInBounds_toArray, List.set_cons_zero, List.set_cons_succ])
  refine Man.take1 (i := 23) (v := ?_) rfl (by kernel_rfl) (by kernel_rfl) (by kernel_rfl) (fun _ _ _ h => h) (by rfl) ?_ (by assumption) ?_
  rotate_left
  · (intro u hSu; (try dsimp only at hSu); go_simp; (try with_reducible rfl))
  (try simp only [Act.put, List.setIfInBounds_toArray, List.set_cons_zero, List.set_cons_succ])
  refine Man.take1 (i := 24) (v := ?_) rfl (by kernel_rfl) (by kernel_rfl) (by kernel_rfl) (fun _ _ _ h => h) (by rfl) ?_ (by assumption) ?_
  rotate_left
  · (intro u hSu; (try dsimp only at hSu); go_simp; (try with_reducible rfl))
  (try simp only [Act.put, List.setIfInBounds_toArray, List.set_cons_zero, List.set_cons_succ])
  refine Man.take1 (i := 25) (v := ?_) rfl (by kernel_rfl) (by kernel_rfl) (by kernel_rfl) (fun _ _ _ h => h) (by rfl) ?_ (by assumption) ?_
  rotate_left
  · (intro u hSu; (try dsimp only at hSu); go_simp; (try with_reducible rfl))
  (try simp only [Act.put, List.setIfInBounds_toArray, List.set_cons_zero, List.set_cons_succ])
  refine Man.take1 (i := 28) (v := ?_) rfl (by kernel_rfl) (by kernel_rfl) (by kernel_rfl) (fun _ _ _ h => h) (by rfl) ?_ (by assumption) ?_
  rotate_left
  · (intro u hSu; (try dsimp only at hSu); go_simp; (try with_reducible rfl))
  (try simp only [Act.put, List.setIfInBounds_toArray, List.set_cons_zero, List.set_cons_succ])
  refine Man.one (i := 26) rfl (by kernel_rfl) (fun K hK => ?_)
  go_simp
  (go_at_call 12; (with_reducible refine (show_i n Tn n0_.out n1_.out hTn_.out _ (And.left hHeld)).mono ?_); rintro e w' ⟨rfl, hb⟩)
  refine hK.out _ _ ?_ (fun hNew => ?_)
  · exact two_step hHeld hb
  clear hHeld hK K hb
  have hHeld := hNew
  clear hNew
  (try simp only [Act.put, List.setIfInBounds_toArray, List.set_cons_zero, List.set_cons_succ])
  refine Man.take1 (i := 27) (v := ?_) rfl (by kernel_rfl) (by kernel_rfl) (by kernel_rfl) (fun _ _ _ h => h) (by rfl) ?_ (by assumption) ?_
  rotate_left
  · (intro u hSu; (try dsimp only at hSu); go_simp; (try with_reducible rfl))
  (try simp only [Act.put, List.setIfInBounds_toArray, List.set_cons_zero, List.set_cons_succ])
  refine Man.one (i := 29) rfl (by kernel_rfl) (fun K hK => ?_)
  go_simp
  (go_at_call 12; (with_reducible refine (show_i m Tm m0_.out m1_.out hTm_.out _ (And.left hHeld)).mono ?_); rintro e w' ⟨rfl, hb⟩)
  refine hK.out _ _ ?_ (fun hNew => ?_)
  · exact two_step hHeld hb
  clear hHeld hK K hb
  have hHeld := hNew
  clear hNew
  (try simp only [Act.put, List.setIfInBounds_toArray, List.set_cons_zero, List.set_cons_succ])
  refine Man.take1 (i := 30) (v := ?_) rfl (by kernel_rfl) (by kernel_rfl) (by kernel_rfl) (fun _ _ _ h => h) (by rfl) ?_ (by assumption) ?_
  rotate_left
  · (intro u hSu; (try dsimp only at hSu); go_simp; (try with_reducible rfl))
  (try simp only [Act.put, List.setIfInBounds_toArray, List.set_cons_zero, List.set_cons_succ])
  refine Man.take1 (i := 31) (v := ?_) rfl (by kernel_rfl) (by kernel_rfl) (by kernel_rfl) (fun _ _ _ h => h) (by rfl) ?_ (by assumption) ?_
  rotate_left
  · (intro u hSu; (try dsimp only at hSu); go_simp; (try with_reducible rfl))
  (try simp only [Act.put, List.setIfInBounds_toArray, List.set_cons_zero, List.set_cons_succ])
  refine Man.take1 (i := 32) (v := ?_) rfl (by kernel_rfl) (by kernel_rfl) (by kernel_rfl) (fun _ _ _ h => h) (by rfl) ?_ (by assumption) ?_
  rotate_left
  · (intro u hSu; (try dsimp only at hSu); go_simp; (try with_reducible rfl))
  (try simp only [Act.put, List.setIfInBounds_toArray, List.set_cons_zero, List.set_cons_succ])
  refine Man.take1 (i := 33) (v := ?_) rfl (by kernel_rfl) (by kernel_rfl) (by kernel_rfl) (fun _ _ _ h => h) (by rfl) ?_ (by assumption) ?_
  rotate_left
  · (intro u hSu; (try dsimp only at hSu); go_simp; (try with_reducible rfl))
  (try simp only [Act.put, List.setIfInBounds_toArray, List.set_cons_zero, List.set_cons_succ])
  refine wpAnyH_done (by kernel_rfl) ?_ _
  obtain ⟨hqe, hqb, hqz, a0, a1, a2, a3, b0, b1, b2, b3, e0, e1, e2, e3⟩ := hHeld
  have QE := Lib.hid hqe
  have QB := Lib.hid hqb
  clear hqe hqb SS SD
  go_wp2_with fail
  refine (Rd.known_any _ QE.out).mono ?_
  rintro e w9 ⟨rfl, hbn⟩
  have B9 := Lib.hid (QB.out.trans (hbn.mono hqz))
  clear hbn
  go_wp2_with fail
  go_ret
  exact ⟨rfl, B9.out⟩
set_option maxHeartbeats 8000000 in
set_option maxRecDepth 100000 in
theorem in_dn_eq (m n : Int) (w : World) (he : Val.Env w) (m0 : -9223372036854775808 ≤ m) (m1 : m ≤ 9223372036854775807) (n0 : -9223372036854775808 ≤ n) (n1 : n ≤ 9223372036854775807) (Tm Tn : ByteArray) (hTm : Tm.data.toList = Val.showL 2 m 0 ⟨#[]⟩) (hTn : Tn.data.toList = Val.showL 2 n 0 ⟨#[]⟩) (hms : Tm.size ≤ 35184372088832) (hp : Rd.parse Tm.data.toList = some ⟨2, m, 0, []⟩) (cv : Int) (hcv : Val.cmpI m n = cv) (gm : decide (0 ≤ m) = false) (gs : decide (m < 0) = true) (gd : decide (n ≤ m) = true) (gl : decide (Tn.size < Tm.size) = false) (g1 : decide (m < n) = false) (g2 : decide (n < m) = false) (hcvv : cv = 0) : Calls Tryd.prog 5 #[.int .i64 m, .int .i64 n] w fun e w' => e = .returned (.bool true) ∧ Below w.heap.size w w' := by
  have hTm_ := Lib.hid hTm
  have hTn_ := Lib.hid hTn
  have hms_ := Lib.hid hms
  have hp_ := Lib.hid hp
  have m0_ := Lib.hid m0
  have m1_ := Lib.hid m1
  have n0_ := Lib.hid n0
  have n1_ := Lib.hid n1
  have hcv_ := Lib.hid hcv
  clear hTm hTn hms hp m0 m1 n0 n1 hcv
  obtain rfl : cv = 0 := hcvv
  have HE0 := Lib.hid ((he.below ((Below.refl w.heap.size w).alloc (Nat.le_refl _) (.cells #[.int .i64 2, .int .i64 m, .int .u64 0, .string ⟨#[]⟩] 24))).below ((Below.refl (w.alloc (.cells #[.int .i64 2, .int .i64 m, .int .u64 0, .string ⟨#[]⟩] 24)).heap.size (w.alloc (.cells #[.int .i64 2, .int .i64 m, .int .u64 0, .string ⟨#[]⟩] 24))).alloc (Nat.le_refl _) (.cells #[.int .i64 2, .int .i64 n, .int .u64 0, .string ⟨#[]⟩] 24)))
  have T50 := Lib.hid ((Rd.Box.new w 2 m 0 ⟨#[]⟩).old (.cells #[.int .i64 2, .int .i64 n, .int .u64 0, .string ⟨#[]⟩] 24))
  have T60 := Lib.hid (show Rd.Box ((w.alloc (.cells #[.int .i64 2, .int .i64 m, .int .u64 0, .string ⟨#[]⟩] 24)).alloc (.cells #[.int .i64 2, .int .i64 n, .int .u64 0, .string ⟨#[]⟩] 24)) (w.heap.size + 1) 2 n 0 ⟨#[]⟩ from by have h := Rd.Box.new (w.alloc (.cells #[.int .i64 2, .int .i64 m, .int .u64 0, .string ⟨#[]⟩] 24)) 2 n 0 ⟨#[]⟩; rwa [show (w.alloc (.cells #[.int .i64 2, .int .i64 m, .int .u64 0, .string ⟨#[]⟩] 24)).heap.size = w.heap.size + 1 from by simp] at h)
  have B0 := Lib.hid (((Below.refl w.heap.size w).alloc (Nat.le_refl _) (.cells #[.int .i64 2, .int .i64 m, .int .u64 0, .string ⟨#[]⟩] 24)).alloc (by simp) (.cells #[.int .i64 2, .int .i64 n, .int .u64 0, .string ⟨#[]⟩] 24))
  have Z0 : w.heap.size ≤ ((w.alloc (.cells #[.int .i64 2, .int .i64 m, .int .u64 0, .string ⟨#[]⟩] 24)).alloc (.cells #[.int .i64 2, .int .i64 n, .int .u64 0, .string ⟨#[]⟩] 24)).heap.size := by simp; omega
  clear he
  have gq := self_eqV 2 m 0 ⟨#[]⟩
  go_enter Tryd.func5, Tryd.ntmps5
  go_wp2_with fail
  refine (show_is 2 m 0 ⟨#[]⟩ Tm m0_.out m1_.out (by decide) hTm_.out _ HE0.out).mono ?_
  rintro e w1 ⟨rfl, hbn⟩
  have HE1 := Lib.hid (HE0.out.below hbn)
  have T51 := Lib.hid (T50.out.below hbn)
  have T61 := Lib.hid (T60.out.below hbn)
  have B1 := Lib.hid (B0.out.trans (hbn.mono Z0))
  have Z1 : w.heap.size ≤ w1.heap.size := Nat.le_trans Z0 hbn.size
  clear hbn HE0 B0 Z0 T50 T60
  go_wp2_with fail
  refine (parse_some Tm hms_.out 2 m 0 ⟨#[]⟩ hp_.out _ HE1.out).mono ?_
  rintro e w2 ⟨rfl, hbn⟩
  have HE2 := Lib.hid (HE1.out.below hbn)
  have T52 := Lib.hid (T51.out.below hbn)
  have T62 := Lib.hid (T61.out.below hbn)
  have B2 := Lib.hid (B1.out.trans (hbn.mono Z1))
  have Z2 : w.heap.size ≤ w2.heap.size := Nat.le_trans Z1 hbn.size
  clear hbn HE1 B1 Z1 T51 T61
  have HE2a := Lib.hid (HE2.out.below ((Below.refl w2.heap.size w2).alloc (Nat.le_refl _) (.cells #[.int .i64 2, .int .i64 m, .int .u64 0, .string ⟨#[]⟩] 24)))
  have T52a := Lib.hid (T52.out.old (.cells #[.int .i64 2, .int .i64 m, .int .u64 0, .string ⟨#[]⟩] 24))
  have T62a := Lib.hid (T62.out.old (.cells #[.int .i64 2, .int .i64 m, .int .u64 0, .string ⟨#[]⟩] 24))
  have T72a := Lib.hid (Rd.Box.new w2 2 m 0 ⟨#[]⟩)
  have B2a := Lib.hid (B2.out.alloc Z2 (.cells #[.int .i64 2, .int .i64 m, .int .u64 0, .string ⟨#[]⟩] 24))
  have Z2a : w.heap.size ≤ (w2.alloc (.cells #[.int .i64 2, .int .i64 m, .int .u64 0, .string ⟨#[]⟩] 24)).heap.size := by simp; omega
  clear HE2 B2 Z2 T52 T62
  have qT50 := T52a.out.c0
  have qT51 := T52a.out.c1
  have qT52 := T52a.out.c2
  have qT53 := T52a.out.c3
  have qT60 := T62a.out.c0
  have qT61 := T62a.out.c1
  have qT62 := T62a.out.c2
  have qT63 := T62a.out.c3
  go_wp2_with fail
  refine (cmp_ints m n _).mono ?_
  rw [hcv_.out]
  rintro e w3 ⟨rfl, hbn⟩
  clear qT50 qT51 qT52 qT53 qT60 qT61 qT62 qT63
  have HE3 := Lib.hid (HE2a.out.below hbn)
  have T53 := Lib.hid (T52a.out.below hbn)
  have T63 := Lib.hid (T62a.out.below hbn)
  have T73 := Lib.hid (T72a.out.below hbn)
  have B3 := Lib.hid (B2a.out.trans (hbn.mono Z2a))
  have Z3 : w.heap.size ≤ w3.heap.size := Nat.le_trans Z2a hbn.size
  clear hbn HE2a B2a Z2a T52a T62a T72a
  go_wp2_with fail
  have SS : (fun w' => Val.Env w' ∧ Below w.heap.size w w' ∧ w.heap.size ≤ w'.heap.size ∧ w'.cell? ⟨w.heap.size, 0, none⟩ = some (.int .i64 2) ∧ w'.cell? ⟨w.heap.size, 1, none⟩ = some (.int .i64 m) ∧ w'.cell? ⟨w.heap.size, 2, none⟩ = some (.int .u64 0) ∧ w'.cell? ⟨w.heap.size, 3, none⟩ = some (.string ⟨#[]⟩) ∧ w'.cell? ⟨(w.heap.size + 1), 0, none⟩ = some (.int .i64 2) ∧ w'.cell? ⟨(w.heap.size + 1), 1, none⟩ = some (.int .i64 n) ∧ w'.cell? ⟨(w.heap.size + 1), 2, none⟩ = some (.int .u64 0) ∧ w'.cell? ⟨(w.heap.size + 1), 3, none⟩ = some (.string ⟨#[]⟩) ∧ w'.cell? ⟨w2.heap.size, 0, none⟩ = some (.int .i64 2) ∧ w'.cell? ⟨w2.heap.size, 1, none⟩ = some (.int .i64 m) ∧ w'.cell? ⟨w2.heap.size, 2, none⟩ = some (.int .u64 0) ∧ w'.cell? ⟨w2.heap.size, 3, none⟩ = some (.string ⟨#[]⟩)) w3 := ⟨HE3.out, B3.out, Z3, T53.out.c0, T53.out.c1, T53.out.c2, T53.out.c3, T63.out.c0, T63.out.c1, T63.out.c2, T63.out.c3, T73.out.c0, T73.out.c1, T73.out.c2, T73.out.c3⟩
  clear HE3 B3 Z3 T53 T63 T73
  generalize w2.heap.size = b7 at SS ⊢
  have SD : (fun w' => Val.Env w' ∧ Below w.heap.size w w' ∧ w.heap.size ≤ w'.heap.size ∧ w'.cell? ⟨w.heap.size, 0, none⟩ = some (.int .i64 2) ∧ w'.cell? ⟨w.heap.size, 1, none⟩ = some (.int .i64 m) ∧ w'.cell? ⟨w.heap.size, 2, none⟩ = some (.int .u64 0) ∧ w'.cell? ⟨w.heap.size, 3, none⟩ = some (.string ⟨#[]⟩) ∧ w'.cell? ⟨(w.heap.size + 1), 0, none⟩ = some (.int .i64 2) ∧ w'.cell? ⟨(w.heap.size + 1), 1, none⟩ = some (.int .i64 n) ∧ w'.cell? ⟨(w.heap.size + 1), 2, none⟩ = some (.int .u64 0) ∧ w'.cell? ⟨(w.heap.size + 1), 3, none⟩ = some (.string ⟨#[]⟩) ∧ w'.cell? ⟨b7, 0, none⟩ = some (.int .i64 2) ∧ w'.cell? ⟨b7, 1, none⟩ = some (.int .i64 m) ∧ w'.cell? ⟨b7, 2, none⟩ = some (.int .u64 0) ∧ w'.cell? ⟨b7, 3, none⟩ = some (.string ⟨#[]⟩)) w3.drew := ⟨SS.1.below (Below.refl _ w3).drew, SS.2.1.drew, SS.2.2⟩
  refine wp_region_held_drew (S := fun w' => Val.Env w' ∧ Below w.heap.size w w' ∧ w.heap.size ≤ w'.heap.size ∧ w'.cell? ⟨w.heap.size, 0, none⟩ = some (.int .i64 2) ∧ w'.cell? ⟨w.heap.size, 1, none⟩ = some (.int .i64 m) ∧ w'.cell? ⟨w.heap.size, 2, none⟩ = some (.int .u64 0) ∧ w'.cell? ⟨w.heap.size, 3, none⟩ = some (.string ⟨#[]⟩) ∧ w'.cell? ⟨(w.heap.size + 1), 0, none⟩ = some (.int .i64 2) ∧ w'.cell? ⟨(w.heap.size + 1), 1, none⟩ = some (.int .i64 n) ∧ w'.cell? ⟨(w.heap.size + 1), 2, none⟩ = some (.int .u64 0) ∧ w'.cell? ⟨(w.heap.size + 1), 3, none⟩ = some (.string ⟨#[]⟩) ∧ w'.cell? ⟨b7, 0, none⟩ = some (.int .i64 2) ∧ w'.cell? ⟨b7, 1, none⟩ = some (.int .i64 m) ∧ w'.cell? ⟨b7, 2, none⟩ = some (.int .u64 0) ∧ w'.cell? ⟨b7, 3, none⟩ = some (.string ⟨#[]⟩)) (by kernel_rfl) ?_ (fun hHeld => ?_)
  · exact SD
  refine Man.take1 (i := 0) (v := ?_) rfl (by kernel_rfl) (by kernel_rfl) (by kernel_rfl) (fun _ _ _ h => h) (by rfl) ?_ (by assumption) ?_
  rotate_left
  · (intro u hSu; (try dsimp only at hSu); go_simp; (try with_reducible rfl))
  (try simp only [Act.put, List.setIfInBounds_toArray, List.set_cons_zero, List.set_cons_succ])
  refine Man.take1 (i := 1) (v := ?_) rfl (by kernel_rfl) (by kernel_rfl) (by kernel_rfl) (fun _ _ _ h => h) (by rfl) ?_ (by assumption) ?_
  rotate_left
  · (intro u hSu; (try dsimp only at hSu); go_simp; (try with_reducible rfl))
  (try simp only [Act.put, List.setIfInBounds_toArray, List.set_cons_zero, List.set_cons_succ])
  refine Man.take1 (i := 2) (v := ?_) rfl (by kernel_rfl) (by kernel_rfl) (by kernel_rfl) (fun _ _ _ h => h) (by rfl) ?_ (by assumption) ?_
  rotate_left
  · (intro u hSu; (try dsimp only at hSu); go_simp; (try with_reducible rfl))
  (try simp only [Act.put, List.setIfInBounds_toArray, List.set_cons_zero, List.set_cons_succ])
  refine Man.take0 (i := 3) rfl (by kernel_rfl) (by kernel_rfl) (by kernel_rfl) (fun _ _ _ h => h) (by rfl) (by assumption) ?_
  (try simp only [Act.put, List.setIfInBounds_toArray, List.set_cons_zero, List.set_cons_succ])
  refine Man.take0 (i := 4) rfl (by kernel_rfl) (by kernel_rfl) (by kernel_rfl) (fun _ _ _ h => h) (by rfl) (by assumption) ?_
  (try simp only [Act.put, List.setIfInBounds_toArray, List.set_cons_zero, List.set_cons_succ])
  refine Man.take0 (i := 5) rfl (by kernel_rfl) (by kernel_rfl) (by kernel_rfl) (fun _ _ _ h => h) (by rfl) (by assumption) ?_
  (try simp only [Act.put, List.setIfInBounds_toArray, List.set_cons_zero, List.set_cons_succ])
  refine Man.take1 (i := 6) (v := ?_) rfl (by kernel_rfl) (by kernel_rfl) (by kernel_rfl) (fun _ _ _ h => h) (by rfl) ?_ (by assumption) ?_
  rotate_left
  · (intro u hSu; (try dsimp only at hSu); go_simp; (try with_reducible rfl))
  (try simp only [Act.put, List.setIfInBounds_toArray, List.set_cons_zero, List.set_cons_succ])
  refine Man.take1 (i := 7) (v := ?_) rfl (by kernel_rfl) (by kernel_rfl) (by kernel_rfl) (fun _ _ _ h => h) (by rfl) ?_ (by assumption) ?_
  rotate_left
  · (intro u hSu; (try dsimp only at hSu); go_simp; (try with_reducible rfl))
  (try simp only [Act.put, List.setIfInBounds_toArray, List.set_cons_zero, List.set_cons_succ])
  refine Man.take0 (i := 8) rfl (by kernel_rfl) (by kernel_rfl) (by kernel_rfl) (fun _ _ _ h => h) (by rfl) (by assumption) ?_
  (try simp only [Act.put, List.setIfInBounds_toArray, List.set_cons_zero, List.set_cons_succ])
  refine Man.take0 (i := 9) rfl (by kernel_rfl) (by kernel_rfl) (by kernel_rfl) (fun _ _ _ h => h) (by rfl) (by assumption) ?_
  (try simp only [Act.put, List.setIfInBounds_toArray, List.set_cons_zero, List.set_cons_succ])
  refine Man.take0 (i := 10) rfl (by kernel_rfl) (by kernel_rfl) (by kernel_rfl) (fun _ _ _ h => h) (by rfl) (by assumption) ?_
  (try simp only [Act.put, List.setIfInBounds_toArray, List.set_cons_zero, List.set_cons_succ])
  refine Man.take0 (i := 11) rfl (by kernel_rfl) (by kernel_rfl) (by kernel_rfl) (fun _ _ _ h => h) (by rfl) (by assumption) ?_
  (try simp only [Act.put, List.setIfInBounds_toArray, List.set_cons_zero, List.set_cons_succ])
  refine Man.take0 (i := 12) rfl (by kernel_rfl) (by kernel_rfl) (by kernel_rfl) (fun _ _ _ h => h) (by rfl) (by assumption) ?_
  (try simp only [Act.put, List.setIfInBounds_toArray, List.set_cons_zero, List.set_cons_succ])
  refine Man.take0 (i := 13) rfl (by kernel_rfl) (by kernel_rfl) (by kernel_rfl) (fun _ _ _ h => h) (by rfl) (by assumption) ?_
  (try simp only [Act.put, List.setIfInBounds_toArray, List.set_cons_zero, List.set_cons_succ])
  refine Man.take0 (i := 14) rfl (by kernel_rfl) (by kernel_rfl) (by kernel_rfl) (fun _ _ _ h => h) (by rfl) (by assumption) ?_
  (try simp only [Act.put, List.setIfInBounds_toArray, List.set_cons_zero, List.set_cons_succ])
  refine Man.take1 (i := 15) (v := ?_) rfl (by kernel_rfl) (by kernel_rfl) (by kernel_rfl) (fun _ _ _ h => h) (by rfl) ?_ (by assumption) ?_
  rotate_left
  · (intro u hSu; (try dsimp only at hSu); go_simp; (try with_reducible rfl))
  (try simp only [Act.put, List.setIfInBounds_toArray, List.set_cons_zero, List.set_cons_succ])
  refine Man.take1 (i := 16) (v := ?_) rfl (by kernel_rfl) (by kernel_rfl) (by kernel_rfl) (fun _ _ _ h => h) (by rfl) ?_ (by assumption) ?_
  rotate_left
  · (intro u hSu; (try dsimp only at hSu); go_simp; (try with_reducible rfl))
  (try simp only [Act.put, List.setIfInBounds_toArray, List.set_cons_zero, List.set_cons_succ])
  refine Man.take1 (i := 17) (v := ?_) rfl (by kernel_rfl) (by kernel_rfl) (by kernel_rfl) (fun _ _ _ h => h) (by rfl) ?_ (by assumption) ?_
  rotate_left
  · (intro u hSu; (try dsimp only at hSu); go_simp; (try with_reducible rfl))
  (try simp only [Act.put, List.setIfInBounds_toArray, List.set_cons_zero, List.set_cons_succ])
  refine Man.take1 (i := 18) (v := ?_) rfl (by kernel_rfl) (by kernel_rfl) (by kernel_rfl) (fun _ _ _ h => h) (by rfl) ?_ (by assumption) ?_
  rotate_left
  · (intro u hSu; (try dsimp only at hSu); go_simp; (try with_reducible rfl))
  (try simp only [Act.put, List.setIfInBounds_toArray, List.set_cons_zero, List.set_cons_succ])
  refine Man.take1 (i := 19) (v := ?_) rfl (by kernel_rfl) (by kernel_rfl) (by kernel_rfl) (fun _ _ _ h => h) (by rfl) ?_ (by assumption) ?_
  rotate_left
  · (intro u hSu; (try dsimp only at hSu); go_simp; (try with_reducible rfl))
  (try simp only [Act.put, List.setIfInBounds_toArray, List.set_cons_zero, List.set_cons_succ])
  refine Man.take1 (i := 20) (v := ?_) rfl (by kernel_rfl) (by kernel_rfl) (by kernel_rfl) (fun _ _ _ h => h) (by rfl) ?_ (by assumption) ?_
  rotate_left
  · (intro u hSu; (try dsimp only at hSu); go_simp; (try with_reducible rfl))
  (try simp only [Act.put, List.setIfInBounds_toArray, List.set_cons_zero, List.set_cons_succ])
  refine Man.take1 (i := 21) (v := ?_) rfl (by kernel_rfl) (by kernel_rfl) (by kernel_rfl) (fun _ _ _ h => h) (by rfl) ?_ (by assumption) ?_
  rotate_left
  · (intro u hSu; (try dsimp only at hSu); go_simp; (try with_reducible rfl))
  (try simp only [Act.put, List.setIfInBounds_toArray, List.set_cons_zero, List.set_cons_succ])
  refine Man.take1 (i := 22) (v := ?_) rfl (by kernel_rfl) (by kernel_rfl) (by kernel_rfl) (fun _ _ _ h => h) (by rfl) ?_ (by assumption) ?_
  rotate_left
  · (intro u hSu; (try dsimp only at hSu); go_simp; (try with_reducible rfl))
  (try simp only [Act.put, List.setIfInBounds_toArray, List.set_cons_zero, List.set_cons_succ])
  refine Man.take1 (i := 23) (v := ?_) rfl (by kernel_rfl) (by kernel_rfl) (by kernel_rfl) (fun _ _ _ h => h) (by rfl) ?_ (by assumption) ?_
  rotate_left
  · (intro u hSu; (try dsimp only at hSu); go_simp; (try with_reducible rfl))
  (try simp only [Act.put, List.setIfInBounds_toArray, List.set_cons_zero, List.set_cons_succ])
  refine Man.take1 (i := 24) (v := ?_) rfl (by kernel_rfl) (by kernel_rfl) (by kernel_rfl) (fun _ _ _ h => h) (by rfl) ?_ (by assumption) ?_
  rotate_left
  · (intro u hSu; (try dsimp only at hSu); go_simp; (try with_reducible rfl))
  (try simp only [Act.put, List.setIfInBounds_toArray, List.set_cons_zero, List.set_cons_succ])
  refine Man.take1 (i := 25) (v := ?_) rfl (by kernel_rfl) (by kernel_rfl) (by kernel_rfl) (fun _ _ _ h => h) (by rfl) ?_ (by assumption) ?_
  rotate_left
  · (intro u hSu; (try dsimp only at hSu); go_simp; (try with_reducible rfl))
  (try simp only [Act.put, List.setIfInBounds_toArray, List.set_cons_zero, List.set_cons_succ])
  refine Man.take1 (i := 28) (v := ?_) rfl (by kernel_rfl) (by kernel_rfl) (by kernel_rfl) (fun _ _ _ h => h) (by rfl) ?_ (by assumption) ?_
  rotate_left
  · (intro u hSu; (try dsimp only at hSu); go_simp; (try with_reducible rfl))
  (try simp only [Act.put, List.setIfInBounds_toArray, List.set_cons_zero, List.set_cons_succ])
  refine Man.one (i := 26) rfl (by kernel_rfl) (fun K hK => ?_)
  go_simp
  (go_at_call 12; (with_reducible refine (show_i n Tn n0_.out n1_.out hTn_.out _ (And.left hHeld)).mono ?_); rintro e w' ⟨rfl, hb⟩)
  refine hK.out _ _ ?_ (fun hNew => ?_)
  · exact two_step hHeld hb
  clear hHeld hK K hb
  have hHeld := hNew
  clear hNew
  (try simp only [Act.put, List.setIfInBounds_toArray, List.set_cons_zero, List.set_cons_succ])
  refine Man.take1 (i := 27) (v := ?_) rfl (by kernel_rfl) (by kernel_rfl) (by kernel_rfl) (fun _ _ _ h => h) (by rfl) ?_ (by assumption) ?_
  rotate_left
  · (intro u hSu; (try dsimp only at hSu); go_simp; (try with_reducible rfl))
  (try simp only [Act.put, List.setIfInBounds_toArray, List.set_cons_zero, List.set_cons_succ])
  refine Man.one (i := 29) rfl (by kernel_rfl) (fun K hK => ?_)
  go_simp
  (go_at_call 12; (with_reducible refine (show_i m Tm m0_.out m1_.out hTm_.out _ (And.left hHeld)).mono ?_); rintro e w' ⟨rfl, hb⟩)
  refine hK.out _ _ ?_ (fun hNew => ?_)
  · exact two_step hHeld hb
  clear hHeld hK K hb
  have hHeld := hNew
  clear hNew
  (try simp only [Act.put, List.setIfInBounds_toArray, List.set_cons_zero, List.set_cons_succ])
  refine Man.take1 (i := 30) (v := ?_) rfl (by kernel_rfl) (by kernel_rfl) (by kernel_rfl) (fun _ _ _ h => h) (by rfl) ?_ (by assumption) ?_
  rotate_left
  · (intro u hSu; (try dsimp only at hSu); go_simp; (try with_reducible rfl))
  (try simp only [Act.put, List.setIfInBounds_toArray, List.set_cons_zero, List.set_cons_succ])
  refine Man.take1 (i := 31) (v := ?_) rfl (by kernel_rfl) (by kernel_rfl) (by kernel_rfl) (fun _ _ _ h => h) (by rfl) ?_ (by assumption) ?_
  rotate_left
  · (intro u hSu; (try dsimp only at hSu); go_simp; (try with_reducible rfl))
  (try simp only [Act.put, List.setIfInBounds_toArray, List.set_cons_zero, List.set_cons_succ])
  refine Man.take1 (i := 32) (v := ?_) rfl (by kernel_rfl) (by kernel_rfl) (by kernel_rfl) (fun _ _ _ h => h) (by rfl) ?_ (by assumption) ?_
  rotate_left
  · (intro u hSu; (try dsimp only at hSu); go_simp; (try with_reducible rfl))
  (try simp only [Act.put, List.setIfInBounds_toArray, List.set_cons_zero, List.set_cons_succ])
  refine Man.take1 (i := 33) (v := ?_) rfl (by kernel_rfl) (by kernel_rfl) (by kernel_rfl) (fun _ _ _ h => h) (by rfl) ?_ (by assumption) ?_
  rotate_left
  · (intro u hSu; (try dsimp only at hSu); go_simp; (try with_reducible rfl))
  (try simp only [Act.put, List.setIfInBounds_toArray, List.set_cons_zero, List.set_cons_succ])
  refine wpAnyH_done (by kernel_rfl) ?_ _
  obtain ⟨hqe, hqb, hqz, a0, a1, a2, a3, b0, b1, b2, b3, e0, e1, e2, e3⟩ := hHeld
  have QE := Lib.hid hqe
  have QB := Lib.hid hqb
  clear hqe hqb SS SD
  go_wp2_with fail
  refine (Rd.known_any _ QE.out).mono ?_
  rintro e w9 ⟨rfl, hbn⟩
  have B9 := Lib.hid (QB.out.trans (hbn.mono hqz))
  clear hbn
  go_wp2_with fail
  go_ret
  exact ⟨rfl, B9.out⟩
set_option maxHeartbeats 8000000 in
set_option maxRecDepth 100000 in
theorem in_hi (m n : Int) (w : World) (he : Val.Env w) (m0 : -9223372036854775808 ≤ m) (m1 : m ≤ 9223372036854775807) (n0 : -9223372036854775808 ≤ n) (n1 : n ≤ 9223372036854775807) (Tm Tn : ByteArray) (hTm : Tm.data.toList = Val.showL 2 m 0 ⟨#[]⟩) (hTn : Tn.data.toList = Val.showL 2 n 0 ⟨#[]⟩) (hms : Tm.size ≤ 35184372088832) (hp : Rd.parse Tm.data.toList = some ⟨2, m, 0, []⟩) (cv : Int) (hcv : Val.cmpI m n = cv) (gm : decide (0 ≤ m) = false) (gs : decide (m < 0) = true) (gd : decide (n ≤ m) = false) (g1 : decide (m < n) = true) (g2 : decide (n < m) = false) (hcvv : cv = -1) : Calls Tryd.prog 5 #[.int .i64 m, .int .i64 n] w fun e w' => e = .returned (.bool true) ∧ Below w.heap.size w w' := by
  have hTm_ := Lib.hid hTm
  have hTn_ := Lib.hid hTn
  have hms_ := Lib.hid hms
  have hp_ := Lib.hid hp
  have m0_ := Lib.hid m0
  have m1_ := Lib.hid m1
  have n0_ := Lib.hid n0
  have n1_ := Lib.hid n1
  have hcv_ := Lib.hid hcv
  clear hTm hTn hms hp m0 m1 n0 n1 hcv
  obtain rfl : cv = -1 := hcvv
  have HE0 := Lib.hid ((he.below ((Below.refl w.heap.size w).alloc (Nat.le_refl _) (.cells #[.int .i64 2, .int .i64 m, .int .u64 0, .string ⟨#[]⟩] 24))).below ((Below.refl (w.alloc (.cells #[.int .i64 2, .int .i64 m, .int .u64 0, .string ⟨#[]⟩] 24)).heap.size (w.alloc (.cells #[.int .i64 2, .int .i64 m, .int .u64 0, .string ⟨#[]⟩] 24))).alloc (Nat.le_refl _) (.cells #[.int .i64 2, .int .i64 n, .int .u64 0, .string ⟨#[]⟩] 24)))
  have T50 := Lib.hid ((Rd.Box.new w 2 m 0 ⟨#[]⟩).old (.cells #[.int .i64 2, .int .i64 n, .int .u64 0, .string ⟨#[]⟩] 24))
  have T60 := Lib.hid (show Rd.Box ((w.alloc (.cells #[.int .i64 2, .int .i64 m, .int .u64 0, .string ⟨#[]⟩] 24)).alloc (.cells #[.int .i64 2, .int .i64 n, .int .u64 0, .string ⟨#[]⟩] 24)) (w.heap.size + 1) 2 n 0 ⟨#[]⟩ from by have h := Rd.Box.new (w.alloc (.cells #[.int .i64 2, .int .i64 m, .int .u64 0, .string ⟨#[]⟩] 24)) 2 n 0 ⟨#[]⟩; rwa [show (w.alloc (.cells #[.int .i64 2, .int .i64 m, .int .u64 0, .string ⟨#[]⟩] 24)).heap.size = w.heap.size + 1 from by simp] at h)
  have B0 := Lib.hid (((Below.refl w.heap.size w).alloc (Nat.le_refl _) (.cells #[.int .i64 2, .int .i64 m, .int .u64 0, .string ⟨#[]⟩] 24)).alloc (by simp) (.cells #[.int .i64 2, .int .i64 n, .int .u64 0, .string ⟨#[]⟩] 24))
  have Z0 : w.heap.size ≤ ((w.alloc (.cells #[.int .i64 2, .int .i64 m, .int .u64 0, .string ⟨#[]⟩] 24)).alloc (.cells #[.int .i64 2, .int .i64 n, .int .u64 0, .string ⟨#[]⟩] 24)).heap.size := by simp; omega
  clear he
  have gq := self_eqV 2 m 0 ⟨#[]⟩
  go_enter Tryd.func5, Tryd.ntmps5
  go_wp2_with fail
  refine (show_is 2 m 0 ⟨#[]⟩ Tm m0_.out m1_.out (by decide) hTm_.out _ HE0.out).mono ?_
  rintro e w1 ⟨rfl, hbn⟩
  have HE1 := Lib.hid (HE0.out.below hbn)
  have T51 := Lib.hid (T50.out.below hbn)
  have T61 := Lib.hid (T60.out.below hbn)
  have B1 := Lib.hid (B0.out.trans (hbn.mono Z0))
  have Z1 : w.heap.size ≤ w1.heap.size := Nat.le_trans Z0 hbn.size
  clear hbn HE0 B0 Z0 T50 T60
  go_wp2_with fail
  refine (parse_some Tm hms_.out 2 m 0 ⟨#[]⟩ hp_.out _ HE1.out).mono ?_
  rintro e w2 ⟨rfl, hbn⟩
  have HE2 := Lib.hid (HE1.out.below hbn)
  have T52 := Lib.hid (T51.out.below hbn)
  have T62 := Lib.hid (T61.out.below hbn)
  have B2 := Lib.hid (B1.out.trans (hbn.mono Z1))
  have Z2 : w.heap.size ≤ w2.heap.size := Nat.le_trans Z1 hbn.size
  clear hbn HE1 B1 Z1 T51 T61
  have HE2a := Lib.hid (HE2.out.below ((Below.refl w2.heap.size w2).alloc (Nat.le_refl _) (.cells #[.int .i64 2, .int .i64 m, .int .u64 0, .string ⟨#[]⟩] 24)))
  have T52a := Lib.hid (T52.out.old (.cells #[.int .i64 2, .int .i64 m, .int .u64 0, .string ⟨#[]⟩] 24))
  have T62a := Lib.hid (T62.out.old (.cells #[.int .i64 2, .int .i64 m, .int .u64 0, .string ⟨#[]⟩] 24))
  have T72a := Lib.hid (Rd.Box.new w2 2 m 0 ⟨#[]⟩)
  have B2a := Lib.hid (B2.out.alloc Z2 (.cells #[.int .i64 2, .int .i64 m, .int .u64 0, .string ⟨#[]⟩] 24))
  have Z2a : w.heap.size ≤ (w2.alloc (.cells #[.int .i64 2, .int .i64 m, .int .u64 0, .string ⟨#[]⟩] 24)).heap.size := by simp; omega
  clear HE2 B2 Z2 T52 T62
  have qT50 := T52a.out.c0
  have qT51 := T52a.out.c1
  have qT52 := T52a.out.c2
  have qT53 := T52a.out.c3
  have qT60 := T62a.out.c0
  have qT61 := T62a.out.c1
  have qT62 := T62a.out.c2
  have qT63 := T62a.out.c3
  go_wp2_with fail
  refine (cmp_ints m n _).mono ?_
  rw [hcv_.out]
  rintro e w3 ⟨rfl, hbn⟩
  clear qT50 qT51 qT52 qT53 qT60 qT61 qT62 qT63
  have HE3 := Lib.hid (HE2a.out.below hbn)
  have T53 := Lib.hid (T52a.out.below hbn)
  have T63 := Lib.hid (T62a.out.below hbn)
  have T73 := Lib.hid (T72a.out.below hbn)
  have B3 := Lib.hid (B2a.out.trans (hbn.mono Z2a))
  have Z3 : w.heap.size ≤ w3.heap.size := Nat.le_trans Z2a hbn.size
  clear hbn HE2a B2a Z2a T52a T62a T72a
  go_wp2_with fail
  have SS : (fun w' => Val.Env w' ∧ Below w.heap.size w w' ∧ w.heap.size ≤ w'.heap.size ∧ w'.cell? ⟨w.heap.size, 0, none⟩ = some (.int .i64 2) ∧ w'.cell? ⟨w.heap.size, 1, none⟩ = some (.int .i64 m) ∧ w'.cell? ⟨w.heap.size, 2, none⟩ = some (.int .u64 0) ∧ w'.cell? ⟨w.heap.size, 3, none⟩ = some (.string ⟨#[]⟩) ∧ w'.cell? ⟨(w.heap.size + 1), 0, none⟩ = some (.int .i64 2) ∧ w'.cell? ⟨(w.heap.size + 1), 1, none⟩ = some (.int .i64 n) ∧ w'.cell? ⟨(w.heap.size + 1), 2, none⟩ = some (.int .u64 0) ∧ w'.cell? ⟨(w.heap.size + 1), 3, none⟩ = some (.string ⟨#[]⟩) ∧ w'.cell? ⟨w2.heap.size, 0, none⟩ = some (.int .i64 2) ∧ w'.cell? ⟨w2.heap.size, 1, none⟩ = some (.int .i64 m) ∧ w'.cell? ⟨w2.heap.size, 2, none⟩ = some (.int .u64 0) ∧ w'.cell? ⟨w2.heap.size, 3, none⟩ = some (.string ⟨#[]⟩)) w3 := ⟨HE3.out, B3.out, Z3, T53.out.c0, T53.out.c1, T53.out.c2, T53.out.c3, T63.out.c0, T63.out.c1, T63.out.c2, T63.out.c3, T73.out.c0, T73.out.c1, T73.out.c2, T73.out.c3⟩
  clear HE3 B3 Z3 T53 T63 T73
  generalize w2.heap.size = b7 at SS ⊢
  have SD : (fun w' => Val.Env w' ∧ Below w.heap.size w w' ∧ w.heap.size ≤ w'.heap.size ∧ w'.cell? ⟨w.heap.size, 0, none⟩ = some (.int .i64 2) ∧ w'.cell? ⟨w.heap.size, 1, none⟩ = some (.int .i64 m) ∧ w'.cell? ⟨w.heap.size, 2, none⟩ = some (.int .u64 0) ∧ w'.cell? ⟨w.heap.size, 3, none⟩ = some (.string ⟨#[]⟩) ∧ w'.cell? ⟨(w.heap.size + 1), 0, none⟩ = some (.int .i64 2) ∧ w'.cell? ⟨(w.heap.size + 1), 1, none⟩ = some (.int .i64 n) ∧ w'.cell? ⟨(w.heap.size + 1), 2, none⟩ = some (.int .u64 0) ∧ w'.cell? ⟨(w.heap.size + 1), 3, none⟩ = some (.string ⟨#[]⟩) ∧ w'.cell? ⟨b7, 0, none⟩ = some (.int .i64 2) ∧ w'.cell? ⟨b7, 1, none⟩ = some (.int .i64 m) ∧ w'.cell? ⟨b7, 2, none⟩ = some (.int .u64 0) ∧ w'.cell? ⟨b7, 3, none⟩ = some (.string ⟨#[]⟩)) w3.drew := ⟨SS.1.below (Below.refl _ w3).drew, SS.2.1.drew, SS.2.2⟩
  refine wp_region_held_drew (S := fun w' => Val.Env w' ∧ Below w.heap.size w w' ∧ w.heap.size ≤ w'.heap.size ∧ w'.cell? ⟨w.heap.size, 0, none⟩ = some (.int .i64 2) ∧ w'.cell? ⟨w.heap.size, 1, none⟩ = some (.int .i64 m) ∧ w'.cell? ⟨w.heap.size, 2, none⟩ = some (.int .u64 0) ∧ w'.cell? ⟨w.heap.size, 3, none⟩ = some (.string ⟨#[]⟩) ∧ w'.cell? ⟨(w.heap.size + 1), 0, none⟩ = some (.int .i64 2) ∧ w'.cell? ⟨(w.heap.size + 1), 1, none⟩ = some (.int .i64 n) ∧ w'.cell? ⟨(w.heap.size + 1), 2, none⟩ = some (.int .u64 0) ∧ w'.cell? ⟨(w.heap.size + 1), 3, none⟩ = some (.string ⟨#[]⟩) ∧ w'.cell? ⟨b7, 0, none⟩ = some (.int .i64 2) ∧ w'.cell? ⟨b7, 1, none⟩ = some (.int .i64 m) ∧ w'.cell? ⟨b7, 2, none⟩ = some (.int .u64 0) ∧ w'.cell? ⟨b7, 3, none⟩ = some (.string ⟨#[]⟩)) (by kernel_rfl) ?_ (fun hHeld => ?_)
  · exact SD
  refine Man.take1 (i := 0) (v := ?_) rfl (by kernel_rfl) (by kernel_rfl) (by kernel_rfl) (fun _ _ _ h => h) (by rfl) ?_ (by assumption) ?_
  rotate_left
  · (intro u hSu; (try dsimp only at hSu); go_simp; (try with_reducible rfl))
  (try simp only [Act.put, List.setIfInBounds_toArray, List.set_cons_zero, List.set_cons_succ])
  refine Man.take1 (i := 1) (v := ?_) rfl (by kernel_rfl) (by kernel_rfl) (by kernel_rfl) (fun _ _ _ h => h) (by rfl) ?_ (by assumption) ?_
  rotate_left
  · (intro u hSu; (try dsimp only at hSu); go_simp; (try with_reducible rfl))
  (try simp only [Act.put, List.setIfInBounds_toArray, List.set_cons_zero, List.set_cons_succ])
  refine Man.take1 (i := 2) (v := ?_) rfl (by kernel_rfl) (by kernel_rfl) (by kernel_rfl) (fun _ _ _ h => h) (by rfl) ?_ (by assumption) ?_
  rotate_left
  · (intro u hSu; (try dsimp only at hSu); go_simp; (try with_reducible rfl))
  (try simp only [Act.put, List.setIfInBounds_toArray, List.set_cons_zero, List.set_cons_succ])
  refine Man.take0 (i := 3) rfl (by kernel_rfl) (by kernel_rfl) (by kernel_rfl) (fun _ _ _ h => h) (by rfl) (by assumption) ?_
  (try simp only [Act.put, List.setIfInBounds_toArray, List.set_cons_zero, List.set_cons_succ])
  refine Man.take0 (i := 4) rfl (by kernel_rfl) (by kernel_rfl) (by kernel_rfl) (fun _ _ _ h => h) (by rfl) (by assumption) ?_
  (try simp only [Act.put, List.setIfInBounds_toArray, List.set_cons_zero, List.set_cons_succ])
  refine Man.take0 (i := 5) rfl (by kernel_rfl) (by kernel_rfl) (by kernel_rfl) (fun _ _ _ h => h) (by rfl) (by assumption) ?_
  (try simp only [Act.put, List.setIfInBounds_toArray, List.set_cons_zero, List.set_cons_succ])
  refine Man.take1 (i := 6) (v := ?_) rfl (by kernel_rfl) (by kernel_rfl) (by kernel_rfl) (fun _ _ _ h => h) (by rfl) ?_ (by assumption) ?_
  rotate_left
  · (intro u hSu; (try dsimp only at hSu); go_simp; (try with_reducible rfl))
  (try simp only [Act.put, List.setIfInBounds_toArray, List.set_cons_zero, List.set_cons_succ])
  refine Man.take1 (i := 7) (v := ?_) rfl (by kernel_rfl) (by kernel_rfl) (by kernel_rfl) (fun _ _ _ h => h) (by rfl) ?_ (by assumption) ?_
  rotate_left
  · (intro u hSu; (try dsimp only at hSu); go_simp; (try with_reducible rfl))
  (try simp only [Act.put, List.setIfInBounds_toArray, List.set_cons_zero, List.set_cons_succ])
  refine Man.take0 (i := 8) rfl (by kernel_rfl) (by kernel_rfl) (by kernel_rfl) (fun _ _ _ h => h) (by rfl) (by assumption) ?_
  (try simp only [Act.put, List.setIfInBounds_toArray, List.set_cons_zero, List.set_cons_succ])
  refine Man.take0 (i := 9) rfl (by kernel_rfl) (by kernel_rfl) (by kernel_rfl) (fun _ _ _ h => h) (by rfl) (by assumption) ?_
  (try simp only [Act.put, List.setIfInBounds_toArray, List.set_cons_zero, List.set_cons_succ])
  refine Man.take0 (i := 10) rfl (by kernel_rfl) (by kernel_rfl) (by kernel_rfl) (fun _ _ _ h => h) (by rfl) (by assumption) ?_
  (try simp only [Act.put, List.setIfInBounds_toArray, List.set_cons_zero, List.set_cons_succ])
  refine Man.take0 (i := 11) rfl (by kernel_rfl) (by kernel_rfl) (by kernel_rfl) (fun _ _ _ h => h) (by rfl) (by assumption) ?_
  (try simp only [Act.put, List.setIfInBounds_toArray, List.set_cons_zero, List.set_cons_succ])
  refine Man.take0 (i := 12) rfl (by kernel_rfl) (by kernel_rfl) (by kernel_rfl) (fun _ _ _ h => h) (by rfl) (by assumption) ?_
  (try simp only [Act.put, List.setIfInBounds_toArray, List.set_cons_zero, List.set_cons_succ])
  refine Man.take0 (i := 13) rfl (by kernel_rfl) (by kernel_rfl) (by kernel_rfl) (fun _ _ _ h => h) (by rfl) (by assumption) ?_
  (try simp only [Act.put, List.setIfInBounds_toArray, List.set_cons_zero, List.set_cons_succ])
  refine Man.take0 (i := 14) rfl (by kernel_rfl) (by kernel_rfl) (by kernel_rfl) (fun _ _ _ h => h) (by rfl) (by assumption) ?_
  (try simp only [Act.put, List.setIfInBounds_toArray, List.set_cons_zero, List.set_cons_succ])
  refine Man.take1 (i := 15) (v := ?_) rfl (by kernel_rfl) (by kernel_rfl) (by kernel_rfl) (fun _ _ _ h => h) (by rfl) ?_ (by assumption) ?_
  rotate_left
  · (intro u hSu; (try dsimp only at hSu); go_simp; (try with_reducible rfl))
  (try simp only [Act.put, List.setIfInBounds_toArray, List.set_cons_zero, List.set_cons_succ])
  refine Man.take1 (i := 16) (v := ?_) rfl (by kernel_rfl) (by kernel_rfl) (by kernel_rfl) (fun _ _ _ h => h) (by rfl) ?_ (by assumption) ?_
  rotate_left
  · (intro u hSu; (try dsimp only at hSu); go_simp; (try with_reducible rfl))
  (try simp only [Act.put, List.setIfInBounds_toArray, List.set_cons_zero, List.set_cons_succ])
  refine Man.take1 (i := 17) (v := ?_) rfl (by kernel_rfl) (by kernel_rfl) (by kernel_rfl) (fun _ _ _ h => h) (by rfl) ?_ (by assumption) ?_
  rotate_left
  · (intro u hSu; (try dsimp only at hSu); go_simp; (try with_reducible rfl))
  (try simp only [Act.put, List.setIfInBounds_toArray, List.set_cons_zero, List.set_cons_succ])
  refine Man.take1 (i := 18) (v := ?_) rfl (by kernel_rfl) (by kernel_rfl) (by kernel_rfl) (fun _ _ _ h => h) (by rfl) ?_ (by assumption) ?_
  rotate_left
  · (intro u hSu; (try dsimp only at hSu); go_simp; (try with_reducible rfl))
  (try simp only [Act.put, List.setIfInBounds_toArray, List.set_cons_zero, List.set_cons_succ])
  refine Man.take1 (i := 19) (v := ?_) rfl (by kernel_rfl) (by kernel_rfl) (by kernel_rfl) (fun _ _ _ h => h) (by rfl) ?_ (by assumption) ?_
  rotate_left
  · (intro u hSu; (try dsimp only at hSu); go_simp; (try with_reducible rfl))
  (try simp only [Act.put, List.setIfInBounds_toArray, List.set_cons_zero, List.set_cons_succ])
  refine Man.take1 (i := 20) (v := ?_) rfl (by kernel_rfl) (by kernel_rfl) (by kernel_rfl) (fun _ _ _ h => h) (by rfl) ?_ (by assumption) ?_
  rotate_left
  · (intro u hSu; (try dsimp only at hSu); go_simp; (try with_reducible rfl))
  (try simp only [Act.put, List.setIfInBounds_toArray, List.set_cons_zero, List.set_cons_succ])
  refine Man.take1 (i := 21) (v := ?_) rfl (by kernel_rfl) (by kernel_rfl) (by kernel_rfl) (fun _ _ _ h => h) (by rfl) ?_ (by assumption) ?_
  rotate_left
  · (intro u hSu; (try dsimp only at hSu); go_simp; (try with_reducible rfl))
  (try simp only [Act.put, List.setIfInBounds_toArray, List.set_cons_zero, List.set_cons_succ])
  refine Man.take1 (i := 22) (v := ?_) rfl (by kernel_rfl) (by kernel_rfl) (by kernel_rfl) (fun _ _ _ h => h) (by rfl) ?_ (by assumption) ?_
  rotate_left
  · (intro u hSu; (try dsimp only at hSu); go_simp; (try with_reducible rfl))
  (try simp only [Act.put, List.setIfInBounds_toArray, List.set_cons_zero, List.set_cons_succ])
  refine Man.take1 (i := 23) (v := ?_) rfl (by kernel_rfl) (by kernel_rfl) (by kernel_rfl) (fun _ _ _ h => h) (by rfl) ?_ (by assumption) ?_
  rotate_left
  · (intro u hSu; (try dsimp only at hSu); go_simp; (try with_reducible rfl))
  (try simp only [Act.put, List.setIfInBounds_toArray, List.set_cons_zero, List.set_cons_succ])
  refine Man.take1 (i := 24) (v := ?_) rfl (by kernel_rfl) (by kernel_rfl) (by kernel_rfl) (fun _ _ _ h => h) (by rfl) ?_ (by assumption) ?_
  rotate_left
  · (intro u hSu; (try dsimp only at hSu); go_simp; (try with_reducible rfl))
  (try simp only [Act.put, List.setIfInBounds_toArray, List.set_cons_zero, List.set_cons_succ])
  refine Man.take0 (i := 25) rfl (by kernel_rfl) (by kernel_rfl) (by kernel_rfl) (fun _ _ _ h => h) (by rfl) (by assumption) ?_
  (try simp only [Act.put, List.setIfInBounds_toArray, List.set_cons_zero, List.set_cons_succ])
  refine Man.take0 (i := 26) rfl (by kernel_rfl) (by kernel_rfl) (by kernel_rfl) (fun _ _ _ h => h) (by rfl) (by assumption) ?_
  (try simp only [Act.put, List.setIfInBounds_toArray, List.set_cons_zero, List.set_cons_succ])
  refine Man.take0 (i := 27) rfl (by kernel_rfl) (by kernel_rfl) (by kernel_rfl) (fun _ _ _ h => h) (by rfl) (by assumption) ?_
  (try simp only [Act.put, List.setIfInBounds_toArray, List.set_cons_zero, List.set_cons_succ])
  refine Man.take0 (i := 28) rfl (by kernel_rfl) (by kernel_rfl) (by kernel_rfl) (fun _ _ _ h => h) (by rfl) (by assumption) ?_
  (try simp only [Act.put, List.setIfInBounds_toArray, List.set_cons_zero, List.set_cons_succ])
  refine Man.take0 (i := 29) rfl (by kernel_rfl) (by kernel_rfl) (by kernel_rfl) (fun _ _ _ h => h) (by rfl) (by assumption) ?_
  (try simp only [Act.put, List.setIfInBounds_toArray, List.set_cons_zero, List.set_cons_succ])
  refine Man.take0 (i := 30) rfl (by kernel_rfl) (by kernel_rfl) (by kernel_rfl) (fun _ _ _ h => h) (by rfl) (by assumption) ?_
  (try simp only [Act.put, List.setIfInBounds_toArray, List.set_cons_zero, List.set_cons_succ])
  refine Man.take0 (i := 31) rfl (by kernel_rfl) (by kernel_rfl) (by kernel_rfl) (fun _ _ _ h => h) (by rfl) (by assumption) ?_
  (try simp only [Act.put, List.setIfInBounds_toArray, List.set_cons_zero, List.set_cons_succ])
  refine Man.take1 (i := 32) (v := ?_) rfl (by kernel_rfl) (by kernel_rfl) (by kernel_rfl) (fun _ _ _ h => h) (by rfl) ?_ (by assumption) ?_
  rotate_left
  · (intro u hSu; (try dsimp only at hSu); go_simp; (try with_reducible rfl))
  (try simp only [Act.put, List.setIfInBounds_toArray, List.set_cons_zero, List.set_cons_succ])
  refine Man.take1 (i := 33) (v := ?_) rfl (by kernel_rfl) (by kernel_rfl) (by kernel_rfl) (fun _ _ _ h => h) (by rfl) ?_ (by assumption) ?_
  rotate_left
  · (intro u hSu; (try dsimp only at hSu); go_simp; (try with_reducible rfl))
  (try simp only [Act.put, List.setIfInBounds_toArray, List.set_cons_zero, List.set_cons_succ])
  refine wpAnyH_done (by kernel_rfl) ?_ _
  obtain ⟨hqe, hqb, hqz, a0, a1, a2, a3, b0, b1, b2, b3, e0, e1, e2, e3⟩ := hHeld
  have QE := Lib.hid hqe
  have QB := Lib.hid hqb
  clear hqe hqb SS SD
  go_wp2_with fail
  refine (Rd.known_any _ QE.out).mono ?_
  rintro e w9 ⟨rfl, hbn⟩
  have B9 := Lib.hid (QB.out.trans (hbn.mono hqz))
  clear hbn
  go_wp2_with fail
  go_ret
  exact ⟨rfl, B9.out⟩
theorem law_any (m n : Int) (w : World) (he : Val.Env w) (m0 : -9223372036854775808 ≤ m) (m1 : m ≤ 9223372036854775807) (n0 : -9223372036854775808 ≤ n) (n1 : n ≤ 9223372036854775807) : Calls Tryd.prog 5 #[.int .i64 m, .int .i64 n] w fun e w' => e = .returned (.bool true) ∧ Below w.heap.size w w' := by
  have tx : ∀ k : Int, Val.showL 2 k 0 ⟨#[]⟩ = Lib.itoa k := fun k => Rd.text_of (v := ⟨2, k, 0, []⟩) (Rd.right2 k)
  have hp : Rd.parse (⟨(Val.showL 2 m 0 ⟨#[]⟩).toArray⟩ : ByteArray).data.toList = some ⟨2, m, 0, []⟩ := Rd.parse_text (v := ⟨2, m, 0, []⟩) (Rd.right2 m) m0 m1 (by show (0 : Nat) < 18446744073709551616; decide)
  have sz : ∀ k : Int, (⟨(Val.showL 2 k 0 ⟨#[]⟩).toArray⟩ : ByteArray).size = (Lib.itoa k).length := fun k => by
    show (Val.showL 2 k 0 ⟨#[]⟩).toArray.size = _
    rw [List.size_toArray, tx]
  have hms : (⟨(Val.showL 2 m 0 ⟨#[]⟩).toArray⟩ : ByteArray).size ≤ 35184372088832 := by
    rw [sz]
    have := Lib.itoa_length_le m m0 m1
    omega
  have lt : m < n → Val.cmpI m n = -1 := fun h => by unfold Val.cmpI; rw [if_pos h]
  have gt : n < m → Val.cmpI m n = 1 := fun h => by unfold Val.cmpI; rw [if_neg (by omega), if_pos h]
  have eq : m = n → Val.cmpI m n = 0 := fun h => by unfold Val.cmpI; rw [if_neg (by omega), if_neg (by omega)]
  by_cases hm : 0 ≤ m
  · have up : m ≤ n → ¬ ((⟨(Val.showL 2 n 0 ⟨#[]⟩).toArray⟩ : ByteArray).size < (⟨(Val.showL 2 m 0 ⟨#[]⟩).toArray⟩ : ByteArray).size) := fun h => by
      rw [sz, sz]
      have := itoa_up m n hm h
      omega
    rcases Int.lt_trichotomy m n with h | h | h
    · exact in_up_lt m n w he m0 m1 n0 n1 ⟨(Val.showL 2 m 0 ⟨#[]⟩).toArray⟩ ⟨(Val.showL 2 n 0 ⟨#[]⟩).toArray⟩ rfl rfl hms hp _ (lt h) (decide_eq_true hm) (decide_eq_true (by omega)) (decide_eq_false (by omega)) (decide_eq_false (up (by omega))) (decide_eq_true h) (decide_eq_false (by omega)) rfl
    · exact in_up_eq m n w he m0 m1 n0 n1 ⟨(Val.showL 2 m 0 ⟨#[]⟩).toArray⟩ ⟨(Val.showL 2 n 0 ⟨#[]⟩).toArray⟩ rfl rfl hms hp _ (eq h) (decide_eq_true hm) (decide_eq_true (by omega)) (decide_eq_false (by omega)) (decide_eq_false (up (by omega))) (decide_eq_false (by omega)) (decide_eq_false (by omega)) rfl
    · exact in_lo m n w he m0 m1 n0 n1 ⟨(Val.showL 2 m 0 ⟨#[]⟩).toArray⟩ ⟨(Val.showL 2 n 0 ⟨#[]⟩).toArray⟩ rfl rfl hms hp _ (gt h) (decide_eq_true hm) (decide_eq_false (by omega)) (decide_eq_false (by omega)) (decide_eq_false (by omega)) (decide_eq_true h) rfl
  · have dn : n ≤ m → ¬ ((⟨(Val.showL 2 n 0 ⟨#[]⟩).toArray⟩ : ByteArray).size < (⟨(Val.showL 2 m 0 ⟨#[]⟩).toArray⟩ : ByteArray).size) := fun h => by
      rw [sz, sz]
      have := itoa_down m n (by omega) h
      omega
    rcases Int.lt_trichotomy m n with h | h | h
    · exact in_hi m n w he m0 m1 n0 n1 ⟨(Val.showL 2 m 0 ⟨#[]⟩).toArray⟩ ⟨(Val.showL 2 n 0 ⟨#[]⟩).toArray⟩ rfl rfl hms hp _ (lt h) (decide_eq_false hm) (decide_eq_true (by omega)) (decide_eq_false (by omega)) (decide_eq_true h) (decide_eq_false (by omega)) rfl
    · exact in_dn_eq m n w he m0 m1 n0 n1 ⟨(Val.showL 2 m 0 ⟨#[]⟩).toArray⟩ ⟨(Val.showL 2 n 0 ⟨#[]⟩).toArray⟩ rfl rfl hms hp _ (eq h) (decide_eq_false hm) (decide_eq_true (by omega)) (decide_eq_true (by omega)) (decide_eq_false (dn (by omega))) (decide_eq_false (by omega)) (decide_eq_false (by omega)) rfl
    · exact in_dn_gt m n w he m0 m1 n0 n1 ⟨(Val.showL 2 m 0 ⟨#[]⟩).toArray⟩ ⟨(Val.showL 2 n 0 ⟨#[]⟩).toArray⟩ rfl rfl hms hp _ (gt h) (decide_eq_false hm) (decide_eq_true (by omega)) (decide_eq_true (by omega)) (decide_eq_false (dn (by omega))) (decide_eq_false (by omega)) (decide_eq_true h) rfl
set_option maxRecDepth 100000 in
theorem contract (H : Type) (enc : TypeId × Value → H) (W : World) (base : Nat) (args : Array Value) (ds gs : List (DataW H)) (before : List MemPlace)
    (hval : ∀ (j : Nat) t v, Tryd.f5.params[j]? = some t → args[j]? = some v → Value.okWide Tryd.prog W .any base t v)
    (hW : DataW.Whole enc Tryd.prog Tryd.f5.params.toList Rows.valueIntsSpec.vars false W args.toList ds gs before) (hL : laidMet Tryd.prog Rows.valueIntsRow.laid W) :
    Calls Tryd.prog 5 args W fun e W' => ∃ v, e = .returned v ∧ Rows.valueIntsSpec.post enc Tryd.prog Tryd.f5 false true false false W args v W' := by
  have hW' := hW
  obtain ⟨p, q, hA0, hV, rfl, hfz, hnd⟩ := hW
  have hA : DataW.TrodAll enc Tryd.prog W 0 (fun _ => true) true Tryd.f5.params.toList args.toList ds p := hA0
  rw [Tryd.params5] at hA hval
  obtain ⟨v0, vs0, d0, ds0, p0, q0, hargs, rfl, rfl, h0, r0⟩ := trodAll_cons hA
  obtain ⟨v1, vs1, d1, ds1, p1, q1, rfl, rfl, rfl, h1, r1⟩ := trodAll_cons r0
  obtain ⟨rfl, rfl, rfl⟩ := trodAll_nil r1
  obtain rfl : args = #[v0, v1] := by cases args; simp_all
  obtain ⟨rfl, rfl⟩ := trodVars_none hV
  obtain ⟨x, rfl, rfl, rfl, wx⟩ := open_int Tryd.underlying3 (hval 0 3 v0 rfl rfl) h0
  obtain ⟨y, rfl, rfl, rfl, wy⟩ := open_int Tryd.underlying3 (hval 1 3 v1 rfl rfl) h1
  clear hA0
  simp only [List.append_nil] at hW'
  have he := Fr.env_of hL
  have hx := bounds_i64 wx
  have hy := bounds_i64 wy
  have walk := law_any x y W he hx.1 hx.2 hy.1 hy.2
  clear hx hy
  refine walk.mono fun e W' ⟨he, hg⟩ => ?_
  subst he
  exact ⟨_, rfl, Fr.post_made (pa := []) (pv := []) hW' (fun _ _ _ => trodAll_cons_mk (shut_bool Tryd.underlying4 _) trodAll_mk0) (fun _ _ => (trodAll_cons_mk (shut_int Tryd.underlying3 wx) (trodAll_cons_mk (shut_int Tryd.underlying3 wy) trodAll_mk0))) (fun _ _ => rfl) rfl hg (ok_one (by kernel_rfl) rfl (okWide_bool_mk Tryd.underlying4 _))⟩
theorem reads (os : Os) {H : Type} (enc : TypeId × Value → H) : ∃ places, DataW.whole enc Tryd.prog ((World.doorLaid Tryd.prog 600 os).forCall (fun _ _ => 0) ⟨#[], #[.int .i64 0, .int .i64 0], []⟩).memory Tryd.f5.params.toList Rows.valueIntsSpec.vars false (#[.int .i64 0, .int .i64 0] : Array Value).toList 8 = some ([.lit (.int .i64 0), .lit (.int .i64 0)], [], places) :=
  ⟨[], by kernel_rfl⟩
set_option maxRecDepth 100000 in
theorem lifted (os : Os) (started : os.Started) (H : Type) (enc : TypeId × Value → H) (F : Stop.Interp) :
    ReturnsInHanded {} Tryd.checked os 5 .any ((OpenSpec.ofChange Rows.valueIntsSpec).preRow enc Tryd.prog Tryd.f5 Rows.valueIntsRow.domain false Rows.valueIntsRow.laid) (((OpenSpec.ofChange Rows.valueIntsSpec).at F).post enc Tryd.prog Tryd.f5 false true false false) := by
  obtain ⟨places, hx⟩ := reads os enc
  refine returnsInHanded_of_row (C := Tryd.checked) (s := OpenSpec.ofChange Rows.valueIntsSpec) Fr.own started (by kernel_rfl) Tryd.func5
    (witness_row_atRef (enc := enc) (C := Tryd.checked) false (World.doorLaid Tryd.prog 600 os) #[.int .i64 0, .int .i64 0] rfl (by kernel_rfl) (by kernel_rfl) (by kernel_rfl)
      (OpenSpec.preRow_of_cond 8 hx (by kernel_rfl) (fun k hk => by cases hk) (by kernel_rfl) (Fr.door_met os _))) ?_
  intro W base args ds gs before hval hW _ _ _ hL _ _
  exact contract H enc W base args ds gs before hval hW hL
theorem said : Rows.ValueIntsSaid :=
  OpenClaim.holds_of_cond 5 Tryd.f5 rfl rfl rfl rfl rfl rfl rfl ⟨rfl, rfl, rfl, rfl, rfl⟩ rfl rfl rfl rfl rfl (by kernel_rfl) Tryd.func5 (by kernel_rfl)
    (of_decide_eq_true (by kernel_rfl)) (by unfold Func.isWrapper; first | (rw [if_pos (by decide +kernel)]; kernel_rfl) | (rw [if_neg (by decide +kernel)]; exact ⟨rfl, rfl⟩))
    (fun os started H enc _ F => by rw [OpenClaim.pre_eq_preRow]; exact lifted os started H enc F)
theorem plain (f : FuncId) (fn : Func) (hf : Tryd.pinned.checked.prog.funcNamed "memoir/memoirlaw01.ValueInts" = some f) (hfn : Tryd.pinned.checked.prog.funcs[f]? = some fn) :
    true = Tryd.pinned.checked.prog.looks [] ∧ ∀ (j : Nat) t, fn.params[j]? = some t → Tryd.pinned.checked.prog.wantsStandIn t = false := by
  obtain rfl : f = 5 := Option.some.inj ((show Tryd.prog.funcNamed "memoir/memoirlaw01.ValueInts" = some 5 by kernel_rfl).symm.trans hf) |>.symm
  obtain rfl : fn = Tryd.f5 := (Option.some.inj (Tryd.func5.symm.trans hfn)).symm
  refine ⟨by kernel_rfl, fun j t ht => ?_⟩
  rw [Tryd.params5] at ht
  have hm := Array.mem_of_getElem? ht
  simp only [List.mem_toArray, List.mem_cons, List.not_mem_nil, or_false] at hm
  rcases hm with rfl | rfl
  all_goals exact (show Tryd.prog.wantsStandIn 3 = false by kernel_rfl)
theorem card : Rows.ValueIntsCardSaid :=
  Claim7.holds_tied_plain_at .later [] _ _ _ _ said (fun _ h => by cases h) (by kernel_rfl) (fun _ h => by cases h) valueInts_row_tie rfl ⟨rfl, rfl⟩ (by kernel_rfl) rfl plain (by kernel_rfl)
end LaValueInts
end Go.Proofs.YtinnkdbojgoicaaDoor
