/- The law's own 'known': true in whatever world in which the listed variables read as the rows list them. -/
import Derived.Test.YtppdebhcaodcnaaDoorSpeb
import Derived.Deep.RegionHeld3
namespace Go.Proofs.YtppdebhcaodcnaaDoor
open Go.RowKit
namespace Rd
set_option maxHeartbeats 1000000 in
theorem copysign_any (w : World) : Calls Tryd.prog 29 #[.float .f64 0, .float .f64 13830554455654793216] w fun e w' => e = .returned (.float .f64 9223372036854775808) ∧ w = w' := by
  go_enter Tryd.func29, Tryd.ntmps29
  go_wp2
  go_ret
  have h : (bits BinOp.or IntKind.u64 (bits BinOp.andNot IntKind.u64 0 9223372036854775808) (bits BinOp.and IntKind.u64 13830554455654793216 9223372036854775808)).toNat = 9223372036854775808 := by decide
  refine ⟨?_, rfl⟩
  show Ending.returned (.float .f64 (bits BinOp.or IntKind.u64 (bits BinOp.andNot IntKind.u64 0 9223372036854775808) (bits BinOp.and IntKind.u64 13830554455654793216 9223372036854775808)).toNat) = _
  rw [h]
set_option maxHeartbeats 1000000 in
theorem nan_any (w : World) : Calls Tryd.prog 31 #[] w fun e w' => e = .returned (.float .f64 9221120237041090561) ∧ w = w' := by
  go_enter Tryd.func31, Tryd.ntmps31
  go_wp2
  go_ret
  exact ⟨rfl, rfl⟩
/-- four cells -/
def Box (w : World) (B : Nat) (k n : Int) (b : Int) (s : ByteArray) : Prop := w.heap[B]? = some (.cells #[.int .i64 k, .int .i64 n, .int .u64 b, .string s] 25 (0, 0))
theorem Box.new (w : World) (k n b : Int) (s : ByteArray) : Box (w.alloc (.cells #[.int .i64 k, .int .i64 n, .int .u64 b, .string s] 25)) w.heap.size k n b s := new_block w _ _
theorem Box.old {w : World} {B : Nat} {k n b : Int} {s : ByteArray} (h : Box w B k n b s) (o : Obj) : Box (w.alloc o) B k n b s := below_block ((Below.refl _ _).alloc (Nat.le_refl _) _) h
theorem Box.below {w w' : World} {B : Nat} {k n b : Int} {s : ByteArray} (h : Box w B k n b s) (hb : Below w.heap.size w w') : Box w' B k n b s := below_block hb h
theorem Box.c0 {w : World} {B : Nat} {k n b : Int} {s : ByteArray} (h : Box w B k n b s) : w.cell? ⟨B, 0, none⟩ = some (.int .i64 k) := by rw [Lib.cell_of_heap h]; rfl
theorem Box.c1 {w : World} {B : Nat} {k n b : Int} {s : ByteArray} (h : Box w B k n b s) : w.cell? ⟨B, 1, none⟩ = some (.int .i64 n) := by rw [Lib.cell_of_heap h]; rfl
theorem Box.c2 {w : World} {B : Nat} {k n b : Int} {s : ByteArray} (h : Box w B k n b s) : w.cell? ⟨B, 2, none⟩ = some (.int .u64 b) := by rw [Lib.cell_of_heap h]; rfl
theorem Box.c3 {w : World} {B : Nat} {k n b : Int} {s : ByteArray} (h : Box w B k n b s) : w.cell? ⟨B, 3, none⟩ = some (.string s) := by rw [Lib.cell_of_heap h]; rfl
theorem k_right3 : Val.rightB 3 0 9221120237041090560 ⟨#[]⟩ = true := right3 9221120237041090560 (by decide)
theorem k_right0 : Val.rightB 3 0 0 ⟨#[]⟩ = true := right3 0 (by decide)
theorem k_right5 : Val.rightB 5 0 0 ⟨#[97, 34, 98]⟩ = true := right5 [97, 34, 98] (by decide)
theorem k_right1 : Val.rightB 1 1 0 ⟨#[]⟩ = true := by
  unfold Val.rightB
  rw [if_neg (by decide), if_pos rfl, Bool.and_eq_true, eqV_iff]
  exact ⟨⟨rfl, rfl, rfl, rfl⟩, rfl⟩
theorem k_right15 : Val.rightB 3 0 4609434218613702656 ⟨#[]⟩ = true := right3 4609434218613702656 (by decide)
theorem k_right6 : Val.rightB 6 0 0 ⟨#[]⟩ = false := by
  unfold Val.rightB
  rw [if_neg (by decide), if_neg (by decide), if_neg (by decide), if_neg (by decide), if_neg (by decide)]
theorem k_eq5 : Val.eqV 5 0 0 ⟨#[97, 34, 98]⟩ 5 0 0 ⟨#[97, 34, 98]⟩ = true := (eqV_iff _ _ _ _ _ _ _ _).2 ⟨rfl, rfl, rfl, rfl⟩
theorem k_eqn : Val.eqV 3 0 9221120237041090560 ⟨#[]⟩ 3 0 9221120237041090560 ⟨#[]⟩ = true := (eqV_iff _ _ _ _ _ _ _ _).2 ⟨rfl, rfl, rfl, rfl⟩
theorem k_eq0 : Val.eqV 3 0 0 ⟨#[]⟩ 3 0 0 ⟨#[]⟩ = true := (eqV_iff _ _ _ _ _ _ _ _).2 ⟨rfl, rfl, rfl, rfl⟩
theorem k_show (w : World) (he : Val.Env w) : Calls Tryd.prog 30 #[(.agg #[.int .i64 5, .int .i64 0, .int .u64 0, .string ⟨#[97, 34, 98]⟩])] w fun e w' => e = .returned (.string ⟨#[34, 97, 92, 34, 98, 34]⟩) ∧ Below w.heap.size w w' := by
  refine (Val.show_any 5 0 0 ⟨#[97, 34, 98]⟩ w he (by decide) (by decide) (by decide)).mono ?_
  rintro e w' ⟨rfl, hb⟩
  refine ⟨?_, hb⟩
  have t : Val.showL 5 0 0 ⟨#[97, 34, 98]⟩ = [34, 97, 92, 34, 98, 34] := by
    have h := text_of (v := ⟨5, 0, 0, [97, 34, 98]⟩) (right5 _ (by decide))
    refine Eq.trans h ?_
    show Txt.showText [97, 34, 98] = _
    decide
  rw [t]
theorem k_off (n c : Nat) (h : Flo.canon n = c) (w : World) : Calls Tryd.prog 28 #[.float .f64 n] w fun e w' => e = .returned (.agg #[.int .i64 3, .int .i64 0, .int .u64 c, .string ⟨#[]⟩]) ∧ Below w.heap.size w w' := by
  have := Val.offloat_any n w
  rw [h] at this
  exact this
theorem k_cmp (w : World) : Calls Tryd.prog 32 #[(.agg #[.int .i64 3, .int .i64 0, .int .u64 0, .string ⟨#[]⟩]), (.agg #[.int .i64 3, .int .i64 0, .int .u64 9221120237041090560, .string ⟨#[]⟩])] w fun e w' => e = .returned (.int .i64 (-1)) ∧ Below w.heap.size w w' := by
  refine (Val.compare_any 3 0 0 ⟨#[]⟩ 3 0 9221120237041090560 ⟨#[]⟩ w).mono ?_
  rintro e w' ⟨rfl, hb⟩
  refine ⟨?_, hb⟩
  have t : Val.cmpV 3 0 0 ⟨#[]⟩ 3 0 9221120237041090560 ⟨#[]⟩ = -1 := by
    unfold Val.cmpV
    rw [k_right0, k_right3]
    decide
  rw [t]
theorem k_same (w : World) : Calls Tryd.prog 33 #[(.agg #[.int .i64 5, .int .i64 0, .int .u64 0, .string ⟨#[97, 34, 98]⟩]), (.agg #[.int .i64 5, .int .i64 0, .int .u64 0, .string ⟨#[97, 34, 98]⟩])] w fun e w' => e = .returned (.bool true) ∧ Below w.heap.size w w' := by
  refine (Val.same_any 5 0 0 ⟨#[97, 34, 98]⟩ 5 0 0 ⟨#[97, 34, 98]⟩ w).mono ?_
  rintro e w' ⟨rfl, hb⟩
  refine ⟨?_, hb⟩
  have t : Val.sameB 5 0 0 ⟨#[97, 34, 98]⟩ 5 0 0 ⟨#[97, 34, 98]⟩ = true := by
    unfold Val.sameB
    rw [k_right5, Bool.and_true]
    exact k_eq5
  rw [t]
theorem k_rightN (w : World) : Calls Tryd.prog 34 #[(.agg #[.int .i64 3, .int .i64 0, .int .u64 9221120237041090560, .string ⟨#[]⟩])] w fun e w' => e = .returned (.bool true) ∧ Below w.heap.size w w' := by
  have h := Val.right_any 3 0 9221120237041090560 ⟨#[]⟩ w
  rw [k_right3] at h; exact h
theorem k_right6c (w : World) : Calls Tryd.prog 34 #[(.agg #[.int .i64 6, .int .i64 0, .int .u64 0, .string ⟨#[]⟩])] w fun e w' => e = .returned (.bool false) ∧ Below w.heap.size w w' := by
  have h := Val.right_any 6 0 0 ⟨#[]⟩ w
  rw [k_right6] at h; exact h
theorem k_truth1 (w : World) : Calls Tryd.prog 35 #[(.agg #[.int .i64 1, .int .i64 1, .int .u64 0, .string ⟨#[]⟩])] w fun e w' => e = .returned (.int .i64 1) ∧ Below w.heap.size w w' := by
  have h := Val.truth_any 1 1 0 ⟨#[]⟩ w
  have t : Val.truthI 1 1 0 ⟨#[]⟩ = 1 := by unfold Val.truthI; rw [if_pos ⟨rfl, k_right1⟩]
  rw [t] at h; exact h
theorem k_truth5 (w : World) : Calls Tryd.prog 35 #[(.agg #[.int .i64 5, .int .i64 0, .int .u64 0, .string ⟨#[97, 34, 98]⟩])] w fun e w' => e = .returned (.int .i64 (-1)) ∧ Below w.heap.size w w' := by
  have h := Val.truth_any 5 0 0 ⟨#[97, 34, 98]⟩ w
  have t : Val.truthI 5 0 0 ⟨#[97, 34, 98]⟩ = -1 := by unfold Val.truthI; rw [if_neg (fun x => absurd x.1 (by decide))]
  rw [t] at h; exact h
theorem k_asf (w : World) : Calls Tryd.prog 36 #[(.agg #[.int .i64 3, .int .i64 0, .int .u64 4609434218613702656, .string ⟨#[]⟩])] w fun e w' => e = .returned (.float .f64 4609434218613702656) ∧ Below w.heap.size w w' := by
  have h := Val.asfloat_any 3 0 4609434218613702656 ⟨#[]⟩ w
  rw [Val.asF_right k_right15] at h; exact h
theorem k_flo : (FloatKind.f64.format.order 4609434218613702656 4609434218613702656 == some Ordering.eq) = true := by
  show (Ieee.double.order 4609434218613702656 4609434218613702656 == some Ordering.eq) = true
  rw [Flo.order_self]; decide
theorem k_step {w w1 w' : World} {b1 b2 b6 b8 : Nat} (h : Val.Env w1 ∧ Below w.heap.size w w1 ∧ w.heap.size ≤ w1.heap.size ∧ w1.cell? ⟨b1, 0, none⟩ = some (.int .i64 5) ∧ w1.cell? ⟨b1, 1, none⟩ = some (.int .i64 0) ∧ w1.cell? ⟨b1, 2, none⟩ = some (.int .u64 0) ∧ w1.cell? ⟨b1, 3, none⟩ = some (.string ⟨#[97, 34, 98]⟩) ∧ w1.cell? ⟨b2, 0, none⟩ = some (.int .i64 5) ∧ w1.cell? ⟨b2, 1, none⟩ = some (.int .i64 0) ∧ w1.cell? ⟨b2, 2, none⟩ = some (.int .u64 0) ∧ w1.cell? ⟨b2, 3, none⟩ = some (.string ⟨#[97, 34, 98]⟩) ∧ w1.cell? ⟨b6, 0, none⟩ = some (.int .i64 3) ∧ w1.cell? ⟨b6, 1, none⟩ = some (.int .i64 0) ∧ w1.cell? ⟨b6, 2, none⟩ = some (.int .u64 9221120237041090560) ∧ w1.cell? ⟨b6, 3, none⟩ = some (.string ⟨#[]⟩) ∧ w1.cell? ⟨b8, 0, none⟩ = some (.int .i64 3) ∧ w1.cell? ⟨b8, 1, none⟩ = some (.int .i64 0) ∧ w1.cell? ⟨b8, 2, none⟩ = some (.int .u64 0) ∧ w1.cell? ⟨b8, 3, none⟩ = some (.string ⟨#[]⟩)) (hb : Below w1.heap.size w1 w') : Val.Env w' ∧ Below w.heap.size w w' ∧ w.heap.size ≤ w'.heap.size ∧ w'.cell? ⟨b1, 0, none⟩ = some (.int .i64 5) ∧ w'.cell? ⟨b1, 1, none⟩ = some (.int .i64 0) ∧ w'.cell? ⟨b1, 2, none⟩ = some (.int .u64 0) ∧ w'.cell? ⟨b1, 3, none⟩ = some (.string ⟨#[97, 34, 98]⟩) ∧ w'.cell? ⟨b2, 0, none⟩ = some (.int .i64 5) ∧ w'.cell? ⟨b2, 1, none⟩ = some (.int .i64 0) ∧ w'.cell? ⟨b2, 2, none⟩ = some (.int .u64 0) ∧ w'.cell? ⟨b2, 3, none⟩ = some (.string ⟨#[97, 34, 98]⟩) ∧ w'.cell? ⟨b6, 0, none⟩ = some (.int .i64 3) ∧ w'.cell? ⟨b6, 1, none⟩ = some (.int .i64 0) ∧ w'.cell? ⟨b6, 2, none⟩ = some (.int .u64 9221120237041090560) ∧ w'.cell? ⟨b6, 3, none⟩ = some (.string ⟨#[]⟩) ∧ w'.cell? ⟨b8, 0, none⟩ = some (.int .i64 3) ∧ w'.cell? ⟨b8, 1, none⟩ = some (.int .i64 0) ∧ w'.cell? ⟨b8, 2, none⟩ = some (.int .u64 0) ∧ w'.cell? ⟨b8, 3, none⟩ = some (.string ⟨#[]⟩) := by
  obtain ⟨he, hB, hz, hcs⟩ := h
  refine ⟨he.below hb, hB.trans (hb.mono hz), Nat.le_trans hz hb.size, ?_⟩
  obtain ⟨c0, c1, c2, c3, c4, c5, c6, c7, c8, c9, c10, c11, c12, c13, c14, c15⟩ := hcs
  exact ⟨cell_later hb c0, cell_later hb c1, cell_later hb c2, cell_later hb c3, cell_later hb c4, cell_later hb c5, cell_later hb c6, cell_later hb c7, cell_later hb c8, cell_later hb c9, cell_later hb c10, cell_later hb c11, cell_later hb c12, cell_later hb c13, cell_later hb c14, cell_later hb c15⟩
set_option maxHeartbeats 8000000 in
set_option maxRecDepth 100000 in
theorem known_any (w : World) (he : Val.Env w) : Calls Tryd.prog 11 #[] w fun e w' => e = .returned (.bool true) ∧ Below w.heap.size w w' := by
  have HEw := Lib.hid he
  clear he
  have HEwa := Lib.hid (HEw.out.below ((Below.refl w.heap.size w).alloc (Nat.le_refl _) (.cells #[.int .i64 5, .int .i64 0, .int .u64 0, .string ⟨#[97, 34, 98]⟩] 25)))
  have T1wa := Lib.hid (Box.new w 5 0 0 ⟨#[97, 34, 98]⟩)
  go_enter Tryd.func11, Tryd.ntmps11
  go_wp2_with fail
  refine (parse_any _ (by decide) _ HEwa.out).mono ?_
  rw [known1]
  rintro e w1 ⟨rfl, hb⟩
  have HEw1 := Lib.hid (HEwa.out.below hb)
  have T1w1 := Lib.hid (T1wa.out.below hb)
  have Bw1 := Lib.hid (((Below.refl w.heap.size w).alloc (Nat.le_refl _) _).trans (hb.mono (by simp)))
  have Zw1 : w.heap.size < w1.heap.size := by have := hb.size; simp at this; omega
  clear hb T1wa HEwa HEw
  have HEw1a := Lib.hid (HEw1.out.below ((Below.refl w1.heap.size w1).alloc (Nat.le_refl _) (.cells #[.int .i64 5, .int .i64 0, .int .u64 0, .string ⟨#[97, 34, 98]⟩] 25)))
  have T1w1a := Lib.hid (T1w1.out.old (.cells #[.int .i64 5, .int .i64 0, .int .u64 0, .string ⟨#[97, 34, 98]⟩] 25))
  have T2w1a := Lib.hid (Box.new w1 5 0 0 ⟨#[97, 34, 98]⟩)
  go_wp2_with fail
  refine (parse_any _ (by decide) _ HEw1a.out).mono ?_
  rw [known2]
  rintro e w2 ⟨rfl, hb⟩
  have HEw2 := Lib.hid (HEw1a.out.below hb)
  have T1w2 := Lib.hid (T1w1a.out.below hb)
  have T2w2 := Lib.hid (T2w1a.out.below hb)
  have Bw2 := Lib.hid ((Bw1.out.alloc (by omega) _).trans (hb.mono (by simp; omega)))
  have Zw2 : w1.heap.size < w2.heap.size := by have := hb.size; simp at this; omega
  clear hb Bw1 HEw1 HEw1a T1w1 T1w1a T2w1a
  have HEw2a := Lib.hid (HEw2.out.below ((Below.refl w2.heap.size w2).alloc (Nat.le_refl _) (.cells #[.int .i64 0, .int .i64 0, .int .u64 0, .string ⟨#[]⟩] 25)))
  have T1w2a := Lib.hid (T1w2.out.old (.cells #[.int .i64 0, .int .i64 0, .int .u64 0, .string ⟨#[]⟩] 25))
  have T2w2a := Lib.hid (T2w2.out.old (.cells #[.int .i64 0, .int .i64 0, .int .u64 0, .string ⟨#[]⟩] 25))
  go_wp2_with fail
  refine (parse_any _ (by decide) _ HEw2a.out).mono ?_
  rw [known3]
  rintro e w3 ⟨rfl, hb⟩
  have HEw3 := Lib.hid (HEw2a.out.below hb)
  have T1w3 := Lib.hid (T1w2a.out.below hb)
  have T2w3 := Lib.hid (T2w2a.out.below hb)
  have Bw3 := Lib.hid ((Bw2.out.alloc (by omega) _).trans (hb.mono (by simp; omega)))
  have Zw3 : w2.heap.size < w3.heap.size := by have := hb.size; simp at this; omega
  clear hb Bw2 HEw2 HEw2a T1w2 T1w2a T2w2 T2w2a
  have HEw3a := Lib.hid (HEw3.out.below ((Below.refl w3.heap.size w3).alloc (Nat.le_refl _) (.cells #[.int .i64 3, .int .i64 0, .int .u64 9221120237041090560, .string ⟨#[]⟩] 25)))
  have T1w3a := Lib.hid (T1w3.out.old (.cells #[.int .i64 3, .int .i64 0, .int .u64 9221120237041090560, .string ⟨#[]⟩] 25))
  have T2w3a := Lib.hid (T2w3.out.old (.cells #[.int .i64 3, .int .i64 0, .int .u64 9221120237041090560, .string ⟨#[]⟩] 25))
  have T6w3a := Lib.hid (Box.new w3 3 0 9221120237041090560 ⟨#[]⟩)
  go_wp2_with fail
  refine (copysign_any _).mono ?_
  rintro e wc ⟨rfl, rfl⟩
  go_wp2_with fail
  refine (k_off 9223372036854775808 0 (by decide) _).mono ?_
  rintro e w4 ⟨rfl, hb⟩
  have HEw4 := Lib.hid (HEw3a.out.below hb)
  have T1w4 := Lib.hid (T1w3a.out.below hb)
  have T2w4 := Lib.hid (T2w3a.out.below hb)
  have T6w4 := Lib.hid (T6w3a.out.below hb)
  have Bw4 := Lib.hid ((Bw3.out.alloc (by omega) _).trans (hb.mono (by simp; omega)))
  have Zw4 : w3.heap.size < w4.heap.size := by have := hb.size; simp at this; omega
  clear hb Bw3 HEw3 HEw3a T1w3 T1w3a T2w3 T2w3a T6w3a
  have HEw4a := Lib.hid (HEw4.out.below ((Below.refl w4.heap.size w4).alloc (Nat.le_refl _) (.cells #[.int .i64 3, .int .i64 0, .int .u64 0, .string ⟨#[]⟩] 25)))
  have T1w4a := Lib.hid (T1w4.out.old (.cells #[.int .i64 3, .int .i64 0, .int .u64 0, .string ⟨#[]⟩] 25))
  have T2w4a := Lib.hid (T2w4.out.old (.cells #[.int .i64 3, .int .i64 0, .int .u64 0, .string ⟨#[]⟩] 25))
  have T6w4a := Lib.hid (T6w4.out.old (.cells #[.int .i64 3, .int .i64 0, .int .u64 0, .string ⟨#[]⟩] 25))
  have T8w4a := Lib.hid (Box.new w4 3 0 0 ⟨#[]⟩)
  have Bw4a := Lib.hid (Bw4.out.alloc (by omega) (.cells #[.int .i64 3, .int .i64 0, .int .u64 0, .string ⟨#[]⟩] 25))
  have Zw4a : w.heap.size ≤ (w4.alloc (.cells #[.int .i64 3, .int .i64 0, .int .u64 0, .string ⟨#[]⟩] 25)).heap.size := by simp; omega
  have g1 := k_eq5
  have g2 := k_eqn
  have g3 := k_eq0
  have g4 := k_flo
  go_wp2_with fail
  have SS : (fun w' => Val.Env w' ∧ Below w.heap.size w w' ∧ w.heap.size ≤ w'.heap.size ∧ w'.cell? ⟨w.heap.size, 0, none⟩ = some (.int .i64 5) ∧ w'.cell? ⟨w.heap.size, 1, none⟩ = some (.int .i64 0) ∧ w'.cell? ⟨w.heap.size, 2, none⟩ = some (.int .u64 0) ∧ w'.cell? ⟨w.heap.size, 3, none⟩ = some (.string ⟨#[97, 34, 98]⟩) ∧ w'.cell? ⟨w1.heap.size, 0, none⟩ = some (.int .i64 5) ∧ w'.cell? ⟨w1.heap.size, 1, none⟩ = some (.int .i64 0) ∧ w'.cell? ⟨w1.heap.size, 2, none⟩ = some (.int .u64 0) ∧ w'.cell? ⟨w1.heap.size, 3, none⟩ = some (.string ⟨#[97, 34, 98]⟩) ∧ w'.cell? ⟨w3.heap.size, 0, none⟩ = some (.int .i64 3) ∧ w'.cell? ⟨w3.heap.size, 1, none⟩ = some (.int .i64 0) ∧ w'.cell? ⟨w3.heap.size, 2, none⟩ = some (.int .u64 9221120237041090560) ∧ w'.cell? ⟨w3.heap.size, 3, none⟩ = some (.string ⟨#[]⟩) ∧ w'.cell? ⟨w4.heap.size, 0, none⟩ = some (.int .i64 3) ∧ w'.cell? ⟨w4.heap.size, 1, none⟩ = some (.int .i64 0) ∧ w'.cell? ⟨w4.heap.size, 2, none⟩ = some (.int .u64 0) ∧ w'.cell? ⟨w4.heap.size, 3, none⟩ = some (.string ⟨#[]⟩)) (w4.alloc (.cells #[.int .i64 3, .int .i64 0, .int .u64 0, .string ⟨#[]⟩] 25)) := ⟨HEw4a.out, Bw4a.out, Zw4a, T1w4a.out.c0, T1w4a.out.c1, T1w4a.out.c2, T1w4a.out.c3, T2w4a.out.c0, T2w4a.out.c1, T2w4a.out.c2, T2w4a.out.c3, T6w4a.out.c0, T6w4a.out.c1, T6w4a.out.c2, T6w4a.out.c3, T8w4a.out.c0, T8w4a.out.c1, T8w4a.out.c2, T8w4a.out.c3⟩
  generalize hW : (w4.alloc (.cells #[.int .i64 3, .int .i64 0, .int .u64 0, .string ⟨#[]⟩] 25)) = W at SS ⊢
  clear hW HEw4 HEw4a T1w4 T1w4a T2w4 T2w4a T6w4 T6w4a T8w4a Bw4 Bw4a Zw4a Zw1 Zw2 Zw3 Zw4
  generalize w1.heap.size = b2 at SS ⊢
  generalize w3.heap.size = b6 at SS ⊢
  generalize w4.heap.size = b8 at SS ⊢
  have SD : (fun w' => Val.Env w' ∧ Below w.heap.size w w' ∧ w.heap.size ≤ w'.heap.size ∧ w'.cell? ⟨w.heap.size, 0, none⟩ = some (.int .i64 5) ∧ w'.cell? ⟨w.heap.size, 1, none⟩ = some (.int .i64 0) ∧ w'.cell? ⟨w.heap.size, 2, none⟩ = some (.int .u64 0) ∧ w'.cell? ⟨w.heap.size, 3, none⟩ = some (.string ⟨#[97, 34, 98]⟩) ∧ w'.cell? ⟨b2, 0, none⟩ = some (.int .i64 5) ∧ w'.cell? ⟨b2, 1, none⟩ = some (.int .i64 0) ∧ w'.cell? ⟨b2, 2, none⟩ = some (.int .u64 0) ∧ w'.cell? ⟨b2, 3, none⟩ = some (.string ⟨#[97, 34, 98]⟩) ∧ w'.cell? ⟨b6, 0, none⟩ = some (.int .i64 3) ∧ w'.cell? ⟨b6, 1, none⟩ = some (.int .i64 0) ∧ w'.cell? ⟨b6, 2, none⟩ = some (.int .u64 9221120237041090560) ∧ w'.cell? ⟨b6, 3, none⟩ = some (.string ⟨#[]⟩) ∧ w'.cell? ⟨b8, 0, none⟩ = some (.int .i64 3) ∧ w'.cell? ⟨b8, 1, none⟩ = some (.int .i64 0) ∧ w'.cell? ⟨b8, 2, none⟩ = some (.int .u64 0) ∧ w'.cell? ⟨b8, 3, none⟩ = some (.string ⟨#[]⟩)) W.drew := ⟨SS.1.below (Below.refl _ W).drew, SS.2.1.drew, SS.2.2⟩
  simp only [List.append_eq, List.cons_append, List.nil_append]
  go_region_held3 (fun w' => Val.Env w' ∧ Below w.heap.size w w' ∧ w.heap.size ≤ w'.heap.size ∧ w'.cell? ⟨w.heap.size, 0, none⟩ = some (.int .i64 5) ∧ w'.cell? ⟨w.heap.size, 1, none⟩ = some (.int .i64 0) ∧ w'.cell? ⟨w.heap.size, 2, none⟩ = some (.int .u64 0) ∧ w'.cell? ⟨w.heap.size, 3, none⟩ = some (.string ⟨#[97, 34, 98]⟩) ∧ w'.cell? ⟨b2, 0, none⟩ = some (.int .i64 5) ∧ w'.cell? ⟨b2, 1, none⟩ = some (.int .i64 0) ∧ w'.cell? ⟨b2, 2, none⟩ = some (.int .u64 0) ∧ w'.cell? ⟨b2, 3, none⟩ = some (.string ⟨#[97, 34, 98]⟩) ∧ w'.cell? ⟨b6, 0, none⟩ = some (.int .i64 3) ∧ w'.cell? ⟨b6, 1, none⟩ = some (.int .i64 0) ∧ w'.cell? ⟨b6, 2, none⟩ = some (.int .u64 9221120237041090560) ∧ w'.cell? ⟨b6, 3, none⟩ = some (.string ⟨#[]⟩) ∧ w'.cell? ⟨b8, 0, none⟩ = some (.int .i64 3) ∧ w'.cell? ⟨b8, 1, none⟩ = some (.int .i64 0) ∧ w'.cell? ⟨b8, 2, none⟩ = some (.int .u64 0) ∧ w'.cell? ⟨b8, 3, none⟩ = some (.string ⟨#[]⟩))
    (first | (exact k_step (by assumption) hb) | exact SD | assumption)
    (first
      | (go_at_call 30; (with_reducible refine (k_show _ (And.left (by assumption))).mono ?_); rintro e w' ⟨rfl, hb⟩)
      | (go_at_call 31; (with_reducible refine (nan_any _).mono ?_); rintro e w' ⟨rfl, rfl⟩)
      | (go_at_call 28; (with_reducible refine (k_off 9221120237041090561 9221120237041090560 (by decide) _).mono ?_); rintro e w' ⟨rfl, hb⟩)
      | (go_at_call 28; (with_reducible refine (k_off 4609434218613702656 4609434218613702656 (by decide) _).mono ?_); rintro e w' ⟨rfl, hb⟩)
      | (go_at_call 32; (with_reducible refine (k_cmp _).mono ?_); rintro e w' ⟨rfl, hb⟩)
      | (go_at_call 33; (with_reducible refine (k_same _).mono ?_); rintro e w' ⟨rfl, hb⟩)
      | (go_at_call 34; (with_reducible refine (k_rightN _).mono ?_); rintro e w' ⟨rfl, hb⟩)
      | (go_at_call 34; (with_reducible refine (k_right6c _).mono ?_); rintro e w' ⟨rfl, hb⟩)
      | (go_at_call 35; (with_reducible refine (k_truth1 _).mono ?_); rintro e w' ⟨rfl, hb⟩)
      | (go_at_call 35; (with_reducible refine (k_truth5 _).mono ?_); rintro e w' ⟨rfl, hb⟩)
      | (go_at_call 36; (with_reducible refine (k_asf _).mono ?_); rintro e w' ⟨rfl, hb⟩))
  go_wp2_with fail
  go_ret
  rename_i hq
  exact ⟨rfl, hq.2.1⟩
end Rd
end Go.Proofs.YtppdebhcaodcnaaDoor
