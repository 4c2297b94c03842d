/- The law's fixed calls (layer 4): what must come of them. Condition: bytealg's MaxLen holds some number. -/
import Derived.Test.YtppdebhcaodcnaaDoorYl
namespace Go.Proofs.YtppdebhcaodcnaaDoor
open Go.RowKit Cod
namespace Ky
abbrev x0 : V := ⟨1, 1, 0, []⟩
abbrev x1 : V := ⟨5, 0, 0, [97]⟩
theorem r0 : x0.right = true := by
  unfold V.right Val.rightB Val.eqV
  simp [ByteArray.toList_eq]
theorem r1 : x1.right = true := by
  unfold V.right Val.rightB Val.eqV
  simp [ByteArray.toList_eq, S_size]
theorem i0 : x0.inn := ⟨by decide, by decide, by decide, by decide, by decide⟩
theorem i1 : x1.inn := ⟨by decide, by decide, by decide, by decide, by decide⟩
theorem good_two : Good [x0, x1] := ⟨by unfold isK; simp [r0, r1], by intro x hx; simp at hx; rcases hx with rfl | rfl; exact i0; exact i1⟩
theorem good_one : Good [x0] := ⟨by unfold isK; simp [r0], by intro x hx; simp at hx; rw [hx]; exact i0⟩
theorem good_nil : Good [] := ⟨rfl, by simp⟩
theorem body_two : body [x0, x1] = [2, 1, 6, 97, 0, 1, 0] := by decide
theorem body_one : body [x0] = [2, 1, 0] := by decide
theorem cmpK_good {a b : List V} (ha : Good a) (hb : Good b) : cmpKk a b = lx (body a) (body b) := by
  unfold cmpKk
  rw [if_pos ⟨ha.1, hb.1⟩, body_lx a b ha.both hb.both]
theorem body_ne (us : List V) (t : List UInt8) (c : UInt8) (hc : c ≠ 0) : body us ≠ t ++ [c] := by
  intro h
  have := congrArg List.getLast? h
  unfold body at this
  simp at this
  exact hc this.symm
theorem ofB_good' {a : List V} (ha : Good a) : ofB a = body a := by unfold ofB; rw [if_pos ha.1]
theorem ofB_nine : ofB [⟨9, 0, 0, []⟩] = [] := by
  unfold ofB
  rw [if_neg]
  unfold isK V.right Val.rightB
  simp
theorem parse_1 (w : World) (hm : ML w) : Calls Tryd.prog 23 #[.string ⟨#[2, 1, 6, 97, 0, 1, 0]⟩] w fun e w' => ∃ ao cap, e = .returned (.tuple #[.slice ao 2 cap, .int .i64 0]) ∧ RowAt [x0, x1] (.slice ao 2 cap) w' ∧ Below w.heap.size w w' := by
  refine (parse_any ⟨#[2, 1, 6, 97, 0, 1, 0]⟩ (by decide) w hm).mono ?_
  rintro e w' (⟨us, v, hg, hb, rfl, ho, hbl⟩ | ⟨hn, _⟩)
  · have e := body_inj hg.both good_two.both (hb.trans body_two.symm)
    subst e
    have hr := RowAt.of_owns ho rfl
    obtain ⟨ao, cap, rfl, _⟩ := hr
    exact ⟨ao, cap, rfl, RowAt.of_owns ho rfl, hbl⟩
  · exact absurd body_two (hn _ good_two)
theorem parse_2 (w : World) (hm : ML w) : Calls Tryd.prog 23 #[.string ⟨#[2, 1, 6, 97, 0, 1]⟩] w fun e w' => e = .returned (.tuple #[.slice none 0 0, .int .i64 7]) ∧ Below w.heap.size w w' := by
  refine (parse_any ⟨#[2, 1, 6, 97, 0, 1]⟩ (by decide) w hm).mono ?_
  rintro e w' (⟨us, v, hg, hb, rfl, ho, hbl⟩ | ⟨_, h1, h2⟩)
  · exact absurd hb (body_ne us [2, 1, 6, 97, 0] 1 (by decide))
  · exact ⟨h1, h2⟩
theorem parse_3 (w : World) (hm : ML w) : Calls Tryd.prog 23 #[.string ⟨#[0]⟩] w fun e w' => ∃ ao cap, e = .returned (.tuple #[.slice ao 0 cap, .int .i64 0]) ∧ Below w.heap.size w w' := by
  refine (parse_any ⟨#[0]⟩ (by decide) w hm).mono ?_
  rintro e w' (⟨us, v, hg, hb, rfl, ho, hbl⟩ | ⟨hn, _⟩)
  · have e := body_inj hg.both good_nil.both (hb.trans rfl)
    subst e
    obtain ⟨ao, cap, rfl, _⟩ := RowAt.of_owns ho rfl
    exact ⟨ao, cap, rfl, hbl⟩
  · exact absurd rfl (hn _ good_nil)
theorem row_two (w : World) : RowAt [x0, x1] (.slice (some ⟨w.heap.size, 0, none⟩) 2 2) (w.alloc (.cells #[.int .i64 1, .int .i64 1, .int .u64 0, .string ⟨#[]⟩, .int .i64 5, .int .i64 0, .int .u64 0, .string ⟨#[97]⟩] 25)) := by
  refine ⟨_, 2, rfl, fun _ => ⟨w.heap.size, 0, rfl, by simp, fun j hj => ?_⟩⟩
  rw [World.cell?_alloc_mark, Nat.zero_add, ← Array.getElem?_toList]
  rfl
theorem row_nine (w : World) : RowAt [⟨9, 0, 0, []⟩] (.slice (some ⟨w.heap.size, 0, none⟩) 1 1) (w.alloc (.cells #[.int .i64 9, .int .i64 0, .int .u64 0, .string ⟨#[]⟩] 25)) := by
  refine ⟨_, 1, rfl, fun _ => ⟨w.heap.size, 0, rfl, by simp, fun j hj => ?_⟩⟩
  rw [World.cell?_alloc_mark, Nat.zero_add, ← Array.getElem?_toList]
  rfl
theorem rows_two (sa sb : Value) (w : World) (h1 : RowAt [x0, x1] sa w) (h2 : RowAt [x0, x1] sb w) : Calls Tryd.prog 25 #[sa, sb] w fun e w' => e = .returned (.bool true) ∧ Below w.heap.size w w' := by
  have h := rows_any [x0, x1] [x0, x1] sa sb (by decide) (by decide) w h1 h2
  rw [decide_eq_true rfl] at h
  exact h
theorem cmp_12 (sa sb : Value) (w : World) (h1 : RowAt [x0] sa w) (h2 : RowAt [x0, x1] sb w) : Calls Tryd.prog 18 #[sa, sb] w fun e w' => e = .returned (.int .i64 (-1)) ∧ Below w.heap.size w w' := by
  have h := compare_any [x0] [x0, x1] sa sb (by decide) (by decide) w h1 h2
  rw [cmpK_good good_one good_two, body_one, body_two] at h
  exact h
theorem cmp_22 (sa sb : Value) (w : World) (h1 : RowAt [x0, x1] sa w) (h2 : RowAt [x0, x1] sb w) : Calls Tryd.prog 18 #[sa, sb] w fun e w' => e = .returned (.int .i64 0) ∧ Below w.heap.size w w' := by
  have h := compare_any [x0, x1] [x0, x1] sa sb (by decide) (by decide) w h1 h2
  rw [cmpK_good good_two good_two, lx_self] at h
  exact h
theorem pre_12 (sa : Value) (bo : Option Addr) (w : World) (h1 : RowAt [x0] sa w) (h2 : RowAt [x0, x1] (.slice bo 2 2) w) : Calls Tryd.prog 20 #[sa, .slice bo 2 2] w fun e w' => e = .returned (.bool true) ∧ Below w.heap.size w w' := by
  have h := prefix_any [x0] [x0, x1] sa bo 2 (by decide) (by decide) (by decide) w h1 h2
  have e : preB [x0] [x0, x1] = true := by unfold preB; simp [r0]
  rw [e] at h
  exact h
theorem pre_21 (sa : Value) (bo : Option Addr) (w : World) (h1 : RowAt [x0, x1] sa w) (h2 : RowAt [x0] (.slice bo 1 2) w) : Calls Tryd.prog 20 #[sa, .slice bo 1 2] w fun e w' => e = .returned (.bool false) ∧ Below w.heap.size w w' := by
  have h := prefix_any [x0, x1] [x0] sa bo 2 (by decide) (by decide) (by decide) w h1 h2
  have e : preB [x0, x1] [x0] = false := by unfold preB; simp
  rw [e] at h
  exact h
theorem of_two (sa : Value) (w : World) (h1 : RowAt [x0, x1] sa w) (hm : ML w) : Calls Tryd.prog 16 #[sa] w fun e w' => e = .returned (.string ⟨#[2, 1, 6, 97, 0, 1, 0]⟩) ∧ Below w.heap.size w w' := by
  have h := of_any [x0, x1] sa good_two.2 (by decide) w h1 hm
  rw [ofB_good' good_two, body_two] at h
  exact h
theorem of_nine (sa : Value) (w : World) (h1 : RowAt [⟨9, 0, 0, []⟩] sa w) (hm : ML w) : Calls Tryd.prog 16 #[sa] w fun e w' => e = .returned (.string ⟨#[]⟩) ∧ Below w.heap.size w w' := by
  have h := of_any [⟨9, 0, 0, []⟩] sa (by intro x hx; simp at hx; subst hx; exact ⟨by decide, by decide, by decide, by decide, by decide⟩) (by decide) w h1 hm
  rw [ofB_nine] at h
  exact h
theorem next_a (w : World) : Calls Tryd.prog 22 #[.string ⟨#[97]⟩] w fun e w' => e = .returned (.string ⟨#[97, 0]⟩) ∧ w = w' := next_any ⟨#[97]⟩ (by decide) w
set_option maxRecDepth 100000 in
set_option maxHeartbeats 8000000 in
theorem known_any (w : World) (hm : ML w) : Calls Tryd.prog 15 #[] w fun e w' => e = .returned (.bool true) ∧ Below w.heap.size w w' := by
  have HR := Lib.hid (row_two w)
  have HB := Lib.hid ((Below.refl w.heap.size w).alloc (Nat.le_refl _) (.cells #[.int .i64 1, .int .i64 1, .int .u64 0, .string ⟨#[]⟩, .int .i64 5, .int .i64 0, .int .u64 0, .string ⟨#[97]⟩] 25))
  have HM := Lib.hid (hm.later HB.out)
  have Z0 : w.heap.size ≤ (w.alloc (.cells #[.int .i64 1, .int .i64 1, .int .u64 0, .string ⟨#[]⟩, .int .i64 5, .int .i64 0, .int .u64 0, .string ⟨#[97]⟩] 25)).heap.size := by simp
  clear hm
  go_enter Tryd.func15, Tryd.ntmps15
  go_wp2_with fail
  refine (parse_1 _ HM.out).mono ?_
  rintro e w1 ⟨ao, acap, rfl, hra, hb⟩
  have HA := Lib.hid hra
  have HR1 := Lib.hid (HR.out.later hb)
  have HM1 := Lib.hid (HM.out.later hb)
  have HB1 := Lib.hid (HB.out.trans (hb.mono Z0))
  have Z1 := HB1.out.size
  clear hra hb HR HM HB Z0
  go_wp2_with fail
  refine (parse_2 _ HM1.out).mono ?_
  rintro e w2 ⟨rfl, hb⟩
  have HA2 := Lib.hid (HA.out.later hb)
  have HR2 := Lib.hid (HR1.out.later hb)
  have HM2 := Lib.hid (HM1.out.later hb)
  have HB2 := Lib.hid (HB1.out.trans (hb.mono Z1))
  have Z2 := HB2.out.size
  clear hb HA HR1 HM1 HB1 Z1
  go_wp2_with fail
  refine (parse_3 _ HM2.out).mono ?_
  rintro e w3 ⟨bo, bcap, rfl, hb⟩
  have HA3 := Lib.hid (HA2.out.later hb)
  have HR3 := Lib.hid (HR2.out.later hb)
  have HM3 := Lib.hid (HM2.out.later hb)
  have HB3 := Lib.hid (HB2.out.trans (hb.mono Z2))
  have Z3 := HB3.out.size
  clear hb HA2 HR2 HM2 HB2 Z2
  go_wp2_with fail
  refine (of_two _ _ HR3.out HM3.out).mono ?_
  rintro e w4 ⟨rfl, hb⟩
  have HA4 := Lib.hid (HA3.out.later hb)
  have HR4 := Lib.hid (HR3.out.later hb)
  have HM4 := Lib.hid (HM3.out.later hb)
  have HB4 := Lib.hid (HB3.out.trans (hb.mono Z3))
  have Z4 := HB4.out.size
  clear hb HA3 HR3 HM3 HB3 Z3
  go_wp2_with fail
  refine (rows_two _ _ _ HA4.out HR4.out).mono ?_
  rintro e w5 ⟨rfl, hb⟩
  have HR5 := Lib.hid (HR4.out.later hb)
  have HM5 := Lib.hid (HM4.out.later hb)
  have HB5 := Lib.hid (HB4.out.trans (hb.mono Z4))
  have Z5 := HB5.out.size
  clear hb HA4 HR4 HM4 HB4 Z4
  go_wp2_with fail
  refine (cmp_12 _ _ _ (RowAt.cut (k := 1) HR5.out (by decide)) HR5.out).mono ?_
  rintro e w6 ⟨rfl, hb⟩
  have HR6 := Lib.hid (HR5.out.later hb)
  have HM6 := Lib.hid (HM5.out.later hb)
  have HB6 := Lib.hid (HB5.out.trans (hb.mono Z5))
  have Z6 := HB6.out.size
  clear hb HR5 HM5 HB5 Z5
  go_wp2_with fail
  refine (cmp_22 _ _ _ HR6.out HR6.out).mono ?_
  rintro e w7 ⟨rfl, hb⟩
  have HR7 := Lib.hid (HR6.out.later hb)
  have HM7 := Lib.hid (HM6.out.later hb)
  have HB7 := Lib.hid (HB6.out.trans (hb.mono Z6))
  have Z7 := HB7.out.size
  clear hb HR6 HM6 HB6 Z6
  go_wp2_with fail
  refine (pre_12 _ _ _ (RowAt.cut (k := 1) HR7.out (by decide)) HR7.out).mono ?_
  rintro e w8 ⟨rfl, hb⟩
  have HR8 := Lib.hid (HR7.out.later hb)
  have HM8 := Lib.hid (HM7.out.later hb)
  have HB8 := Lib.hid (HB7.out.trans (hb.mono Z7))
  have Z8 := HB8.out.size
  clear hb HR7 HM7 HB7 Z7
  go_wp2_with fail
  refine (pre_21 _ _ _ HR8.out (RowAt.cut (k := 1) HR8.out (by decide))).mono ?_
  rintro e w9 ⟨rfl, hb⟩
  have HM9 := Lib.hid (HM8.out.later hb)
  have HB9 := Lib.hid (HB8.out.trans (hb.mono Z8))
  have Z9 := HB9.out.size
  clear hb HR8 HM8 HB8 Z8
  go_wp2_with fail
  refine (next_a _).mono ?_
  rintro e w10 ⟨rfl, rfl⟩
  have HN := Lib.hid (row_nine w9)
  have HN2 := Lib.hid ((Below.refl w9.heap.size w9).alloc (Nat.le_refl _) (.cells #[.int .i64 9, .int .i64 0, .int .u64 0, .string ⟨#[]⟩] 25))
  have HM10 := Lib.hid (HM9.out.later HN2.out)
  have HB10 := Lib.hid (HB9.out.trans (HN2.out.mono Z9))
  have Z10 := HB10.out.size
  clear HM9 HB9 Z9 HN2
  go_wp2_with fail
  refine (of_nine _ _ HN.out HM10.out).mono ?_
  rintro e w11 ⟨rfl, hb⟩
  have HB11 := Lib.hid (HB10.out.trans (hb.mono Z10))
  clear hb HN HM10 HB10 Z10
  go_wp2_with fail
  go_ret
  exact ⟨rfl, HB11.out⟩
end Ky
end Go.Proofs.YtppdebhcaodcnaaDoor
