/- The law's known, under what the program's index keeps to. No condition. -/
import Derived.Test.YtapdhelioecneaaU10
namespace Go.Proofs.Ytapdhelioecneaa
open Go.RowKit
namespace Idx
def i1 : It := ⟨[97], 3, 1099511627776, 1⟩
def i2 : It := ⟨[97], 0, 3, 2⟩
def i3 : It := ⟨[97], 3, 4, 0⟩
def i4 : It := ⟨[97], 3, 9, 1⟩
theorem inn1 : i1.inn := ⟨by decide, by unfold In64; decide, by unfold In64; decide, by unfold In64; decide⟩
theorem inn2 : i2.inn := ⟨by decide, by unfold In64; decide, by unfold In64; decide, by unfold In64; decide⟩
theorem inn3 : i3.inn := ⟨by decide, by unfold In64; decide, by unfold In64; decide, by unfold In64; decide⟩
theorem kc1 : insC [] i1 = 0 := by kernel_rfl
theorem kl1 : insL [] i1 = [i1] := by kernel_rfl
theorem kc2 : insC [i1] i2 = 0 := by kernel_rfl
theorem kl2 : insL [i1] i2 = [i2, i1] := by kernel_rfl
theorem kc3 : insC [i2, i1] i3 = 5 := by kernel_rfl
theorem kl3 : insL [i2, i1] i3 = [i2, i1] := by kernel_rfl
theorem ks4 : stab [i2, i1] [] [] 2 = [i2] := by kernel_rfl
theorem kc5 : cloC [i2, i1] [97] 3 9 = 0 := by kernel_rfl
theorem kl5 : cloL [i2, i1] [97] 3 9 = [i2, i4] := by kernel_rfl
theorem kc6 : cloC [i2, i4] [97] 3 9 = 6 := by kernel_rfl
theorem kl6 : cloL [i2, i4] [97] 3 9 = [i2, i4] := by kernel_rfl
theorem ko7 : over [i2, i4] [97] [98] 2 4 = [i2, i4] := by kernel_rfl
theorem kc8 : delC [i2, i4] [97] 0 = 0 := by kernel_rfl
theorem kl8 : delL [i2, i4] [97] 0 = [i4] := by kernel_rfl
theorem kg9 : getI [i4] [97] 3 = some i4 := by kernel_rfl
theorem kg10 : getI [i4] [97] 0 = none := by kernel_rfl
theorem km : maxE [i4] = 9 := by kernel_rfl
theorem fit1 : Fit 998 [i1] := by rw [← kl1]; exact (fit_nil 997).ins inn1.k
theorem fit2 : Fit 998 [i2, i1] := by rw [← kl2]; refine Fit.ins (b := 997) ?_ inn2.k; rw [← kl1]; exact (fit_nil 996).ins inn1.k
theorem fit4 : Fit 998 [i2, i4] := by rw [← kl5]; exact fit2.clo _ _ _
theorem fit5 : Fit 998 [i4] := by rw [← kl8]; exact fit4.del _ _
theorem got4 {w w' : World} {e : Ending} (h : GetP (some i4) w e w') : e = .returned (.tuple #[.agg #[.string (S [97]), .int .i64 3, .int .i64 9, .int .i64 1], .int .i64 0]) ∧ Below w.heap.size w w' := h
theorem got0 {w w' : World} {e : Ending} (h : GetP none w e w') : e = .returned (.tuple #[.agg #[.string (S []), .int .i64 0, .int .i64 0, .int .i64 0], .int .i64 4]) ∧ Below w.heap.size w w' := h
theorem one_block {n : Int} {l : List Int} (h : Blk n [i4].length l) : l.length = 1 := by
  have h1 := h.short
  have h2 := h.sum
  cases l with
  | nil => simp at h2
  | cons x m => simp only [List.length_cons, List.length_nil] at h1 ⊢; omega
set_option maxHeartbeats 8000000 in
set_option maxRecDepth 100000 in
theorem known_any {PX : Nat → Int → (Nat → Prop) → List It → World → Prop} (K : Con PX) (w : World) :
    Calls Try.prog 30 #[] w fun e w' => e = .returned (.bool true) ∧ Below w.heap.size w w' := by
  go_enter Try.func30, Try.ntmps30
  go_wp2_with fail
  refine (K.new 2 _ (by kernel_rfl)).mono ?_
  rintro e w1 ⟨R, F1, rfl, hp, hf, hb⟩
  have P1 := hide hp
  have F1g := hide hf
  have B1 := hide hb
  clear hp hf hb
  go_wp2_with fail
  refine (K.no 1 _ (by kernel_rfl)).mono ?_
  rintro e w2 ⟨rfl, hb⟩
  have P2 := hide (K.later P1.out hb (Nat.le_refl _))
  have B2 := hide (B1.out.trans (hb.mono B1.out.size))
  have F2g := F1g
  clear hb P1 B1 F1g
  go_wp2_with fail
  refine (K.insert P2.out (fit_nil _) i1 inn1).mono ?_
  intro e w3 hc
  rw [kc1, kl1] at hc
  obtain ⟨rfl, F3, hp, hf, hb, ht⟩ := hc.next B2.out F2g.out
  have P3 := hide hp
  have F3g := hide hf
  have B3 := hide hb
  clear hp hf hb ht hc P2 B2 F2g
  go_wp2_with fail
  refine (K.insert P3.out fit1 i2 inn2).mono ?_
  intro e w4 hc
  rw [kc2, kl2] at hc
  obtain ⟨rfl, F4, hp, hf, hb, ht⟩ := hc.next B3.out F3g.out
  have P4 := hide hp
  have F4g := hide hf
  have B4 := hide hb
  clear hp hf hb ht hc P3 B3 F3g
  go_wp2_with fail
  refine (K.insert P4.out fit2 i3 inn3).mono ?_
  intro e w5 hc
  rw [kc3, kl3] at hc
  obtain ⟨rfl, F5, hp, hf, hb, ht⟩ := hc.next B4.out F4g.out
  have P5 := hide hp
  have F5g := hide hf
  have B5 := hide hb
  clear hp hf hb ht hc P4 B4 F4g
  go_wp2_with fail
  refine (K.stab P5.out fit2 [] [] 2 (by decide) (by decide) (by unfold In64; decide)).mono ?_
  intro e w6 hc
  rw [ks4] at hc
  obtain ⟨va, rfl, ha, hg, hb⟩ := hc
  have Aa := hide ha
  have Oa := hide (show Off _ va F5 w6 from fun hL g h9 => ⟨(hg hL g h9).2, fun e => by have := (hg hL g h9).1; have := K.fl P5.out g e; omega⟩)
  clear ha hg
  have P6 := hide (K.later P5.out hb (Nat.le_refl _))
  have B6 := hide (B5.out.trans (hb.mono B5.out.size))
  have F6g := F5g
  clear P5 B5 F5g
  clear hb
  go_wp2_with fail
  refine (K.close P6.out fit2 [97] 3 9 (by decide) (by unfold In64; decide) (by unfold In64; decide)).mono ?_
  intro e w7 hc
  rw [kc5, kl5] at hc
  obtain ⟨rfl, F7, hp, hf, hb, ht⟩ := hc.next B6.out F6g.out
  have P7 := hide hp
  have F7g := hide hf
  have B7 := hide hb
  obtain ⟨ha, ho⟩ := Aa.out.to Oa.out ht
  clear Aa Oa
  have Aa := hide ha
  have Oa := hide ho
  clear ha ho
  clear hp hf hb ht hc P6 B6 F6g
  go_wp2_with fail
  refine (K.close P7.out fit4 [97] 3 9 (by decide) (by unfold In64; decide) (by unfold In64; decide)).mono ?_
  intro e w8 hc
  rw [kc6, kl6] at hc
  obtain ⟨rfl, F8, hp, hf, hb, ht⟩ := hc.next B7.out F7g.out
  have P8 := hide hp
  have F8g := hide hf
  have B8 := hide hb
  obtain ⟨ha, ho⟩ := Aa.out.to Oa.out ht
  clear Aa Oa
  have Aa := hide ha
  have Oa := hide ho
  clear ha ho
  clear hp hf hb ht hc P7 B7 F7g
  go_wp2_with fail
  refine (K.over P8.out fit4 [97] [98] 2 4 (by decide) (by decide) (by unfold In64; decide) (by unfold In64; decide)).mono ?_
  intro e w9 hc
  rw [ko7] at hc
  obtain ⟨vb, rfl, ha, hg, hb⟩ := hc
  have Ab := hide ha
  have Ob := hide (show Off _ vb F8 w9 from fun hL g h9 => ⟨(hg hL g h9).2, fun e => by have := (hg hL g h9).1; have := K.fl P8.out g e; omega⟩)
  clear ha hg
  have P9 := hide (K.later P8.out hb (Nat.le_refl _))
  have B9 := hide (B8.out.trans (hb.mono B8.out.size))
  have F9g := F8g
  have ha := Aa.out.later hb (Nat.le_refl _)
  have ho := Oa.out.later hb.size
  clear Aa Oa
  have Aa := hide ha
  have Oa := hide ho
  clear ha ho
  clear P8 B8 F8g
  clear hb
  go_wp2_with fail
  refine (K.delete P9.out fit4 [97] 0 (by decide) (by unfold In64; decide)).mono ?_
  intro e w10 hc
  rw [kc8, kl8] at hc
  obtain ⟨rfl, F10, hp, hf, hb, ht⟩ := hc.next B9.out F9g.out
  have P10 := hide hp
  have F10g := hide hf
  have B10 := hide hb
  obtain ⟨ha, ho⟩ := Aa.out.to Oa.out ht
  clear Aa Oa
  have Aa := hide ha
  have Oa := hide ho
  clear ha ho
  obtain ⟨ha, ho⟩ := Ab.out.to Ob.out ht
  clear Ab Ob
  have Ab := hide ha
  have Ob := hide ho
  clear ha ho
  clear hp hf hb ht hc P9 B9 F9g
  go_wp2_with fail
  refine (K.get P10.out fit5 [97] 3 (by decide) (by unfold In64; decide)).mono ?_
  intro e w11 hc
  rw [kg9] at hc
  obtain ⟨rfl, hb⟩ := got4 hc
  have P11 := hide (K.later P10.out hb (Nat.le_refl _))
  have B11 := hide (B10.out.trans (hb.mono B10.out.size))
  have F11g := F10g
  have ha := Aa.out.later hb (Nat.le_refl _)
  have ho := Oa.out.later hb.size
  clear Aa Oa
  have Aa := hide ha
  have Oa := hide ho
  clear ha ho
  have ha := Ab.out.later hb (Nat.le_refl _)
  have ho := Ob.out.later hb.size
  clear Ab Ob
  have Ab := hide ha
  have Ob := hide ho
  clear ha ho
  clear P10 B10 F10g
  clear hb
  obtain ⟨wa, hwa⟩ : ∃ wa, wa = w11.alloc (.cells #[.string (S [97]), .int .i64 3, .int .i64 9, .int .i64 1] 31) := ⟨_, rfl⟩
  have BX := hide (show Bx i4 w11.heap.size wa from by rw [hwa]; exact Bx.new w11 i4 31)
  have hb : Below w11.heap.size w11 wa := by rw [hwa]; exact below_alloc _ _
  have HWA := hide hwa
  clear hwa
  have P12 := hide (K.later P11.out hb (Nat.le_refl _))
  have B12 := hide (B11.out.trans (hb.mono B11.out.size))
  have F12g := F11g
  have ha := Aa.out.later hb (Nat.le_refl _)
  have ho := Oa.out.later hb.size
  clear Aa Oa
  have Aa := hide ha
  have Oa := hide ho
  clear ha ho
  have ha := Ab.out.later hb (Nat.le_refl _)
  have ho := Ob.out.later hb.size
  clear Ab Ob
  have Ab := hide ha
  have Ob := hide ho
  clear ha ho
  clear P11 B11 F11g
  clear hb
  go_wp2_with fail
  rw [show w11.alloc _ = wa from HWA.out.symm]
  clear HWA
  refine (K.get P12.out fit5 [97] 0 (by decide) (by unfold In64; decide)).mono ?_
  intro e w13 hc
  rw [kg10] at hc
  obtain ⟨rfl, hb⟩ := got0 hc
  have BX2 := hide (BX.out.later hb BX.out.lt)
  clear BX
  have P13 := hide (K.later P12.out hb (Nat.le_refl _))
  have B13 := hide (B12.out.trans (hb.mono B12.out.size))
  have F13g := F12g
  have ha := Aa.out.later hb (Nat.le_refl _)
  have ho := Oa.out.later hb.size
  clear Aa Oa
  have Aa := hide ha
  have Oa := hide ho
  clear ha ho
  have ha := Ab.out.later hb (Nat.le_refl _)
  have ho := Ob.out.later hb.size
  clear Ab Ob
  have Ab := hide ha
  have Ob := hide ho
  clear ha ho
  clear P12 B12 F12g
  clear hb
  obtain ⟨wb, hwb⟩ : ∃ wb, wb = w13.alloc (.cells #[.string (S []), .int .i64 0, .int .i64 0, .int .i64 0] 31) := ⟨_, rfl⟩
  have hb : Below w13.heap.size w13 wb := by rw [hwb]; exact below_alloc _ _
  have BX3 := hide (BX2.out.later hb BX2.out.lt)
  have HWB := hide hwb
  clear hwb BX2
  have P14 := hide (K.later P13.out hb (Nat.le_refl _))
  have B14 := hide (B13.out.trans (hb.mono B13.out.size))
  have F14g := F13g
  have ha := Aa.out.later hb (Nat.le_refl _)
  have ho := Oa.out.later hb.size
  clear Aa Oa
  have Aa := hide ha
  have Oa := hide ho
  clear ha ho
  have ha := Ab.out.later hb (Nat.le_refl _)
  have ho := Ob.out.later hb.size
  clear Ab Ob
  have Ab := hide ha
  have Ob := hide ho
  clear ha ho
  clear P13 B13 F13g
  clear hb
  obtain ⟨ba, oa, ca, rfl, _, _, _, _, a3⟩ := Aa.out.at 0 (by decide)
  obtain ⟨bb, ob, cb, rfl, _, _, _, _, b3⟩ := Ab.out.at 0 (by decide)
  obtain ⟨x0, x1, x2, x3, _⟩ := BX3.out
  have c3 : wb.cell? ⟨ba, oa + 3, none⟩ = some (.int .i64 2) := a3
  have d3 : wb.cell? ⟨bb, ob + 3, none⟩ = some (.int .i64 2) := b3
  have y0 : wb.cell? ⟨w11.heap.size, 0, none⟩ = some (.string (S [97])) := x0
  have y1 : wb.cell? ⟨w11.heap.size, 1, none⟩ = some (.int .i64 3) := x1
  have y2 : wb.cell? ⟨w11.heap.size, 2, none⟩ = some (.int .i64 9) := x2
  have y3 : wb.cell? ⟨w11.heap.size, 3, none⟩ = some (.int .i64 1) := x3
  clear a3 b3 x0 x1 x2 x3
  rw [HWB.out] at c3 d3 y0 y1 y2 y3
  go_wp2_with fail
  rw [show w13.alloc _ = wb from HWB.out.symm]
  clear c3 d3 y0 y1 y2 y3 HWB
  refine (K.len P14.out fit5).mono ?_
  intro e w15 hc
  replace hc : e = .returned (.int .i64 1) ∧ Below wb.heap.size wb w15 := hc
  obtain ⟨rfl, hb⟩ := hc
  clear Aa Oa Ab Ob
  have P15 := hide (K.later P14.out hb (Nat.le_refl _))
  have B15 := hide (B14.out.trans (hb.mono B14.out.size))
  have F15g := F14g
  clear P14 B14 F14g
  clear hb
  go_wp2_with fail
  refine (K.max P15.out fit5).mono ?_
  intro e w16 hc
  rw [km] at hc
  obtain ⟨rfl, hb⟩ := hc
  have P16 := hide (K.later P15.out hb (Nat.le_refl _))
  have B16 := hide (B15.out.trans (hb.mono B15.out.size))
  have F16g := F15g
  clear P15 B15 F15g
  clear hb
  go_wp2_with fail
  refine (K.blocks P16.out fit5).mono ?_
  rintro e w17 ⟨vv, bl, rfl, hi, hk, hb⟩
  obtain ⟨bo, bc, rfl, _, _⟩ := hi
  have hbl : bl.length = 1 := one_block hk
  rw [hbl]
  have P17 := hide (K.later P16.out hb (Nat.le_refl _))
  have B17 := hide (B16.out.trans (hb.mono B16.out.size))
  have F17g := F16g
  clear P16 B16 F16g
  clear hb hk hbl
  go_wp2_with fail
  refine (K.all P17.out fit5).mono ?_
  rintro e w18 ⟨vv, rfl, ha, _, hb⟩
  obtain ⟨so, sc, rfl, _, _⟩ := ha.form
  have P18 := hide (K.later P17.out hb (Nat.le_refl _))
  have B18 := hide (B17.out.trans (hb.mono B17.out.size))
  have F18g := F17g
  clear P17 B17 F17g
  clear hb ha
  go_wp2_with fail
  go_ret
  exact ⟨rfl, B18.out⟩
end Idx
end Go.Proofs.Ytapdhelioecneaa
