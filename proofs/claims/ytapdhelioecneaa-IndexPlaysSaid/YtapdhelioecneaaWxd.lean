/- Close: done. Condition: less than a thousand items. -/
import Derived.Test.YtapdhelioecneaaWx
namespace Go.Proofs.Ytapdhelioecneaa
open Go.RowKit
attribute [local go_sem] Oper.semAt_some
namespace Idx
set_option maxHeartbeats 4000000 in
set_option maxRecDepth 100000 in
theorem close_done {R wn : Nat} {F : Nat → Prop} {Bs : List Bkm} {v : Value} {w : World} (h : St R wn Bs v w) (hs : Siz wn Bs) (hF : ∀ k, fp R Bs v k → F k) (hf : ∀ k, F k → k < w.heap.size) (hu : Up (its Bs)) (hl : (its Bs).length ≤ 998) (k : List UInt8) (s e9 : Int) (hat : isAt (its Bs) k s = true) (hc : ∀ x, getI (its Bs) k s = some x → x.s = s → x.e = 1099511627776 ∧ ¬ e9 ≤ s ∧ ¬ 1099511627776 ≤ e9) :
    Calls Try.prog 14 #[.pointer (some ⟨R, 0, none⟩), .string (S k), .int .i64 s, .int .i64 e9] w fun e w' => ChgX PX R wn F (cloC (its Bs) k s e9) (cloL (its Bs) k s e9) w e w' := by
  have CP := hide (place_any h hu (by omega) k s)
  have HST := hide h
  have HKP := hide (show (∀ c w', Below w.heap.size w w' → ChgX PX R wn F c (its Bs) w (.returned (.int .i64 c)) w') ∧ ∀ c Bs' L' w', Mut R wn Bs v w Bs' w' → Siz wn Bs' → its Bs' = L' → ChgX PX R wn F c L' w (.returned (.int .i64 c)) w' from ⟨fun c w' hb => chg_same h hs hF hf hb, fun c Bs' L' w' hm h1 h2 => hm.chg hF hf h1 h2⟩)
  have HS := hide hs
  have HL := hide hl
  have HU := hide hu
  have HAT := hide hat
  have HCC := hide hc
  have HE := hide (show cloC (its Bs) k s e9 = 0 ∧ cloL (its Bs) k s e9 = clo (its Bs) k s e9 from by
    have hcc : cloC (its Bs) k s e9 = 0 := by
      cases hg : getI (its Bs) k s with
      | none =>
        unfold getI at hg
        rw [if_pos hat] at hg
        obtain ⟨hp1, _⟩ := isAt_yes hat
        rw [List.getElem?_eq_getElem hp1] at hg; cases hg
      | some x =>
        obtain ⟨_, _, _, hxs⟩ := getI_some hg
        have h9 := hc x hg hxs
        unfold cloC
        rw [hg]
        show (if x.e ≠ 1099511627776 then (6 : Int) else if e9 ≤ s ∨ 1099511627776 ≤ e9 then 1 else 0) = 0
        rw [if_neg (fun h8 => h8 h9.1), if_neg (by omega)]
    exact ⟨hcc, by unfold cloL; rw [hcc]; rfl⟩)
  rw [HE.out.1, HE.out.2]
  clear h hs hF hf hu hl hat hc HE
  go_enter Try.func14, Try.ntmps14
  go_wp2_with fail
  refine CP.out.mono ?_
  rintro e w1 ⟨h1, _, hb⟩
  obtain ⟨q, i, rfl, hp⟩ := h1 HAT.out
  obtain ⟨x, hi, hx, hxk, hxs, hg⟩ := clo_found hp HAT.out
  have hcx := HCC.out x hg hxs
  have g2 : (x.e == 1099511627776) = true := by rw [beq_iff_eq]; exact hcx.1
  have g3 : ¬ e9 ≤ x.s := by have h8 := hcx.2.1; rw [hxs]; omega
  have g4 : ¬ e9 ≥ 1099511627776 := by have h8 := hcx.2.2; omega
  have CA := hide (show ∀ u : World, St R wn Bs v u → Calls Try.prog 39 #[.pointer (some ⟨R, 1, none⟩), .agg #[.int .i64 q, .int .i64 i]] u fun e w' => e = .returned (.agg #[.string (S x.k), .int .i64 x.s, .int .i64 x.e, .int .i64 x.id]) ∧ Below u.heap.size u w' from fun u hz => by have h9 := at_any hz q i hp.hq hi; rw [← hx] at h9; exact h9)
  have HX := hide hx
  have HXK := hide hxk
  have HXS := hide hxs
  have T0 := hide (show Zp R wn Bs v q i w1.heap.size w (w1.alloc (.cells #[.int .i64 q, .int .i64 i] 74)) from ⟨(HST.out.later hb (Nat.le_refl _)).later (below_alloc _ _) (Nat.le_refl _), B2.new w1 _ _ 74 rfl, hb.trans ((below_alloc w1 _).mono hb.size)⟩)
  have HNP := hide (show ¬ fp R Bs v w1.heap.size from fun e9 => by have := HST.out.fl _ e9; have := hb.size; omega)
  have HP := hide hp
  clear h1 hb CP hx hxk hxs hg hcx HCC
  go_wp2_with fail
  refine wp_region_held_drew (S := fun u => u.cell? ⟨w1.heap.size, 0, none⟩ = some (.int .i64 q) ∧ u.cell? ⟨w1.heap.size, 1, none⟩ = some (.int .i64 i)) (by kernel_rfl) (T0.out.later (Below.refl _ _).drew).ob (fun hHeld => ?_)
  obtain ⟨w6, hw6⟩ : ∃ w6, w6 = (w1.alloc (.cells #[.int .i64 q, .int .i64 i] 74)).drew := ⟨_, rfl⟩
  replace T0 := hide (show Zp R wn Bs v q i w1.heap.size w w6 from by rw [hw6]; exact T0.out.later (Below.refl _ _).drew)
  rw [← hw6] at hHeld ⊢
  clear hw6
  refine Man.t1 0 hHeld ?_
  (try simp only [Act.put, Mqa, Mqb, Mqc])
  refine Man.t1 1 hHeld ?_
  (try simp only [Act.put, Mqa, Mqb, Mqc])
  refine Man.t1 2 hHeld ?_
  (try simp only [Act.put, Mqa, Mqb, Mqc])
  refine Man.t1 3 hHeld ?_
  (try simp only [Act.put, Mqa, Mqb, Mqc])
  refine Man.two (i := 4) (j := 5) rfl rfl (by kernel_rfl) (fun K hK => ?_) (fun K hK => ?_)
  · go_simp
    with_reducible refine (CA.out _ T0.out.s).mono ?_
    rintro e w2 ⟨rfl, hb⟩
    replace T0 := hide (T0.out.later hb)
    clear hb
    refine hK.out _ _ T0.out.ob (fun hNew => ?_)
    clear hK K
    have hHeld := hNew
    clear hNew
    (try simp only [Act.put, Mqa, Mqb, Mqc])
    refine Man.one (i := 5) rfl (by kernel_rfl) (fun K hK => ?_)
    go_simp
    have PB := hide (show Bw zeroIt w2.heap.size (w2.alloc (.cells #[.string ⟨#[]⟩, .int .i64 0, .int .i64 0, .int .i64 0] 31)) from Bw.new w2 zeroIt 31 rfl)
    have PN := hide (show ¬ fp R Bs v w2.heap.size ∧ w.heap.size ≤ w2.heap.size ∧ w1.heap.size ≠ w2.heap.size from ⟨fun e9 => by have := T0.out.s.fl _ e9; omega, T0.out.l.size, by have := T0.out.p.lt; omega⟩)
    replace T0 := hide (T0.out.later (below_alloc w2 (.cells #[.string ⟨#[]⟩, .int .i64 0, .int .i64 0, .int .i64 0] 31)))
    obtain ⟨ib, hib⟩ : ∃ ib, ib = w2.heap.size := ⟨_, rfl⟩
    rw [← hib] at PB PN ⊢
    obtain ⟨w5, hw5⟩ : ∃ w5, w5 = w2.alloc (.cells #[.string ⟨#[]⟩, .int .i64 0, .int .i64 0, .int .i64 0] 31) := ⟨_, rfl⟩
    rw [← hw5] at T0 PB ⊢
    clear hib hw5
    refine hK.out _ _ T0.out.ob (fun hNew => ?_)
    clear hK K
    have hHeld := hNew
    clear hNew
    (try simp only [Act.put, Mqa, Mqb, Mqc])
    refine Man.one (i := 6) rfl (by kernel_rfl) (fun K hK => ?_)
    obtain ⟨p0, p1, p2, p3, _⟩ := PB.out.toBx
    have z0 := PB.out.z 0
    have z1 := PB.out.z 1
    have z2 := PB.out.z 2
    have z3 := PB.out.z 3
    go_simp
    have T1 := hide ((((T0.out.set (p := ⟨ib, 0, none⟩) PN.out.2.1 PN.out.2.2 PN.out.1 (.string (S x.k))).set (p := ⟨ib, 1, none⟩) PN.out.2.1 PN.out.2.2 PN.out.1 (.int .i64 x.s)).set (p := ⟨ib, 2, none⟩) PN.out.2.1 PN.out.2.2 PN.out.1 (.int .i64 x.e)).set (p := ⟨ib, 3, none⟩) PN.out.2.1 PN.out.2.2 PN.out.1 (.int .i64 x.id))
    have XB := hide (PB.out.set x)
    clear p0 p1 p2 p3 z0 z1 z2 z3 T0 PB
    refine hK.out _ _ T1.out.ob (fun hNew => ?_)
    clear hK K
    have hHeld := hNew
    clear hNew
    (try simp only [Act.put, Mqa, Mqb, Mqc])
    refine wpAnyH_done (by kernel_rfl) ?_ _
    obtain ⟨x0, x1, x2, x3, _⟩ := XB.out.toBx
    have z2 := XB.out.z 2
    go_wp2_with fail
    obtain ⟨wx, hwx⟩ : ∃ wx, wx = ((((w5.setCell ⟨ib, 0, none⟩ (.string (S x.k))).setCell ⟨ib, 1, none⟩ (.int .i64 x.s)).setCell ⟨ib, 2, none⟩ (.int .i64 x.e)).setCell ⟨ib, 3, none⟩ (.int .i64 x.id)).setCell ⟨ib, 2, none⟩ (.int .i64 e9) := ⟨_, rfl⟩
    have T2 := hide (show Zp R wn Bs v q i w1.heap.size w wx from by rw [hwx]; exact T1.out.set (p := ⟨ib, 2, none⟩) PN.out.2.1 PN.out.2.2 PN.out.1 (.int .i64 e9))
    have XC := hide (show Bx ⟨x.k, x.s, e9, x.id⟩ ib wx from by rw [hwx]; exact ⟨cell_set_other (.inr (by decide)) x0, cell_set_other (.inr (by decide)) x1, cell_set_same (u := .int .i64 e9) x2, cell_set_other (.inr (by decide)) x3, by simpa using XB.out.toBx.lt⟩)
    rw [← hwx]
    clear x0 x1 x2 x3 z2 hHeld hwx T1 XB
    have HS7 := hide (show wx.drew.cell? ⟨w1.heap.size, 0, none⟩ = some (.int .i64 q) ∧ wx.drew.cell? ⟨w1.heap.size, 1, none⟩ = some (.int .i64 i) ∧ wx.drew.cell? ⟨ib, 0, none⟩ = some (.string (S x.k)) ∧ wx.drew.cell? ⟨ib, 1, none⟩ = some (.int .i64 x.s) ∧ wx.drew.cell? ⟨ib, 2, none⟩ = some (.int .i64 e9) ∧ wx.drew.cell? ⟨ib, 3, none⟩ = some (.int .i64 x.id) from ⟨T2.out.p.c0, T2.out.p.c1, XC.out.c0, XC.out.c1, XC.out.c2, XC.out.c3⟩)
    refine wp_region_held_drew (S := fun u => u.cell? ⟨w1.heap.size, 0, none⟩ = some (.int .i64 q) ∧ u.cell? ⟨w1.heap.size, 1, none⟩ = some (.int .i64 i) ∧ u.cell? ⟨ib, 0, none⟩ = some (.string (S x.k)) ∧ u.cell? ⟨ib, 1, none⟩ = some (.int .i64 x.s) ∧ u.cell? ⟨ib, 2, none⟩ = some (.int .i64 e9) ∧ u.cell? ⟨ib, 3, none⟩ = some (.int .i64 x.id)) (by kernel_rfl) HS7.out (fun hHeld => ?_)
    obtain ⟨w7, hw7⟩ : ∃ w7, w7 = wx.drew := ⟨_, rfl⟩
    replace T2 := hide (show Zp R wn Bs v q i w1.heap.size w w7 from by rw [hw7]; exact T2.out.later (Below.refl _ _).drew)
    replace XC := hide (show Bx ⟨x.k, x.s, e9, x.id⟩ ib w7 from by rw [hw7]; exact XC.out.later (Below.refl _ _).drew XC.out.lt)
    rw [← hw7] at hHeld ⊢
    clear hw7 HS7
    refine Man.t1 0 hHeld ?_
    (try simp only [Act.put, Mqa, Mqb, Mqc])
    refine Man.t1 1 hHeld ?_
    (try simp only [Act.put, Mqa, Mqb, Mqc])
    refine Man.t1 2 hHeld ?_
    (try simp only [Act.put, Mqa, Mqb, Mqc])
    refine Man.t1 3 hHeld ?_
    (try simp only [Act.put, Mqa, Mqb, Mqc])
    refine Man.t1 4 hHeld ?_
    (try simp only [Act.put, Mqa, Mqb, Mqc])
    refine Man.one (i := 5) rfl (by kernel_rfl) (fun K9 hK => ?_)
    go_simp
    with_reducible refine (change_any T2.out.s q i HP.out.hq (HP.out.hy HAT.out) (by have := HL.out; omega) ⟨x.k, x.s, e9, x.id⟩).mono ?_
    rintro e w8 ⟨rfl, hm⟩
    have HC := hide (show ChgX PX R wn F 0 (clo (its Bs) k s e9) w (.returned (.int .i64 0)) w8 from HKP.out.2 0 _ _ w8 (hm.pre T2.out.l) (clo_done HS.out HU.out HP.out HAT.out e9 x HX.out HXK.out HXS.out _ _).1 (clo_done HS.out HU.out HP.out HAT.out e9 x HX.out HXK.out HXS.out _ _).2)
    obtain ⟨_, _, hO, _⟩ := hm
    have P8 := T2.out.p.kept hO.size (hO.block _ T2.out.p.lt HNP.out)
    have X8 := XC.out.kept hO.size (hO.block _ XC.out.lt PN.out.1)
    clear hO
    refine hK.out _ _ ⟨P8.c0, P8.c1, X8.c0, X8.c1, X8.c2, X8.c3⟩ (fun hNew => ?_)
    clear P8 X8
    clear hK K9 hHeld
    have hHeld := hNew
    clear hNew
    (try simp only [Act.put, Mqa, Mqb, Mqc])
    refine wpAnyH_done (by kernel_rfl) ?_ _
    go_wp2_with fail
    go_ret
    exact HC.out
  · go_simp
    have PB := hide (show Bw zeroIt w6.heap.size (w6.alloc (.cells #[.string ⟨#[]⟩, .int .i64 0, .int .i64 0, .int .i64 0] 31)) from Bw.new w6 zeroIt 31 rfl)
    have PN := hide (show ¬ fp R Bs v w6.heap.size ∧ w.heap.size ≤ w6.heap.size ∧ w1.heap.size ≠ w6.heap.size from ⟨fun e9 => by have := T0.out.s.fl _ e9; omega, T0.out.l.size, by have := T0.out.p.lt; omega⟩)
    replace T0 := hide (T0.out.later (below_alloc w6 (.cells #[.string ⟨#[]⟩, .int .i64 0, .int .i64 0, .int .i64 0] 31)))
    obtain ⟨ib, hib⟩ : ∃ ib, ib = w6.heap.size := ⟨_, rfl⟩
    rw [← hib] at PB PN ⊢
    obtain ⟨w5, hw5⟩ : ∃ w5, w5 = w6.alloc (.cells #[.string ⟨#[]⟩, .int .i64 0, .int .i64 0, .int .i64 0] 31) := ⟨_, rfl⟩
    rw [← hw5] at T0 PB ⊢
    clear hib hw5
    refine hK.out _ _ T0.out.ob (fun hNew => ?_)
    clear hK K
    have hHeld := hNew
    clear hNew
    (try simp only [Act.put, Mqa, Mqb, Mqc])
    refine Man.one (i := 4) rfl (by kernel_rfl) (fun K hK => ?_)
    go_simp
    with_reducible refine (CA.out _ T0.out.s).mono ?_
    rintro e w2 ⟨rfl, hb⟩
    replace PB := hide (PB.out.later hb)
    replace T0 := hide (T0.out.later hb)
    clear hb
    refine hK.out _ _ T0.out.ob (fun hNew => ?_)
    clear hK K
    have hHeld := hNew
    clear hNew
    (try simp only [Act.put, Mqa, Mqb, Mqc])
    refine Man.one (i := 6) rfl (by kernel_rfl) (fun K hK => ?_)
    obtain ⟨p0, p1, p2, p3, _⟩ := PB.out.toBx
    have z0 := PB.out.z 0
    have z1 := PB.out.z 1
    have z2 := PB.out.z 2
    have z3 := PB.out.z 3
    go_simp
    have T1 := hide ((((T0.out.set (p := ⟨ib, 0, none⟩) PN.out.2.1 PN.out.2.2 PN.out.1 (.string (S x.k))).set (p := ⟨ib, 1, none⟩) PN.out.2.1 PN.out.2.2 PN.out.1 (.int .i64 x.s)).set (p := ⟨ib, 2, none⟩) PN.out.2.1 PN.out.2.2 PN.out.1 (.int .i64 x.e)).set (p := ⟨ib, 3, none⟩) PN.out.2.1 PN.out.2.2 PN.out.1 (.int .i64 x.id))
    have XB := hide (PB.out.set x)
    clear p0 p1 p2 p3 z0 z1 z2 z3 T0 PB
    refine hK.out _ _ T1.out.ob (fun hNew => ?_)
    clear hK K
    have hHeld := hNew
    clear hNew
    (try simp only [Act.put, Mqa, Mqb, Mqc])
    refine wpAnyH_done (by kernel_rfl) ?_ _
    obtain ⟨x0, x1, x2, x3, _⟩ := XB.out.toBx
    have z2 := XB.out.z 2
    go_wp2_with fail
    obtain ⟨wx, hwx⟩ : ∃ wx, wx = ((((w2.setCell ⟨ib, 0, none⟩ (.string (S x.k))).setCell ⟨ib, 1, none⟩ (.int .i64 x.s)).setCell ⟨ib, 2, none⟩ (.int .i64 x.e)).setCell ⟨ib, 3, none⟩ (.int .i64 x.id)).setCell ⟨ib, 2, none⟩ (.int .i64 e9) := ⟨_, rfl⟩
    have T2 := hide (show Zp R wn Bs v q i w1.heap.size w wx from by rw [hwx]; exact T1.out.set (p := ⟨ib, 2, none⟩) PN.out.2.1 PN.out.2.2 PN.out.1 (.int .i64 e9))
    have XC := hide (show Bx ⟨x.k, x.s, e9, x.id⟩ ib wx from by rw [hwx]; exact ⟨cell_set_other (.inr (by decide)) x0, cell_set_other (.inr (by decide)) x1, cell_set_same (u := .int .i64 e9) x2, cell_set_other (.inr (by decide)) x3, by simpa using XB.out.toBx.lt⟩)
    rw [← hwx]
    clear x0 x1 x2 x3 z2 hHeld hwx T1 XB
    have HS7 := hide (show wx.drew.cell? ⟨w1.heap.size, 0, none⟩ = some (.int .i64 q) ∧ wx.drew.cell? ⟨w1.heap.size, 1, none⟩ = some (.int .i64 i) ∧ wx.drew.cell? ⟨ib, 0, none⟩ = some (.string (S x.k)) ∧ wx.drew.cell? ⟨ib, 1, none⟩ = some (.int .i64 x.s) ∧ wx.drew.cell? ⟨ib, 2, none⟩ = some (.int .i64 e9) ∧ wx.drew.cell? ⟨ib, 3, none⟩ = some (.int .i64 x.id) from ⟨T2.out.p.c0, T2.out.p.c1, XC.out.c0, XC.out.c1, XC.out.c2, XC.out.c3⟩)
    refine wp_region_held_drew (S := fun u => u.cell? ⟨w1.heap.size, 0, none⟩ = some (.int .i64 q) ∧ u.cell? ⟨w1.heap.size, 1, none⟩ = some (.int .i64 i) ∧ u.cell? ⟨ib, 0, none⟩ = some (.string (S x.k)) ∧ u.cell? ⟨ib, 1, none⟩ = some (.int .i64 x.s) ∧ u.cell? ⟨ib, 2, none⟩ = some (.int .i64 e9) ∧ u.cell? ⟨ib, 3, none⟩ = some (.int .i64 x.id)) (by kernel_rfl) HS7.out (fun hHeld => ?_)
    obtain ⟨w7, hw7⟩ : ∃ w7, w7 = wx.drew := ⟨_, rfl⟩
    replace T2 := hide (show Zp R wn Bs v q i w1.heap.size w w7 from by rw [hw7]; exact T2.out.later (Below.refl _ _).drew)
    replace XC := hide (show Bx ⟨x.k, x.s, e9, x.id⟩ ib w7 from by rw [hw7]; exact XC.out.later (Below.refl _ _).drew XC.out.lt)
    rw [← hw7] at hHeld ⊢
    clear hw7 HS7
    refine Man.t1 0 hHeld ?_
    (try simp only [Act.put, Mqa, Mqb, Mqc])
    refine Man.t1 1 hHeld ?_
    (try simp only [Act.put, Mqa, Mqb, Mqc])
    refine Man.t1 2 hHeld ?_
    (try simp only [Act.put, Mqa, Mqb, Mqc])
    refine Man.t1 3 hHeld ?_
    (try simp only [Act.put, Mqa, Mqb, Mqc])
    refine Man.t1 4 hHeld ?_
    (try simp only [Act.put, Mqa, Mqb, Mqc])
    refine Man.one (i := 5) rfl (by kernel_rfl) (fun K9 hK => ?_)
    go_simp
    with_reducible refine (change_any T2.out.s q i HP.out.hq (HP.out.hy HAT.out) (by have := HL.out; omega) ⟨x.k, x.s, e9, x.id⟩).mono ?_
    rintro e w8 ⟨rfl, hm⟩
    have HC := hide (show ChgX PX R wn F 0 (clo (its Bs) k s e9) w (.returned (.int .i64 0)) w8 from HKP.out.2 0 _ _ w8 (hm.pre T2.out.l) (clo_done HS.out HU.out HP.out HAT.out e9 x HX.out HXK.out HXS.out _ _).1 (clo_done HS.out HU.out HP.out HAT.out e9 x HX.out HXK.out HXS.out _ _).2)
    obtain ⟨_, _, hO, _⟩ := hm
    have P8 := T2.out.p.kept hO.size (hO.block _ T2.out.p.lt HNP.out)
    have X8 := XC.out.kept hO.size (hO.block _ XC.out.lt PN.out.1)
    clear hO
    refine hK.out _ _ ⟨P8.c0, P8.c1, X8.c0, X8.c1, X8.c2, X8.c3⟩ (fun hNew => ?_)
    clear P8 X8
    clear hK K9 hHeld
    have hHeld := hNew
    clear hNew
    (try simp only [Act.put, Mqa, Mqb, Mqc])
    refine wpAnyH_done (by kernel_rfl) ?_ _
    go_wp2_with fail
    go_ret
    exact HC.out
end Idx
end Go.Proofs.Ytapdhelioecneaa
