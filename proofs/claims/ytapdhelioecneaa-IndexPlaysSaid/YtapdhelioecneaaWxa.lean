/- Close: state. Condition: less than a thousand items. -/
import Derived.Test.YtapdhelioecneaaWx
namespace Go.Proofs.Ytapdhelioecneaa
open Go.RowKit
attribute [local go_sem] Oper.semAt_some
namespace Idx
set_option maxHeartbeats 4000000 in
set_option maxRecDepth 100000 in
theorem close_state {R wn : Nat} {F : Nat → Prop} {Bs : List Bkm} {v : Value} {w : World} (h : St R wn Bs v w) (hs : Siz wn Bs) (hF : ∀ k, fp R Bs v k → F k) (hf : ∀ k, F k → k < w.heap.size) (hu : Up (its Bs)) (hl : (its Bs).length ≤ 998) (k : List UInt8) (s e9 : Int) (hat : isAt (its Bs) k s = true) (hc : ∀ x, getI (its Bs) k s = some x → x.s = s → x.e ≠ 1099511627776) :
    Calls Try.prog 14 #[.pointer (some ⟨R, 0, none⟩), .string (S k), .int .i64 s, .int .i64 e9] w fun e w' => ChgX PX R wn F (cloC (its Bs) k s e9) (cloL (its Bs) k s e9) w e w' := by
  have CP := hide (place_any h hu (by omega) k s)
  have HST := hide h
  have HKP := hide (show (∀ c w', Below w.heap.size w w' → ChgX PX R wn F c (its Bs) w (.returned (.int .i64 c)) w') ∧ ∀ c Bs' L' w', Mut R wn Bs v w Bs' w' → Siz wn Bs' → its Bs' = L' → ChgX PX R wn F c L' w (.returned (.int .i64 c)) w' from ⟨fun c w' hb => chg_same h hs hF hf hb, fun c Bs' L' w' hm h1 h2 => hm.chg hF hf h1 h2⟩)
  have HS := hide hs
  have HL := hide hl
  have HU := hide hu
  have HAT := hide hat
  have HCC := hide hc
  have HE := hide (show cloC (its Bs) k s e9 = 6 ∧ cloL (its Bs) k s e9 = its Bs from by
    have hcc : cloC (its Bs) k s e9 = 6 := by
      cases hg : getI (its Bs) k s with
      | none =>
        unfold getI at hg
        rw [if_pos hat] at hg
        obtain ⟨hp1, _⟩ := isAt_yes hat
        rw [List.getElem?_eq_getElem hp1] at hg; cases hg
      | some x =>
        obtain ⟨_, _, _, hxs⟩ := getI_some hg
        have h9 := hc x hg hxs
        unfold cloC
        rw [hg]
        show (if x.e ≠ 1099511627776 then (6 : Int) else if e9 ≤ s ∨ 1099511627776 ≤ e9 then 1 else 0) = 6
        rw [if_pos h9]
    exact ⟨hcc, by unfold cloL; rw [hcc]; rfl⟩)
  rw [HE.out.1, HE.out.2]
  clear h hs hF hf hu hl hat hc HE
  go_enter Try.func14, Try.ntmps14
  go_wp2_with fail
  refine CP.out.mono ?_
  rintro e w1 ⟨h1, _, hb⟩
  obtain ⟨q, i, rfl, hp⟩ := h1 HAT.out
  obtain ⟨x, hi, hx, hxk, hxs, hg⟩ := clo_found hp HAT.out
  have hcx := HCC.out x hg hxs
  have g1 : ¬ x.e = 1099511627776 := hcx
  have g2 : (x.e == 1099511627776) = false := by rw [beq_eq_false_iff_ne]; exact hcx
  have CA := hide (show ∀ u : World, St R wn Bs v u → Calls Try.prog 39 #[.pointer (some ⟨R, 1, none⟩), .agg #[.int .i64 q, .int .i64 i]] u fun e w' => e = .returned (.agg #[.string (S x.k), .int .i64 x.s, .int .i64 x.e, .int .i64 x.id]) ∧ Below u.heap.size u w' from fun u hz => by have h9 := at_any hz q i hp.hq hi; rw [← hx] at h9; exact h9)
  have HX := hide hx
  have HXK := hide hxk
  have HXS := hide hxs
  have T0 := hide (show Zp R wn Bs v q i w1.heap.size w (w1.alloc (.cells #[.int .i64 q, .int .i64 i] 74)) from ⟨(HST.out.later hb (Nat.le_refl _)).later (below_alloc _ _) (Nat.le_refl _), B2.new w1 _ _ 74 rfl, hb.trans ((below_alloc w1 _).mono hb.size)⟩)
  have HNP := hide (show ¬ fp R Bs v w1.heap.size from fun e9 => by have := HST.out.fl _ e9; have := hb.size; omega)
  have HP := hide hp
  clear h1 hb CP hx hxk hxs hg hcx HCC
  go_wp2_with fail
  refine wp_region_held_drew (S := fun u => u.cell? ⟨w1.heap.size, 0, none⟩ = some (.int .i64 q) ∧ u.cell? ⟨w1.heap.size, 1, none⟩ = some (.int .i64 i)) (by kernel_rfl) (T0.out.later (Below.refl _ _).drew).ob (fun hHeld => ?_)
  obtain ⟨w6, hw6⟩ : ∃ w6, w6 = (w1.alloc (.cells #[.int .i64 q, .int .i64 i] 74)).drew := ⟨_, rfl⟩
  replace T0 := hide (show Zp R wn Bs v q i w1.heap.size w w6 from by rw [hw6]; exact T0.out.later (Below.refl _ _).drew)
  rw [← hw6] at hHeld ⊢
  clear hw6
  refine Man.t1 0 hHeld ?_
  (try simp only [Act.put, Mqa, Mqb, Mqc])
  refine Man.t1 1 hHeld ?_
  (try simp only [Act.put, Mqa, Mqb, Mqc])
  refine Man.t1 2 hHeld ?_
  (try simp only [Act.put, Mqa, Mqb, Mqc])
  refine Man.t1 3 hHeld ?_
  (try simp only [Act.put, Mqa, Mqb, Mqc])
  refine Man.two (i := 4) (j := 5) rfl rfl (by kernel_rfl) (fun K hK => ?_) (fun K hK => ?_)
  · go_simp
    with_reducible refine (CA.out _ T0.out.s).mono ?_
    rintro e w2 ⟨rfl, hb⟩
    replace T0 := hide (T0.out.later hb)
    clear hb
    refine hK.out _ _ T0.out.ob (fun hNew => ?_)
    clear hK K
    have hHeld := hNew
    clear hNew
    (try simp only [Act.put, Mqa, Mqb, Mqc])
    refine Man.one (i := 5) rfl (by kernel_rfl) (fun K hK => ?_)
    go_simp
    have PB := hide (show Bw zeroIt w2.heap.size (w2.alloc (.cells #[.string ⟨#[]⟩, .int .i64 0, .int .i64 0, .int .i64 0] 31)) from Bw.new w2 zeroIt 31 rfl)
    have PN := hide (show ¬ fp R Bs v w2.heap.size ∧ w.heap.size ≤ w2.heap.size ∧ w1.heap.size ≠ w2.heap.size from ⟨fun e9 => by have := T0.out.s.fl _ e9; omega, T0.out.l.size, by have := T0.out.p.lt; omega⟩)
    replace T0 := hide (T0.out.later (below_alloc w2 (.cells #[.string ⟨#[]⟩, .int .i64 0, .int .i64 0, .int .i64 0] 31)))
    obtain ⟨ib, hib⟩ : ∃ ib, ib = w2.heap.size := ⟨_, rfl⟩
    rw [← hib] at PB PN ⊢
    obtain ⟨w5, hw5⟩ : ∃ w5, w5 = w2.alloc (.cells #[.string ⟨#[]⟩, .int .i64 0, .int .i64 0, .int .i64 0] 31) := ⟨_, rfl⟩
    rw [← hw5] at T0 PB ⊢
    clear hib hw5
    refine hK.out _ _ T0.out.ob (fun hNew => ?_)
    clear hK K
    have hHeld := hNew
    clear hNew
    (try simp only [Act.put, Mqa, Mqb, Mqc])
    refine Man.one (i := 6) rfl (by kernel_rfl) (fun K hK => ?_)
    obtain ⟨p0, p1, p2, p3, _⟩ := PB.out.toBx
    have z0 := PB.out.z 0
    have z1 := PB.out.z 1
    have z2 := PB.out.z 2
    have z3 := PB.out.z 3
    go_simp
    have T1 := hide ((((T0.out.set (p := ⟨ib, 0, none⟩) PN.out.2.1 PN.out.2.2 PN.out.1 (.string (S x.k))).set (p := ⟨ib, 1, none⟩) PN.out.2.1 PN.out.2.2 PN.out.1 (.int .i64 x.s)).set (p := ⟨ib, 2, none⟩) PN.out.2.1 PN.out.2.2 PN.out.1 (.int .i64 x.e)).set (p := ⟨ib, 3, none⟩) PN.out.2.1 PN.out.2.2 PN.out.1 (.int .i64 x.id))
    have XB := hide (PB.out.set x)
    clear p0 p1 p2 p3 z0 z1 z2 z3 T0 PB
    refine hK.out _ _ T1.out.ob (fun hNew => ?_)
    clear hK K
    have hHeld := hNew
    clear hNew
    (try simp only [Act.put, Mqa, Mqb, Mqc])
    refine wpAnyH_done (by kernel_rfl) ?_ _
    obtain ⟨x0, x1, x2, x3, _⟩ := XB.out.toBx
    go_wp2_with fail
    go_ret
    exact HKP.out.1 6 _ T1.out.l
  · go_simp
    have PB := hide (show Bw zeroIt w6.heap.size (w6.alloc (.cells #[.string ⟨#[]⟩, .int .i64 0, .int .i64 0, .int .i64 0] 31)) from Bw.new w6 zeroIt 31 rfl)
    have PN := hide (show ¬ fp R Bs v w6.heap.size ∧ w.heap.size ≤ w6.heap.size ∧ w1.heap.size ≠ w6.heap.size from ⟨fun e9 => by have := T0.out.s.fl _ e9; omega, T0.out.l.size, by have := T0.out.p.lt; omega⟩)
    replace T0 := hide (T0.out.later (below_alloc w6 (.cells #[.string ⟨#[]⟩, .int .i64 0, .int .i64 0, .int .i64 0] 31)))
    obtain ⟨ib, hib⟩ : ∃ ib, ib = w6.heap.size := ⟨_, rfl⟩
    rw [← hib] at PB PN ⊢
    obtain ⟨w5, hw5⟩ : ∃ w5, w5 = w6.alloc (.cells #[.string ⟨#[]⟩, .int .i64 0, .int .i64 0, .int .i64 0] 31) := ⟨_, rfl⟩
    rw [← hw5] at T0 PB ⊢
    clear hib hw5
    refine hK.out _ _ T0.out.ob (fun hNew => ?_)
    clear hK K
    have hHeld := hNew
    clear hNew
    (try simp only [Act.put, Mqa, Mqb, Mqc])
    refine Man.one (i := 4) rfl (by kernel_rfl) (fun K hK => ?_)
    go_simp
    with_reducible refine (CA.out _ T0.out.s).mono ?_
    rintro e w2 ⟨rfl, hb⟩
    replace PB := hide (PB.out.later hb)
    replace T0 := hide (T0.out.later hb)
    clear hb
    refine hK.out _ _ T0.out.ob (fun hNew => ?_)
    clear hK K
    have hHeld := hNew
    clear hNew
    (try simp only [Act.put, Mqa, Mqb, Mqc])
    refine Man.one (i := 6) rfl (by kernel_rfl) (fun K hK => ?_)
    obtain ⟨p0, p1, p2, p3, _⟩ := PB.out.toBx
    have z0 := PB.out.z 0
    have z1 := PB.out.z 1
    have z2 := PB.out.z 2
    have z3 := PB.out.z 3
    go_simp
    have T1 := hide ((((T0.out.set (p := ⟨ib, 0, none⟩) PN.out.2.1 PN.out.2.2 PN.out.1 (.string (S x.k))).set (p := ⟨ib, 1, none⟩) PN.out.2.1 PN.out.2.2 PN.out.1 (.int .i64 x.s)).set (p := ⟨ib, 2, none⟩) PN.out.2.1 PN.out.2.2 PN.out.1 (.int .i64 x.e)).set (p := ⟨ib, 3, none⟩) PN.out.2.1 PN.out.2.2 PN.out.1 (.int .i64 x.id))
    have XB := hide (PB.out.set x)
    clear p0 p1 p2 p3 z0 z1 z2 z3 T0 PB
    refine hK.out _ _ T1.out.ob (fun hNew => ?_)
    clear hK K
    have hHeld := hNew
    clear hNew
    (try simp only [Act.put, Mqa, Mqb, Mqc])
    refine wpAnyH_done (by kernel_rfl) ?_ _
    obtain ⟨x0, x1, x2, x3, _⟩ := XB.out.toBx
    go_wp2_with fail
    go_ret
    exact HKP.out.1 6 _ T1.out.l
end Idx
end Go.Proofs.Ytapdhelioecneaa
