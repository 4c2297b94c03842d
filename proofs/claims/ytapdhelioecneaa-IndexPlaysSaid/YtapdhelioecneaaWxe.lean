/- Get. Condition: less than a thousand items. -/
import Derived.Test.YtapdhelioecneaaWx
namespace Go.Proofs.Ytapdhelioecneaa
open Go.RowKit
attribute [local go_sem] Oper.semAt_some
namespace Idx
set_option maxHeartbeats 2000000 in
set_option maxRecDepth 100000 in
theorem close_none {R wn : Nat} {F : Nat → Prop} {Bs : List Bkm} {v : Value} {w : World} (h : St R wn Bs v w) (hs : Siz wn Bs) (hF : ∀ k, fp R Bs v k → F k) (hf : ∀ k, F k → k < w.heap.size) (hu : Up (its Bs)) (hl : (its Bs).length ≤ 998) (k : List UInt8) (s e9 : Int) (hat : isAt (its Bs) k s = false) :
    Calls Try.prog 14 #[.pointer (some ⟨R, 0, none⟩), .string (S k), .int .i64 s, .int .i64 e9] w fun e w' => ChgX PX R wn F (cloC (its Bs) k s e9) (cloL (its Bs) k s e9) w e w' := by
  have CP := hide (place_any h hu (by omega) k s)
  have HKP := hide (show ∀ c w', Below w.heap.size w w' → ChgX PX R wn F c (its Bs) w (.returned (.int .i64 c)) w' from fun c w' hb => chg_same h hs hF hf hb)
  have HAT := hide hat
  have HE := hide (show cloC (its Bs) k s e9 = 4 ∧ cloL (its Bs) k s e9 = its Bs from by
    have hcc : cloC (its Bs) k s e9 = 4 := by unfold cloC getI; rw [hat]; rfl
    exact ⟨hcc, by unfold cloL; rw [hcc]; rfl⟩)
  rw [HE.out.1, HE.out.2]
  clear h hs hF hf hu hl hat HE
  go_enter Try.func14, Try.ntmps14
  go_wp2_with fail
  refine CP.out.mono ?_
  rintro e w1 ⟨_, h2, hb⟩
  have h3 := h2 HAT.out
  subst h3
  have HB := hide (hb.trans ((below_alloc w1 (.cells #[.int .i64 0, .int .i64 0] 74)).mono hb.size))
  clear h2 hb CP
  go_wp2_with fail
  go_ret
  exact HKP.out 4 _ HB.out
set_option maxHeartbeats 2000000 in
set_option maxRecDepth 100000 in
theorem get_any {R wn : Nat} {Bs : List Bkm} {v : Value} {w : World} (h : St R wn Bs v w) (hu : Up (its Bs)) (hkb : Kb (its Bs)) (hl : (its Bs).length ≤ 998) (k : List UInt8) (s : Int) :
    Calls Try.prog 24 #[.pointer (some ⟨R, 0, none⟩), .string (S k), .int .i64 s] w fun e w' => GetP (getI (its Bs) k s) w e w' := by
  obtain ⟨w0, hw0⟩ : ∃ w0, w0 = w.alloc (.cells #[.string ⟨#[]⟩, .int .i64 0, .int .i64 0, .int .i64 0] 31) := ⟨_, rfl⟩
  have hb0 : Below w.heap.size w w0 := by rw [hw0]; exact below_alloc _ _
  have HST := hide (h.later hb0 (Nat.le_refl _))
  have CP := hide (place_any HST.out hu (by omega) k s)
  have HB0 := hide hb0
  have HZ := hide (show Bw zeroIt w.heap.size w0 from by rw [hw0]; exact Bw.new w zeroIt 31 rfl)
  have HW0 := hide hw0
  have HNR := hide (show ¬ fp R Bs v w.heap.size from fun e9 => by have := h.fl _ e9; omega)
  have HKB := hide hkb
  clear h hu hkb hl hw0 hb0
  cases hat : isAt (its Bs) k s with
  | false =>
    have HAT := hide hat
    have HE := hide (show getI (its Bs) k s = none from by unfold getI; rw [hat]; rfl)
    rw [HE.out]
    clear hat HE
    go_enter Try.func24, Try.ntmps24
    go_wp2_with fail
    rw [← HW0.out]
    refine CP.out.mono ?_
    rintro e w1 ⟨_, h2, hb⟩
    have h3 := h2 HAT.out
    subst h3
    have hq := below_alloc w1 (.cells #[.int .i64 0, .int .i64 0] 74)
    have ZB := hide ((HZ.out.later hb).later hq)
    have HB := hide (HB0.out.trans ((hb.mono HB0.out.size).trans (hq.mono (Nat.le_trans HB0.out.size hb.size))))
    obtain ⟨c0, c1, c2, c3, _⟩ := ZB.out.toBx
    have z0 := ZB.out.z 0
    have z1 := ZB.out.z 1
    have z2 := ZB.out.z 2
    have z3 := ZB.out.z 3
    clear h2 hb CP hq
    go_wp2_with fail
    refine bodyPost_ret (results_cell_tmp rfl _ _ rfl (load_itX (ZB.out.set zeroIt).toBx)) rfl ?_
    exact ⟨rfl, (((HB.out.setCell (p := ⟨w.heap.size, 0, none⟩) (Nat.le_refl _) _).setCell (p := ⟨w.heap.size, 1, none⟩) (Nat.le_refl _) _).setCell (p := ⟨w.heap.size, 2, none⟩) (Nat.le_refl _) _).setCell (p := ⟨w.heap.size, 3, none⟩) (Nat.le_refl _) _⟩
  | true =>
    have HAT := hide hat
    clear hat
    go_enter Try.func24, Try.ntmps24
    go_wp2_with fail
    rw [← HW0.out]
    refine CP.out.mono ?_
    rintro e w1 ⟨h1, _, hb⟩
    obtain ⟨q, i, rfl, hp⟩ := h1 HAT.out
    obtain ⟨x, hi, hx, hxk, hxs, hg⟩ := clo_found hp HAT.out
    have HG := hide hg
    have HKX := hide (HKB.out x (by rw [hx]; exact mem_its.2 ⟨_, List.getElem_mem hp.hq, List.getElem_mem hi⟩))
    have hq := below_alloc w1 (.cells #[.int .i64 q, .int .i64 i] 74)
    have CA := hide (show ∀ u : World, St R wn Bs v u → Calls Try.prog 39 #[.pointer (some ⟨R, 1, none⟩), .agg #[.int .i64 q, .int .i64 i]] u fun e w' => e = .returned (.agg #[.string (S x.k), .int .i64 x.s, .int .i64 x.e, .int .i64 x.id]) ∧ Below u.heap.size u w' from fun u hz => by have h9 := at_any hz q i hp.hq hi; rw [← hx] at h9; exact h9)
    have T0 := hide (show Zp R wn Bs v q i w1.heap.size w (w1.alloc (.cells #[.int .i64 q, .int .i64 i] 74)).drew from (show Zp R wn Bs v q i w1.heap.size w (w1.alloc (.cells #[.int .i64 q, .int .i64 i] 74)) from ⟨(HST.out.later hb (Nat.le_refl _)).later hq (Nat.le_refl _), B2.new w1 _ _ 74 rfl, HB0.out.trans ((hb.mono HB0.out.size).trans (hq.mono (Nat.le_trans HB0.out.size hb.size)))⟩).later (Below.refl _ _).drew)
    have ZB := hide (show Bw zeroIt w.heap.size (w1.alloc (.cells #[.int .i64 q, .int .i64 i] 74)).drew from ((HZ.out.later hb).later hq).later (Below.refl _ _).drew)
    have HNE := hide (show w1.heap.size ≠ w.heap.size from by have := hb.size; have := HZ.out.lt; omega)
    clear h1 hb CP hq hp hx hxk hxs hg hi
    go_wp2_with fail
    refine wp_region_held_drew (S := fun u => u.cell? ⟨w1.heap.size, 0, none⟩ = some (.int .i64 q) ∧ u.cell? ⟨w1.heap.size, 1, none⟩ = some (.int .i64 i)) (by kernel_rfl) T0.out.ob (fun hHeld => ?_)
    obtain ⟨w6, hw6⟩ : ∃ w6, w6 = (w1.alloc (.cells #[.int .i64 q, .int .i64 i] 74)).drew := ⟨_, rfl⟩
    rw [← hw6] at hHeld T0 ZB ⊢
    clear hw6
    refine Man.t1 0 hHeld ?_
    (try simp only [Act.put, Mqa, Mqb, Mqc])
    refine Man.t1 1 hHeld ?_
    (try simp only [Act.put, Mqa, Mqb, Mqc])
    refine Man.t1 2 hHeld ?_
    (try simp only [Act.put, Mqa, Mqb, Mqc])
    refine Man.t1 3 hHeld ?_
    (try simp only [Act.put, Mqa, Mqb, Mqc])
    refine Man.one (i := 4) rfl (by kernel_rfl) (fun K9 hK => ?_)
    go_simp
    with_reducible refine (CA.out _ T0.out.s).mono ?_
    rintro e w2 ⟨rfl, hb⟩
    replace ZB := hide (ZB.out.later hb)
    replace T0 := hide (T0.out.later hb)
    clear hb
    refine hK.out _ _ T0.out.ob (fun hNew => ?_)
    clear hK K9 hHeld
    have hHeld := hNew
    clear hNew
    (try simp only [Act.put, Mqa, Mqb, Mqc])
    refine Man.one (i := 5) rfl (by kernel_rfl) (fun K9 hK => ?_)
    go_simp
    with_reducible refine (copied_any x HKX.out _).mono ?_
    rintro e w3 ⟨rfl, hb⟩
    replace ZB := hide (ZB.out.later hb)
    replace T0 := hide (T0.out.later hb)
    clear hb
    refine hK.out _ _ T0.out.ob (fun hNew => ?_)
    clear hK K9 hHeld
    have hHeld := hNew
    clear hNew
    (try simp only [Act.put, Mqa, Mqb, Mqc])
    refine Man.one (i := 6) rfl (by kernel_rfl) (fun K9 hK => ?_)
    obtain ⟨c0, c1, c2, c3, _⟩ := ZB.out.toBx
    have z0 := ZB.out.z 0
    have z1 := ZB.out.z 1
    have z2 := ZB.out.z 2
    have z3 := ZB.out.z 3
    go_simp
    have T1 := hide ((((T0.out.set (p := ⟨w.heap.size, 0, none⟩) (Nat.le_refl _) HNE.out HNR.out (.string (S x.k))).set (p := ⟨w.heap.size, 1, none⟩) (Nat.le_refl _) HNE.out HNR.out (.int .i64 x.s)).set (p := ⟨w.heap.size, 2, none⟩) (Nat.le_refl _) HNE.out HNR.out (.int .i64 x.e)).set (p := ⟨w.heap.size, 3, none⟩) (Nat.le_refl _) HNE.out HNR.out (.int .i64 x.id))
    clear c0 c1 c2 c3 z0 z1 z2 z3
    refine hK.out _ _ T1.out.ob (fun hNew => ?_)
    clear hK K9 hHeld
    have hHeld := hNew
    clear hNew
    (try simp only [Act.put, Mqa, Mqb, Mqc])
    refine Man.t1 7 hHeld ?_
    (try simp only [Act.put, Mqa, Mqb, Mqc])
    refine wpAnyH_done (by kernel_rfl) ?_ _
    go_wp2_with fail
    refine bodyPost_ret (results_cell_tmp rfl _ _ rfl (load_itX (ZB.out.set x).toBx)) rfl ?_
    exact ⟨by rw [HG.out]; rfl, T1.out.l⟩
end Idx
end Go.Proofs.Ytapdhelioecneaa
