/- PeriodApart walked, given what the program's functions do. Condition: as each says. -/
import Derived.Test.YtoacombaddknfaaOp
namespace Go.Proofs.Ytoacombaddknfaa
open Go.RowKit
namespace Prd
open Spn (Sp hide At below_alloc Right rcut Has Meets mid)
open Cod (V RowAt)
theorem put_swap {l : List (Sp × List V)} (h : Ok Good l) {a b : Sp} {r q : List V} (hn : ¬ Meets a b) : putP (putP l a r) b q = putP (putP l b q) a r := by
  have no : ∀ {s : Sp} {r : List V} (l), ¬ (Right s ∧ Good r) → putP l s r = l := fun l hc => if_neg fun h9 => hc h9.2
  by_cases ha : Right a ∧ Good r
  · by_cases hb : Right b ∧ Good q
    · have e1 : putP l a r = lay (away l a) (a, r) := if_pos ⟨h, ha.1, ha.2⟩
      have e2 : putP l b q = lay (away l b) (b, q) := if_pos ⟨h, hb.1, hb.2⟩
      have h1 := (put_right h a r).1
      have h2 := (put_right h b q).1
      rw [e1] at h1 ⊢
      rw [e2] at h2 ⊢
      have e3 : putP (lay (away l a) (a, r)) b q = _ := if_pos ⟨h1, hb.1, hb.2⟩
      have e4 : putP (lay (away l b) (b, q)) a r = _ := if_pos ⟨h2, ha.1, ha.2⟩
      rw [e3, e4]
      exact put_apart h ha.1 hb.1 ha.2 hb.2 hn
    · rw [no _ hb, no _ hb]
  · rw [no _ ha, no _ ha]
set_option maxHeartbeats 8000000 in
set_option maxRecDepth 100000 in
theorem apart_walk (hP : PutC) (hD : DropC) (hS : SameC) (hK : KnownC) {os : List Opv} {sv : Value} {w : World} (h : OpsAt os sv w) (hr : OpRows os w) (hi : ∀ o, o ∈ os → o.x.inn) (o p : Opv) (hor : RowAt o.x.r o.x.sl w) (hoi : o.x.inn) (hpr : RowAt p.x.r p.x.sl w) (hpi : p.x.inn) :
    Calls Try.prog 9 #[sv, .agg #[.bool o.d, .int .i64 o.x.s.1, .int .i64 o.x.s.2, .slice o.x.ro o.x.r.length o.x.rc], .agg #[.bool p.d, .int .i64 p.x.s.1, .int .i64 p.x.s.2, .slice p.x.ro p.x.r.length p.x.rc]] w fun x w' => x = .returned (.bool true) ∧ Below w.heap.size w w' := by
  obtain ⟨w0, hw0⟩ : ∃ w0, w0 = (w.alloc (.cells #[.bool o.d, .int .i64 o.x.s.1, .int .i64 o.x.s.2, .slice o.x.ro o.x.r.length o.x.rc] 27)).alloc (.cells #[.bool p.d, .int .i64 p.x.s.1, .int .i64 p.x.s.2, .slice p.x.ro p.x.r.length p.x.rc] 27) := ⟨_, rfl⟩
  have HB0 := hide (show Below w.heap.size w w0 from by rw [hw0]; exact (below_alloc w _).alloc (by simp) _)
  have HO0 := hide (show Ob o w.heap.size w0 from by rw [hw0]; exact ⟨by go_keep, by go_keep, by go_keep, by go_keep, by simp; omega⟩)
  have HQ0 := hide (show Ob p (w.heap.size + 1) w0 from by rw [hw0]; exact ⟨by go_keep, by go_keep, by go_keep, by go_keep, by simp⟩)
  have CB := hide (show ∀ u, Below w.heap.size w u → _ from fun u hu => build_any hP hD (h.later hu (Nat.le_refl _)) (hr.later hu) hi)
  have HOR := hide (show ∀ u, Below w.heap.size w u → RowAt o.x.r o.x.sl u from fun u hu => hor.later hu)
  have HPR := hide (show ∀ u, Below w.heap.size w u → RowAt p.x.r p.x.sl u from fun u hu => hpr.later hu)
  have HOI := hide hoi.r
  have HPI := hide hpi.r
  have HP := hide hP
  have HS := hide hS
  have HK := hide hK
  have HW0 := hide hw0
  obtain ⟨so, sc, rfl, _, _⟩ := h.form
  obtain ⟨j0, j1, j2, j3, _⟩ := HO0.out
  obtain ⟨q0, q1, q2, q3, _⟩ := HQ0.out
  clear hP hD hS hK h hr hi hor hoi hpr hpi hw0
  by_cases hm : Meets (o.x.s.1, o.x.s.2) (p.x.s.1, p.x.s.2)
  · have CM := hide (Spn.rmeet_y hm)
    obtain ⟨m1, m2, hmm⟩ : ∃ m1 m2, mid (o.x.s.1, o.x.s.2) (p.x.s.1, p.x.s.2) = (m1, m2) := ⟨_, _, rfl⟩
    rw [hmm] at CM
    clear hm hmm
    go_enter Try.func9, Try.ntmps9
    go_wp2_with fail
    rw [← HW0.out]
    refine (CM.out w0).mono ?_
    rintro e w1 ⟨rfl, hb⟩
    have hba := hb.trans ((below_alloc w1 (.cells #[.int .i64 m1, .int .i64 m2] 24)).mono hb.size)
    have HB1 := hide (HB0.out.trans (hba.mono HB0.out.size))
    have HO1 := hide (HO0.out.later hba HO0.out.lt)
    have HQ1 := hide (HQ0.out.later hba HQ0.out.lt)
    clear j0 j1 j2 j3 q0 q1 q2 q3
    obtain ⟨wa, hwa⟩ : ∃ wa, wa = w1.alloc (.cells #[.int .i64 m1, .int .i64 m2] 24) := ⟨_, rfl⟩
    have HWA := hide hwa
    rw [← hwa] at HB1 HO1 HQ1
    obtain ⟨j0, j1, j2, j3, _⟩ := HO1.out
    obtain ⟨q0, q1, q2, q3, _⟩ := HQ1.out
    clear hwa hb hba
    go_upto_region 2 with fail
    rw [← HWA.out]
    have C1 := hide (HK.out wa)
    go_wp2_with fail
    refine C1.out.mono ?_
    rintro e w2 ⟨rfl, hb⟩
    have HB2 := hide (HB1.out.trans (hb.mono HB1.out.size))
    clear hb
    go_wp2_with fail
    go_ret
    exact ⟨rfl, HB2.out⟩
  · have CM := hide (Spn.rmeet_n hm)
    have HNM := hide hm
    clear hm
    by_cases ho : 20 < o.x.r.length
    · have g3 : (20 : Int) < (o.x.r.length : Int) := by omega
      clear ho
      go_enter Try.func9, Try.ntmps9
      go_wp2_with fail
      rw [← HW0.out]
      refine (CM.out w0).mono ?_
      rintro e w1 ⟨rfl, hb⟩
      have hba := hb.trans ((below_alloc w1 (.cells #[.int .i64 0, .int .i64 0] 24)).mono hb.size)
      have HB1 := hide (HB0.out.trans (hba.mono HB0.out.size))
      have HO1 := hide (HO0.out.later hba HO0.out.lt)
      have HQ1 := hide (HQ0.out.later hba HQ0.out.lt)
      clear j0 j1 j2 j3 q0 q1 q2 q3
      obtain ⟨wa, hwa⟩ : ∃ wa, wa = w1.alloc (.cells #[.int .i64 0, .int .i64 0] 24) := ⟨_, rfl⟩
      have HWA := hide hwa
      rw [← hwa] at HB1 HO1 HQ1
      obtain ⟨j0, j1, j2, j3, _⟩ := HO1.out
      obtain ⟨q0, q1, q2, q3, _⟩ := HQ1.out
      clear hwa hb hba
      go_upto_region 2 with fail
      rw [← HWA.out]
      have C1 := hide (HK.out wa)
      go_wp2_with fail
      refine C1.out.mono ?_
      rintro e w2 ⟨rfl, hb⟩
      have HB2 := hide (HB1.out.trans (hb.mono HB1.out.size))
      clear hb
      go_wp2_with fail
      go_ret
      exact ⟨rfl, HB2.out⟩
    · have g3 : ¬ (20 : Int) < (o.x.r.length : Int) := by omega
      have HOL := hide (show o.x.r.length ≤ 1000000 from by omega)
      clear ho
      by_cases hp : 20 < p.x.r.length
      · have g4 : (20 : Int) < (p.x.r.length : Int) := by omega
        clear hp
        go_enter Try.func9, Try.ntmps9
        go_wp2_with fail
        rw [← HW0.out]
        refine (CM.out w0).mono ?_
        rintro e w1 ⟨rfl, hb⟩
        have hba := hb.trans ((below_alloc w1 (.cells #[.int .i64 0, .int .i64 0] 24)).mono hb.size)
        have HB1 := hide (HB0.out.trans (hba.mono HB0.out.size))
        have HO1 := hide (HO0.out.later hba HO0.out.lt)
        have HQ1 := hide (HQ0.out.later hba HQ0.out.lt)
        clear j0 j1 j2 j3 q0 q1 q2 q3
        obtain ⟨wa, hwa⟩ : ∃ wa, wa = w1.alloc (.cells #[.int .i64 0, .int .i64 0] 24) := ⟨_, rfl⟩
        have HWA := hide hwa
        rw [← hwa] at HB1 HO1 HQ1
        obtain ⟨j0, j1, j2, j3, _⟩ := HO1.out
        obtain ⟨q0, q1, q2, q3, _⟩ := HQ1.out
        clear hwa hb hba
        go_upto_region 2 with fail
        rw [← HWA.out]
        have C1 := hide (HK.out wa)
        go_wp2_with fail
        refine C1.out.mono ?_
        rintro e w2 ⟨rfl, hb⟩
        have HB2 := hide (HB1.out.trans (hb.mono HB1.out.size))
        clear hb
        go_wp2_with fail
        go_ret
        exact ⟨rfl, HB2.out⟩
      · have g4 : ¬ (20 : Int) < (p.x.r.length : Int) := by omega
        have HPL := hide (show p.x.r.length ≤ 1000000 from by omega)
        clear hp
        go_enter Try.func9, Try.ntmps9
        go_wp2_with fail
        rw [← HW0.out]
        refine (CM.out w0).mono ?_
        rintro e w1 ⟨rfl, hb⟩
        have hba := hb.trans ((below_alloc w1 (.cells #[.int .i64 0, .int .i64 0] 24)).mono hb.size)
        have HB1 := hide (HB0.out.trans (hba.mono HB0.out.size))
        have HO1 := hide (HO0.out.later hba HO0.out.lt)
        have HQ1 := hide (HQ0.out.later hba HQ0.out.lt)
        clear j0 j1 j2 j3 q0 q1 q2 q3
        obtain ⟨wa, hwa⟩ : ∃ wa, wa = w1.alloc (.cells #[.int .i64 0, .int .i64 0] 24) := ⟨_, rfl⟩
        have HWA := hide hwa
        rw [← hwa] at HB1 HO1 HQ1
        obtain ⟨j0, j1, j2, j3, _⟩ := HO1.out
        obtain ⟨q0, q1, q2, q3, _⟩ := HQ1.out
        clear hwa hb hba
        go_upto_region 2 with fail
        rw [← HWA.out]
        have C1 := hide (CB.out wa HB1.out)
        go_wp2_with fail
        refine C1.out.mono ?_
        rintro e w2 ⟨m, lv, rfl, h1, h2, h3, h4, h5, hb⟩
        have HB2 := hide (HB1.out.trans (hb.mono HB1.out.size))
        have HO2 := hide (HO1.out.later hb HO1.out.lt)
        have HQ2 := hide (HQ1.out.later hb HQ1.out.lt)
        have HM := hide (show ∀ u, Below w2.heap.size w2 u → PcsAt m lv u from fun u hu => h1.later hu (Nat.le_refl _))
        have HMR := hide (show ∀ u, Below w2.heap.size w2 u → Rows3 m u from fun u hu => h2.later hu)
        have HMS := hide h5
        have HML := hide h4
        have HOK := hide (show Ok Good (pcs m) from by rw [h3]; exact made_ok os)
        have HBW := hide (show ∀ u, Below w2.heap.size w2 u → Below w.heap.size w u from fun u hu => HB2.out.trans (hu.mono HB2.out.size))
        have CE := hide (show ∀ u : World, Below w2.heap.size w2 u → (u.cell? ⟨w.heap.size, 1, none⟩ = some (.int .i64 o.x.s.1) ∧ u.cell? ⟨w.heap.size, 2, none⟩ = some (.int .i64 o.x.s.2) ∧ u.cell? ⟨w.heap.size, 3, none⟩ = some (.slice o.x.ro o.x.r.length o.x.rc) ∧ u.cell? ⟨w.heap.size + 1, 1, none⟩ = some (.int .i64 p.x.s.1) ∧ u.cell? ⟨w.heap.size + 1, 2, none⟩ = some (.int .i64 p.x.s.2) ∧ u.cell? ⟨w.heap.size + 1, 3, none⟩ = some (.slice p.x.ro p.x.r.length p.x.rc)) from fun u hu => by
    have h8 := HO2.out.later hu HO2.out.lt
    have h9 := HQ2.out.later hu HQ2.out.lt
    exact ⟨h8.c1, h8.c2, h8.c3, h9.c1, h9.c2, h9.c3⟩)
        have HBD := hide (show Below w2.heap.size w2 w2.drew from (Below.refl _ _).drew)
        clear h1 h2 h3 h4 h5 hb C1 j0 j1 j2 j3 q0 q1 q2 q3 HWA CB
        go_wp2_with fail
        refine wp_region_held_drew (S := fun u => u.cell? ⟨w.heap.size, 1, none⟩ = some (.int .i64 o.x.s.1) ∧ u.cell? ⟨w.heap.size, 2, none⟩ = some (.int .i64 o.x.s.2) ∧ u.cell? ⟨w.heap.size, 3, none⟩ = some (.slice o.x.ro o.x.r.length o.x.rc) ∧ u.cell? ⟨w.heap.size + 1, 1, none⟩ = some (.int .i64 p.x.s.1) ∧ u.cell? ⟨w.heap.size + 1, 2, none⟩ = some (.int .i64 p.x.s.2) ∧ u.cell? ⟨w.heap.size + 1, 3, none⟩ = some (.slice p.x.ro p.x.r.length p.x.rc)) (by kernel_rfl) (CE.out _ HBD.out) (fun hHeld => ?_)
        refine Man.t1 0 hHeld ?_
        (try simp only [Act.put, Mqa, Mqb, Mqc])
        refine Man.t1 1 hHeld ?_
        (try simp only [Act.put, Mqa, Mqb, Mqc])
        refine Man.t1 2 hHeld ?_
        (try simp only [Act.put, Mqa, Mqb, Mqc])
        refine Man.t1 3 hHeld ?_
        (try simp only [Act.put, Mqa, Mqb, Mqc])
        refine Man.t1 4 hHeld ?_
        (try simp only [Act.put, Mqa, Mqb, Mqc])
        refine Man.t1 6 hHeld ?_
        (try simp only [Act.put, Mqa, Mqb, Mqc])
        refine Man.t1 7 hHeld ?_
        (try simp only [Act.put, Mqa, Mqb, Mqc])
        refine Man.t1 8 hHeld ?_
        (try simp only [Act.put, Mqa, Mqb, Mqc])
        refine Man.t1 9 hHeld ?_
        (try simp only [Act.put, Mqa, Mqb, Mqc])
        refine Man.one (i := 5) rfl (by kernel_rfl) (fun K9 hK => ?_)
        go_simp
        have CC := HP.out m lv _ (HM.out _ HBD.out) (HMR.out _ HBD.out) HMS.out (by have := HML.out; omega) o.x (HOR.out _ (HBW.out _ HBD.out)) HOL.out HOI.out
        with_reducible refine CC.mono ?_
        rintro e z1 ⟨m1, v1, rfl, t1, t2, t3, hb⟩
        have HZ1 := hide (HBD.out.trans (hb.mono HBD.out.size))
        have M1 := hide t1
        have M1R := hide t2
        have M1P := hide t3
        have M1S := hide (small_put HMS.out HOK.out (by have := HML.out; omega) HOL.out HOI.out t3)
        clear hb CC t1 t2 t3
        refine hK.out _ _ (CE.out _ HZ1.out) (fun hNew => ?_)
        clear hK K9 hHeld
        have hHeld := hNew
        clear hNew
        (try simp only [Act.put, Mqa, Mqb, Mqc])
        refine Man.one (i := 10) rfl (by kernel_rfl) (fun K9 hK => ?_)
        go_simp
        have CC := HP.out m1 v1 _ M1.out M1R.out M1S.out.1 (by have := HML.out; have := M1S.out.2.1; omega) p.x (HPR.out _ (HBW.out _ HZ1.out)) HPL.out HPI.out
        with_reducible refine CC.mono ?_
        rintro e z2 ⟨mx, vx, rfl, t1, t2, t3, hb⟩
        have HZ2 := hide (HZ1.out.trans (hb.mono HZ1.out.size))
        have Nx := hide t1
        have NxR := hide t2
        have NxP := hide (show pcs mx = putP (putP (pcs m) o.x.s o.x.r) p.x.s p.x.r from by rw [t3, M1P.out])
        have NxS := hide (small_put M1S.out.1 M1S.out.2.2 (by have := HML.out; have := M1S.out.2.1; omega) HPL.out HPI.out t3)
        clear hb CC t1 t2 t3
        refine hK.out _ _ (CE.out _ HZ2.out) (fun hNew => ?_)
        clear hK K9 hHeld
        have hHeld := hNew
        clear hNew
        (try simp only [Act.put, Mqa, Mqb, Mqc])
        refine Man.t1 11 hHeld ?_
        (try simp only [Act.put, Mqa, Mqb, Mqc])
        refine wpAnyH_done (by kernel_rfl) ?_ _
        rename World => wb
        have NX := hide (show ∀ u, Below wb.heap.size wb u → PcsAt mx vx u ∧ Rows3 mx u from fun u hu => ⟨Nx.out.later hu (Nat.le_refl _), NxR.out.later hu⟩)
        have HBD := hide HZ2.out.drew
        have HXD := hide (show Below wb.heap.size wb wb.drew from (Below.refl _ _).drew)
        clear HZ1 HZ2 M1 M1R M1P M1S hHeld Nx NxR
        go_wp2_with fail
        refine wp_region_held_drew (S := fun u => u.cell? ⟨w.heap.size, 1, none⟩ = some (.int .i64 o.x.s.1) ∧ u.cell? ⟨w.heap.size, 2, none⟩ = some (.int .i64 o.x.s.2) ∧ u.cell? ⟨w.heap.size, 3, none⟩ = some (.slice o.x.ro o.x.r.length o.x.rc) ∧ u.cell? ⟨w.heap.size + 1, 1, none⟩ = some (.int .i64 p.x.s.1) ∧ u.cell? ⟨w.heap.size + 1, 2, none⟩ = some (.int .i64 p.x.s.2) ∧ u.cell? ⟨w.heap.size + 1, 3, none⟩ = some (.slice p.x.ro p.x.r.length p.x.rc)) (by kernel_rfl) (CE.out _ HBD.out) (fun hHeld => ?_)
        refine Man.t1 0 hHeld ?_
        (try simp only [Act.put, Mqa, Mqb, Mqc])
        refine Man.t1 1 hHeld ?_
        (try simp only [Act.put, Mqa, Mqb, Mqc])
        refine Man.t1 2 hHeld ?_
        (try simp only [Act.put, Mqa, Mqb, Mqc])
        refine Man.t1 3 hHeld ?_
        (try simp only [Act.put, Mqa, Mqb, Mqc])
        refine Man.t1 4 hHeld ?_
        (try simp only [Act.put, Mqa, Mqb, Mqc])
        refine Man.t1 6 hHeld ?_
        (try simp only [Act.put, Mqa, Mqb, Mqc])
        refine Man.t1 7 hHeld ?_
        (try simp only [Act.put, Mqa, Mqb, Mqc])
        refine Man.t1 8 hHeld ?_
        (try simp only [Act.put, Mqa, Mqb, Mqc])
        refine Man.t1 9 hHeld ?_
        (try simp only [Act.put, Mqa, Mqb, Mqc])
        refine Man.one (i := 5) rfl (by kernel_rfl) (fun K9 hK => ?_)
        go_simp
        have CC := HP.out m lv _ (HM.out _ HBD.out) (HMR.out _ HBD.out) HMS.out (by have := HML.out; omega) p.x (HPR.out _ (HBW.out _ HBD.out)) HPL.out HPI.out
        with_reducible refine CC.mono ?_
        rintro e z1 ⟨m1, v1, rfl, t1, t2, t3, hb⟩
        have HZ1 := hide (HBD.out.trans (hb.mono HBD.out.size))
        have HX1 := hide (HXD.out.trans (hb.mono HXD.out.size))
        have M1 := hide t1
        have M1R := hide t2
        have M1P := hide t3
        have M1S := hide (small_put HMS.out HOK.out (by have := HML.out; omega) HPL.out HPI.out t3)
        clear hb CC t1 t2 t3
        refine hK.out _ _ (CE.out _ HZ1.out) (fun hNew => ?_)
        clear hK K9 hHeld
        have hHeld := hNew
        clear hNew
        (try simp only [Act.put, Mqa, Mqb, Mqc])
        refine Man.one (i := 10) rfl (by kernel_rfl) (fun K9 hK => ?_)
        go_simp
        have CC := HP.out m1 v1 _ M1.out M1R.out M1S.out.1 (by have := HML.out; have := M1S.out.2.1; omega) o.x (HOR.out _ (HBW.out _ HZ1.out)) HOL.out HOI.out
        with_reducible refine CC.mono ?_
        rintro e z2 ⟨my, vy, rfl, t1, t2, t3, hb⟩
        have HZ2 := hide (HZ1.out.trans (hb.mono HZ1.out.size))
        have HX2 := hide (HX1.out.trans (hb.mono HX1.out.size))
        have Ny := hide t1
        have NyR := hide t2
        have NyP := hide (show pcs my = putP (putP (pcs m) p.x.s p.x.r) o.x.s o.x.r from by rw [t3, M1P.out])
        have NyS := hide (small_put M1S.out.1 M1S.out.2.2 (by have := HML.out; have := M1S.out.2.1; omega) HOL.out HOI.out t3)
        clear hb CC t1 t2 t3
        refine hK.out _ _ (CE.out _ HZ2.out) (fun hNew => ?_)
        clear hK K9 hHeld
        have hHeld := hNew
        clear hNew
        (try simp only [Act.put, Mqa, Mqb, Mqc])
        refine Man.t1 11 hHeld ?_
        (try simp only [Act.put, Mqa, Mqb, Mqc])
        refine wpAnyH_done (by kernel_rfl) ?_ _
        clear HBD HZ1 M1 M1R M1P M1S hHeld
        have C5 := HS.out mx my vx vy z2 (NX.out z2 HX2.out).1 (NX.out z2 HX2.out).2 NxS.out.1 Ny.out NyR.out NyS.out.1
        rw [decide_eq_true (show pcs mx = pcs my from by rw [NxP.out, NyP.out]; exact put_swap HOK.out HNM.out)] at C5
        have C5 := hide C5
        go_wp2_with fail
        refine C5.out.mono ?_
        rintro e w5 ⟨rfl, hb⟩
        have HB5 := hide (HBW.out _ (HZ2.out.trans (hb.mono HZ2.out.size)))
        have C6 := hide (HK.out w5)
        clear hb C5
        go_wp2_with fail
        refine C6.out.mono ?_
        rintro e w6 ⟨rfl, hb⟩
        have HB6 := hide (HB5.out.trans (hb.mono HB5.out.size))
        clear hb C6
        go_wp2_with fail
        go_ret
        exact ⟨rfl, HB6.out⟩
end Prd
end Go.Proofs.Ytoacombaddknfaa
