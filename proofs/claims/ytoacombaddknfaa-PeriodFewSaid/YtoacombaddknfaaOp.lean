/- PeriodAway walked, given what the program's functions do. Condition: as each says. -/
import Derived.Test.YtoacombaddknfaaOo
namespace Go.Proofs.Ytoacombaddknfaa
open Go.RowKit
namespace Prd
open Spn (Sp hide At below_alloc Right rcut Has)
open Cod (V RowAt)
def SameC : Prop := ∀ (l m : List Pm) (sl sm : Value) (w : World), PcsAt l sl w → Rows3 l w → Small l → PcsAt m sm w → Rows3 m w → Small m →
  Calls Try.prog 27 #[sl, sm] w fun e w' => e = .returned (.bool (decide (pcs l = pcs m))) ∧ Below w.heap.size w w'
def RightC : Prop := ∀ (l : List Pm) (sl : Value) (w : World), PcsAt l sl w → Rows3 l w → Small l →
  Calls Try.prog 15 #[sl] w fun e w' => e = .returned (.bool (decide (Ok Good (pcs l)))) ∧ Below w.heap.size w w'
def KnownC : Prop := ∀ (w : World), Calls Try.prog 11 #[] w fun e w' => e = .returned (.bool true) ∧ Below w.heap.size w w'
theorem small_of {m m' : List Pm} (hs : Small m) (hl : m'.length ≤ 1000) (hf : ∀ p, p ∈ pcs m' → ∃ q, q ∈ pcs m ∧ p.2 = q.2) : Small m' := by
  have key : ∀ x, x ∈ m' → ∃ y, y ∈ m ∧ x.r = y.r := fun x hx => by
    obtain ⟨q, hq, e⟩ := hf x.pc (List.mem_map.2 ⟨x, hx, rfl⟩)
    obtain ⟨y, hy, rfl⟩ := List.mem_map.1 hq
    exact ⟨y, hy, e⟩
  refine ⟨hl, fun x hx => ?_, fun x hx => ?_⟩
  · obtain ⟨y, hy, e⟩ := key x hx
    rw [e]; exact hs.r y hy
  · obtain ⟨y, hy, e⟩ := key x hx
    rw [e]; exact hs.i y hy
theorem small_drop {m m' : List Pm} {s : Sp} (hs : Small m) (hok : Ok Good (pcs m)) (hl : m.length ≤ 900) (h : pcs m' = dropP (pcs m) s) : Small m' ∧ m'.length ≤ m.length + 1 ∧ Ok Good (pcs m') := by
  have h1 := drop_right hok s
  rw [← h, pcs_len, pcs_len] at h1
  exact ⟨small_of hs (by omega) (fun p hp => by rw [h] at hp; exact drop_from hp), h1.2, h1.1⟩
theorem small_put {m m' : List Pm} {x : Pm} (hs : Small m) (hok : Ok Good (pcs m)) (hl : m.length ≤ 900) (hr : x.r.length ≤ 1000000) (hi : ∀ v ∈ x.r, v.inn) (h : pcs m' = putP (pcs m) x.s x.r) : Small m' ∧ m'.length ≤ m.length + 2 ∧ Ok Good (pcs m') := by
  have h1 := put_right hok x.s x.r
  rw [← h, pcs_len, pcs_len] at h1
  refine ⟨small_of (m := x :: m) ⟨by simp; omega, fun y hy => ?_, fun y hy => ?_⟩ (by omega) (fun p hp => ?_), h1.2, h1.1⟩
  · rcases List.mem_cons.1 hy with rfl | hy
    · exact hr
    · exact hs.r y hy
  · rcases List.mem_cons.1 hy with rfl | hy
    · exact hi
    · exact hs.i y hy
  · rw [h] at hp
    rcases put_from hp with e | ⟨q, hq, e⟩
    · exact ⟨x.pc, List.mem_map.2 ⟨x, by simp, rfl⟩, e⟩
    · obtain ⟨y, hy, rfl⟩ := List.mem_map.1 hq
      exact ⟨y.pc, List.mem_map.2 ⟨y, by simp [hy], rfl⟩, e⟩
theorem made_ok (os : List Opv) : Ok Good (made os) := (steps_right (os.take 30) ok_nil).1
theorem put_twice {l : List (Sp × List V)} (h : Ok Good l) (s : Sp) (r : List V) : putP (putP l s r) s r = putP l s r := by
  by_cases hc : Right s ∧ Good r
  · have e : putP l s r = lay (away l s) (s, r) := if_pos ⟨h, hc.1, hc.2⟩
    have h2 := (put_right h s r).1
    rw [e] at h2 ⊢
    have e2 : putP (lay (away l s) (s, r)) s r = lay (away (lay (away l s) (s, r)) s) (s, r) := if_pos ⟨h2, hc.1, hc.2⟩
    rw [e2, put_again h hc.1 hc.2]
  · have e : ∀ l, putP l s r = l := fun l => if_neg fun h9 => hc h9.2
    rw [e, e]
theorem put_gone {l : List (Sp × List V)} (h : Ok Good l) {s : Sp} {r : List V} (hne : putP l s r ≠ l) : dropP (putP l s r) s = dropP l s := by
  by_cases hc : Right s ∧ Good r
  · have e : putP l s r = lay (away l s) (s, r) := if_pos ⟨h, hc.1, hc.2⟩
    have h2 := (put_right h s r).1
    rw [e] at h2 ⊢
    have e2 : dropP (lay (away l s) (s, r)) s = away (lay (away l s) (s, r)) s := if_pos ⟨h2, hc.1⟩
    have e3 : dropP l s = away l s := if_pos ⟨h, hc.1⟩
    rw [e2, e3, drop_put h hc.1 hc.2]
  · exact absurd (if_neg fun h9 => hc h9.2) hne
/-- The box of a step: its cells. -/
structure Ob (o : Opv) (k : Nat) (w : World) : Prop where
  c0 : w.cell? ⟨k, 0, none⟩ = some (.bool o.d)
  c1 : w.cell? ⟨k, 1, none⟩ = some (.int .i64 o.x.s.1)
  c2 : w.cell? ⟨k, 2, none⟩ = some (.int .i64 o.x.s.2)
  c3 : w.cell? ⟨k, 3, none⟩ = some (.slice o.x.ro o.x.r.length o.x.rc)
  lt : k < w.heap.size
theorem Ob.later {o : Opv} {k n : Nat} {w w' : World} (h : Ob o k w) (hb : Below n w w') (hk : k < n) : Ob o k w' :=
  ⟨by rw [hb.cell (p := ⟨k, 0, none⟩) hk]; exact h.c0, by rw [hb.cell (p := ⟨k, 1, none⟩) hk]; exact h.c1, by rw [hb.cell (p := ⟨k, 2, none⟩) hk]; exact h.c2, by rw [hb.cell (p := ⟨k, 3, none⟩) hk]; exact h.c3, Nat.lt_of_lt_of_le h.lt hb.size⟩
set_option maxHeartbeats 8000000 in
set_option maxRecDepth 100000 in
theorem away_walk (hP : PutC) (hD : DropC) (hS : SameC) (hR : RightC) (hK : KnownC) {os : List Opv} {sv : Value} {w : World} (h : OpsAt os sv w) (hr : OpRows os w) (hi : ∀ o, o ∈ os → o.x.inn) (o : Opv) (hor : RowAt o.x.r o.x.sl w) (hoi : o.x.inn) :
    Calls Try.prog 8 #[sv, .agg #[.bool o.d, .int .i64 o.x.s.1, .int .i64 o.x.s.2, .slice o.x.ro o.x.r.length o.x.rc]] w fun x w' => x = .returned (.bool true) ∧ Below w.heap.size w w' := by
  obtain ⟨w0, hw0⟩ : ∃ w0, w0 = w.alloc (.cells #[.bool o.d, .int .i64 o.x.s.1, .int .i64 o.x.s.2, .slice o.x.ro o.x.r.length o.x.rc] 27) := ⟨_, rfl⟩
  have HB0 := hide (show Below w.heap.size w w0 from by rw [hw0]; exact below_alloc w _)
  have HO0 := hide (show Ob o w.heap.size w0 from by rw [hw0]; exact ⟨by go_keep, by go_keep, by go_keep, by go_keep, by simp⟩)
  have CB := hide (build_any hP hD (h.later HB0.out (Nat.le_refl _)) (hr.later HB0.out) hi)
  have HOR := hide (show ∀ u, Below w.heap.size w u → RowAt o.x.r o.x.sl u from fun u hu => hor.later hu)
  have HOI := hide hoi.r
  have HP := hide hP
  have HD := hide hD
  have HS := hide hS
  have HRT := hide hR
  have HK := hide hK
  have HW0 := hide hw0
  obtain ⟨so, sc, rfl, _, _⟩ := h.form
  clear hP hD hS hR hK h hr hi hor hoi hw0
  by_cases h20 : 20 < o.x.r.length
  · have g3 : (20 : Int) < (o.x.r.length : Int) := by omega
    obtain ⟨j0, j1, j2, j3, _⟩ := HO0.out
    have C1 := hide (HK.out w0)
    go_enter Try.func8, Try.ntmps8
    go_wp2_with fail
    rw [← HW0.out]
    refine C1.out.mono ?_
    rintro e w1 ⟨rfl, hb⟩
    have HB1 := hide (HB0.out.trans (hb.mono HB0.out.size))
    clear hb C1 j0 j1 j2 j3
    go_wp2_with fail
    go_ret
    exact ⟨rfl, HB1.out⟩
  · have g3 : ¬ (20 : Int) < (o.x.r.length : Int) := by omega
    have HOL := hide (show o.x.r.length ≤ 1000000 from by omega)
    clear h20
    go_enter Try.func8, Try.ntmps8
    go_wp2_with fail
    rw [← HW0.out]
    refine CB.out.mono ?_
    rintro e w1 ⟨m, lv, rfl, h1, h2, h3, h4, h5, hb⟩
    have HB1 := hide (HB0.out.trans (hb.mono HB0.out.size))
    have HO1 := hide (HO0.out.later hb HO0.out.lt)
    have HM := hide h1
    have HMR := hide h2
    have HMS := hide h5
    have HML := hide h4
    have HOK := hide (show Ok Good (pcs m) from by rw [h3]; exact made_ok os)
    clear h1 h2 h3 h4 h5 hb CB HO0 HB0 HW0
    have HSP := hide (fun (m' : List Pm) (h9 : pcs m' = putP (pcs m) o.x.s o.x.r) => small_put HMS.out HOK.out (by have := HML.out; omega) HOL.out HOI.out h9)
    obtain ⟨j0, j1, j2, j3, _⟩ := HO1.out
    have C2 := hide (HP.out m lv w1 HM.out HMR.out HMS.out (by have := HML.out; omega) o.x (HOR.out _ HB1.out) HOL.out HOI.out)
    go_wp2_with fail
    refine C2.out.mono ?_
    rintro e w2 ⟨m1, v1, rfl, h1, h2, h3, hb⟩
    have HB2 := hide (HB1.out.trans (hb.mono HB1.out.size))
    have HO2 := hide (HO1.out.later hb HO1.out.lt)
    have HM2 := hide (HM.out.later hb (Nat.le_refl _))
    have HMR2 := hide (HMR.out.later hb)
    have H1 := hide h1
    have H1R := hide h2
    have H1P := hide h3
    have H1S := hide (HSP.out _ h3)
    clear h1 h2 h3 hb C2 j0 j1 j2 j3 HO1 HM HMR HSP
    obtain ⟨j0, j1, j2, j3, _⟩ := HO2.out
    have C3 := hide (HP.out m1 v1 w2 H1.out H1R.out H1S.out.1 (by have := HML.out; have := H1S.out.2.1; omega) o.x (HOR.out _ HB2.out) HOL.out HOI.out)
    go_wp2_with fail
    refine C3.out.mono ?_
    rintro e w3 ⟨m2, v2, rfl, h1, h2, h3, hb⟩
    have HB3 := hide (HB2.out.trans (hb.mono HB2.out.size))
    have HO3 := hide (HO2.out.later hb HO2.out.lt)
    have HM3 := hide (HM2.out.later hb (Nat.le_refl _))
    have HMR3 := hide (HMR2.out.later hb)
    have H13 := hide (H1.out.later hb (Nat.le_refl _))
    have H1R3 := hide (H1R.out.later hb)
    have H2 := hide h1
    have H2R := hide h2
    have H2S := hide (small_put H1S.out.1 H1S.out.2.2 (by have := HML.out; have := H1S.out.2.1; omega) HOL.out HOI.out h3)
    have H2P := hide (show pcs m1 = pcs m2 from by rw [h3, H1P.out, put_twice HOK.out])
    clear h1 h2 h3 hb C3 j0 j1 j2 j3 HO2 HM2 HMR2 H1 H1R
    have C4 := HS.out m1 m2 v1 v2 w3 H13.out H1R3.out H1S.out.1 H2.out H2R.out H2S.out.1
    rw [decide_eq_true H2P.out] at C4
    have C4 := hide C4
    go_wp2_with fail
    refine C4.out.mono ?_
    rintro e w4 ⟨rfl, hb⟩
    have HB4 := hide (HB3.out.trans (hb.mono HB3.out.size))
    have HO4 := hide (HO3.out.later hb HO3.out.lt)
    have HM4 := hide (HM3.out.later hb (Nat.le_refl _))
    have HMR4 := hide (HMR3.out.later hb)
    have H14 := hide (H13.out.later hb (Nat.le_refl _))
    have H1R4 := hide (H1R3.out.later hb)
    have C5 := HRT.out m1 v1 w4 H14.out H1R4.out H1S.out.1
    rw [decide_eq_true H1S.out.2.2] at C5
    have C5 := hide C5
    clear hb C4 HO3 HM3 HMR3 H13 H1R3 H2 H2R
    go_wp2_with fail
    refine C5.out.mono ?_
    rintro e w5 ⟨rfl, hb⟩
    have HB5 := hide (HB4.out.trans (hb.mono HB4.out.size))
    have HO5 := hide (HO4.out.later hb HO4.out.lt)
    have HM5 := hide (HM4.out.later hb (Nat.le_refl _))
    have HMR5 := hide (HMR4.out.later hb)
    have H15 := hide (H14.out.later hb (Nat.le_refl _))
    have H1R5 := hide (H1R4.out.later hb)
    clear hb C5 HO4 HM4 HMR4 H14 H1R4 H2P H2S
    have C6 := HS.out m1 m v1 lv w5 H15.out H1R5.out H1S.out.1 HM5.out HMR5.out HMS.out
    by_cases he : pcs m1 = pcs m
    · rw [decide_eq_true he] at C6
      have C6 := hide C6
      clear he
      go_wp2_with fail
      refine C6.out.mono ?_
      rintro e w6 ⟨rfl, hb⟩
      have HB6 := hide (HB5.out.trans (hb.mono HB5.out.size))
      have C7 := hide (HK.out w6)
      clear hb C6
      go_wp2_with fail
      refine C7.out.mono ?_
      rintro e w7 ⟨rfl, hb⟩
      have HB7 := hide (HB6.out.trans (hb.mono HB6.out.size))
      clear hb C7
      go_wp2_with fail
      go_ret
      exact ⟨rfl, HB7.out⟩
    · rw [decide_eq_false he] at C6
      have C6 := hide C6
      have HNE := hide (show dropP (pcs m1) o.x.s = dropP (pcs m) o.x.s from by rw [H1P.out]; exact put_gone HOK.out (by rw [← H1P.out]; exact he))
      clear he
      go_wp2_with fail
      refine C6.out.mono ?_
      rintro e w6 ⟨rfl, hb⟩
      have HB6 := hide (HB5.out.trans (hb.mono HB5.out.size))
      have HO6 := hide (HO5.out.later hb HO5.out.lt)
      have HM6 := hide (HM5.out.later hb (Nat.le_refl _))
      have HMR6 := hide (HMR5.out.later hb)
      have H16 := hide (H15.out.later hb (Nat.le_refl _))
      have H1R6 := hide (H1R5.out.later hb)
      clear hb C6 HO5 HM5 HMR5 H15 H1R5
      have HBD := hide (show Below w6.heap.size w6 w6.drew from (Below.refl _ _).drew)
      have CE := hide (show ∀ u : World, Below w6.heap.size w6 u → (u.cell? ⟨w.heap.size, 1, none⟩ = some (.int .i64 o.x.s.1) ∧ u.cell? ⟨w.heap.size, 2, none⟩ = some (.int .i64 o.x.s.2)) from fun u hu => by
        have h9 := HO6.out.later hu HO6.out.lt
        exact ⟨h9.c1, h9.c2⟩)
      go_wp2_with fail
      refine wp_region_held_drew (S := fun u => u.cell? ⟨w.heap.size, 1, none⟩ = some (.int .i64 o.x.s.1) ∧ u.cell? ⟨w.heap.size, 2, none⟩ = some (.int .i64 o.x.s.2)) (by kernel_rfl) (CE.out _ HBD.out) (fun hHeld => ?_)
      refine Man.t1 0 hHeld ?_
      (try simp only [Act.put, Mqa, Mqb, Mqc])
      refine Man.t1 1 hHeld ?_
      (try simp only [Act.put, Mqa, Mqb, Mqc])
      refine Man.t1 2 hHeld ?_
      (try simp only [Act.put, Mqa, Mqb, Mqc])
      refine Man.t1 4 hHeld ?_
      (try simp only [Act.put, Mqa, Mqb, Mqc])
      refine Man.t1 5 hHeld ?_
      (try simp only [Act.put, Mqa, Mqb, Mqc])
      refine Man.t1 6 hHeld ?_
      (try simp only [Act.put, Mqa, Mqb, Mqc])
      refine Man.one (i := 3) rfl (by kernel_rfl) (fun K9 hK => ?_)
      go_simp
      have CC := HD.out m1 v1 _ (H16.out.later HBD.out (Nat.le_refl _)) (H1R6.out.later HBD.out) H1S.out.1 (by have := HML.out; have := H1S.out.2.1; omega) o.x.s.1 o.x.s.2
      with_reducible refine CC.mono ?_
      rintro e z1 ⟨d1, dv1, rfl, q1, q2, q3, hb⟩
      have HZ1 := hide (HBD.out.trans (hb.mono HBD.out.size))
      have D1 := hide q1
      have D1R := hide q2
      have D1P := hide q3
      have D1S := hide (small_drop H1S.out.1 H1S.out.2.2 (by have := HML.out; have := H1S.out.2.1; omega) q3)
      clear hb CC q1 q2 q3
      refine hK.out _ _ (CE.out _ HZ1.out) (fun hNew => ?_)
      clear hK K9 hHeld
      have hHeld := hNew
      clear hNew
      (try simp only [Act.put, Mqa, Mqb, Mqc])
      refine Man.one (i := 7) rfl (by kernel_rfl) (fun K9 hK => ?_)
      go_simp
      have CC := HD.out m lv _ (HM6.out.later HZ1.out (Nat.le_refl _)) (HMR6.out.later HZ1.out) HMS.out (by have := HML.out; omega) o.x.s.1 o.x.s.2
      with_reducible refine CC.mono ?_
      rintro e z2 ⟨d2, dv2, rfl, q1, q2, q3, hb⟩
      have HZ2 := hide (HZ1.out.trans (hb.mono HZ1.out.size))
      have D2 := hide q1
      have D2R := hide q2
      have D2S := hide (small_drop HMS.out HOK.out (by have := HML.out; omega) q3)
      have D1' := hide (D1.out.later hb (Nat.le_refl _))
      have D1R' := hide (D1R.out.later hb)
      have D12 := hide (show pcs d1 = pcs d2 from by rw [q3, D1P.out]; exact HNE.out)
      clear hb CC q1 q2 q3
      refine hK.out _ _ (CE.out _ HZ2.out) (fun hNew => ?_)
      clear hK K9 hHeld
      have hHeld := hNew
      clear hNew
      (try simp only [Act.put, Mqa, Mqb, Mqc])
      refine Man.one (i := 8) rfl (by kernel_rfl) (fun K9 hK => ?_)
      go_simp
      have CC := HS.out d1 d2 dv1 dv2 _ D1'.out D1R'.out D1S.out.1 D2.out D2R.out D2S.out.1
      rw [decide_eq_true D12.out] at CC
      with_reducible refine CC.mono ?_
      rintro e z3 ⟨rfl, hb⟩
      have HZ3 := hide (HZ2.out.trans (hb.mono HZ2.out.size))
      clear hb CC
      refine hK.out _ _ (CE.out _ HZ3.out) (fun hNew => ?_)
      clear hK K9 hHeld
      have hHeld := hNew
      clear hNew
      (try simp only [Act.put, Mqa, Mqb, Mqc])
      refine Man.t1 9 hHeld ?_
      (try simp only [Act.put, Mqa, Mqb, Mqc])
      refine Man.one (i := 10) rfl (by kernel_rfl) (fun K9 hK => ?_)
      go_simp
      have CC := HK.out z3
      with_reducible refine CC.mono ?_
      rintro e z4 ⟨rfl, hb⟩
      have HZ4 := hide (HZ3.out.trans (hb.mono HZ3.out.size))
      have HBZ := hide (HB6.out.trans (HZ4.out.mono HB6.out.size))
      clear hb CC
      refine hK.out _ _ (CE.out _ HZ4.out) (fun hNew => ?_)
      clear hK K9 hHeld
      have hHeld := hNew
      clear hNew
      (try simp only [Act.put, Mqa, Mqb, Mqc])
      refine Man.t1 11 hHeld ?_
      (try simp only [Act.put, Mqa, Mqb, Mqc])
      refine Man.t1 12 hHeld ?_
      (try simp only [Act.put, Mqa, Mqb, Mqc])
      refine wpAnyH_done (by kernel_rfl) ?_ _
      go_wp2_with fail
      go_ret
      exact ⟨rfl, HBZ.out⟩
end Prd
end Go.Proofs.Ytoacombaddknfaa
