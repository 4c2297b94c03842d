/- PeriodGoes walked, given what the program's functions do. Condition: as each says. -/
import Derived.Test.YtoacombaddknfaaOr
namespace Go.Proofs.Ytoacombaddknfaa
open Go.RowKit
namespace Prd
open Spn (Sp hide At below_alloc Right rcut Has Meets mid)
open Cod (V RowAt)
theorem steps_rows2 {l : List (Sp × List V)} {os : List Opv} : ∀ (k : Nat), k ≤ os.length → ∀ p, p ∈ steps l (os.take k) → (∃ q, q ∈ l ∧ p.2 = q.2) ∨ ∃ o, o ∈ os ∧ p.2 = o.x.r ∧ o.x.r.length ≤ 20 := by
  intro k
  induction k with
  | zero => intro _ p hp; exact .inl ⟨p, hp, rfl⟩
  | succ k ih =>
    intro hk p hp
    have hk2 : k < os.length := by omega
    rw [steps_take hk2] at hp
    have via : ∀ q, q ∈ steps l (os.take k) → p.2 = q.2 → (∃ q, q ∈ l ∧ p.2 = q.2) ∨ ∃ o, o ∈ os ∧ p.2 = o.x.r ∧ o.x.r.length ≤ 20 := fun q hq e => by
      rcases ih (by omega) q hq with ⟨z, hz, e2⟩ | ⟨o, ho, e2, e3⟩
      · exact .inl ⟨z, hz, e.trans e2⟩
      · exact .inr ⟨o, ho, e.trans e2, e3⟩
    unfold step1 at hp
    split at hp
    · exact via p hp rfl
    · next h20 =>
      split at hp
      · obtain ⟨q, hq, e⟩ := drop_from hp
        exact via q hq e
      · rcases put_from hp with e | ⟨q, hq, e⟩
        · exact .inr ⟨os[k], List.getElem_mem hk2, e, by omega⟩
        · exact via q hq e
theorem small_steps {m0 m : List Pm} {os : List Opv} (hs : Small m0) (hok : Ok Good (pcs m0)) (hl : m0.length ≤ 60) (hi : ∀ o, o ∈ os → o.x.inn) {k : Nat} (hk : k ≤ os.length) (hk2 : k ≤ 10) (h : pcs m = steps (pcs m0) (os.take k)) : Small m ∧ m.length ≤ 80 ∧ Ok Good (pcs m) := by
  have h1 := steps_right (os.take k) hok
  rw [← h, pcs_len, pcs_len, List.length_take] at h1
  have h2 : m.length ≤ 80 := by omega
  have key : ∀ x, x ∈ m → (∃ y, y ∈ m0 ∧ x.r = y.r) ∨ ∃ o, o ∈ os ∧ x.r = o.x.r ∧ o.x.r.length ≤ 20 := fun x hx => by
    have : x.pc ∈ pcs m := List.mem_map.2 ⟨x, hx, rfl⟩
    rw [h] at this
    rcases steps_rows2 k hk _ this with ⟨q, hq, e⟩ | h9
    · obtain ⟨y, hy, rfl⟩ := List.mem_map.1 hq
      exact .inl ⟨y, hy, e⟩
    · exact .inr h9
  refine ⟨⟨by omega, fun x hx => ?_, fun x hx => ?_⟩, h2, h1.1⟩
  · rcases key x hx with ⟨y, hy, e⟩ | ⟨o, _, e, h9⟩
    · rw [e]; exact hs.r y hy
    · rw [e]; omega
  · rcases key x hx with ⟨y, hy, e⟩ | ⟨o, ho, e, _⟩
    · rw [e]; exact hs.i y hy
    · rw [e]; exact (hi o ho).r
theorem goesR_ok {a b : List (Sp × List V)} (ha : Ok Good a) : Ok Good (goesR a b) := by
  unfold goesR
  split
  · exact goes_ok ha b
  · exact ok_nil
theorem goesR_self {a : List (Sp × List V)} : goesR a a = [] := by
  unfold goesR
  split
  · exact goes_self a
  · rfl
theorem goesR_len {a b : List (Sp × List V)} (ha : Ok Good a) (hb : Ok Good b) : (a.length : Int) - ((goesR a b).length : Int) = (b.length : Int) - ((goesR b a).length : Int) := by
  have h1 := goes_len ha hb
  have h2 := goes_le a b
  have h3 := goes_le b a
  have e1 : goesR a b = goes a b := if_pos ⟨ha, hb⟩
  have e2 : goesR b a = goes b a := if_pos ⟨hb, ha⟩
  rw [e1, e2]
  omega
set_option maxHeartbeats 8000000 in
set_option maxRecDepth 100000 in
theorem goes_walk (hP : PutC) (hD : DropC) (hDf : DiffC) (hS : SameC) (hR : RightC) (hK : KnownC) {os ms : List Opv} {sv mv : Value} {w : World} (h : OpsAt os sv w) (hr : OpRows os w) (hi : ∀ o, o ∈ os → o.x.inn) (h' : OpsAt ms mv w) (hr' : OpRows ms w) (hi' : ∀ o, o ∈ ms → o.x.inn) :
    Calls Try.prog 7 #[sv, mv] w fun x w' => x = .returned (.bool true) ∧ Below w.heap.size w w' := by
  have CB := hide (build_any hP hD h hr hi)
  have HA := hide h'
  have HR := hide hr'
  have HI := hide hi'
  have HP := hide hP
  have HD := hide hD
  have HDF := hide hDf
  have HS := hide hS
  have HRT := hide hR
  have HK := hide hK
  obtain ⟨so, sc, rfl, _, _⟩ := h.form
  obtain ⟨mo, mc, rfl, _, hmm⟩ := h'.form
  obtain ⟨n, hn⟩ : ∃ n, n = ms.length := ⟨_, rfl⟩
  have hnm : n ≤ 9223372036854775807 := by rw [hn]; omega
  rw [← hn]
  have HN := hide hn
  clear h hn hr hi hP hD hDf hS hR hK h' hr' hi' hmm
  go_enter Try.func7, Try.ntmps7
  go_wp2_with fail
  refine CB.out.mono ?_
  rintro e w1 ⟨a, av, rfl, h1, h2, h3, h4, h5, hb⟩
  have HB1 := hide hb
  have AA := hide (show ∀ u, Below w1.heap.size w1 u → PcsAt a av u from fun u hu => h1.later hu (Nat.le_refl _))
  have RA := hide (show ∀ u, Below w1.heap.size w1 u → Rows3 a u from fun u hu => h2.later hu)
  have SA := hide h5
  have LA := hide h4
  have OA := hide (show Ok Good (pcs a) from by rw [h3]; exact made_ok os)
  clear h1 h2 h3 h4 h5 hb CB
  go_wp2_with fail
  go_loopw [6, 7] (fun lv ii wr => ∃ (i : Nat) (m : List Pm), ii = .int .i64 i ∧ i ≤ n ∧ i ≤ 10 ∧ Hid (PcsAt m lv wr) ∧ Hid (Rows3 m wr) ∧ Hid (Below w1.heap.size w1 wr) ∧ Hid (pcs m = steps (pcs a) (ms.take i))) (fun _ ii _ => (n - (intOf ii).toNat))
  case atStart => exact ⟨0, a, rfl, by omega, by omega, hide (AA.out _ (Below.refl _ _)), hide (RA.out _ (Below.refl _ _)), hide (Below.refl _ _), hide rfl⟩
  case round =>
    rename World => wr
    obtain ⟨i, m, rfl, hi, hi3, HM, HMR, HB, HPM⟩ := hrel
    have HSM := hide (small_steps SA.out OA.out LA.out HI.out (by rw [← HN.out]; exact hi) hi3 HPM.out)
    have HBW := hide (HB1.out.trans (HB.out.mono HB1.out.size))
    by_cases hgo : i < n ∧ i < 10
    · obtain ⟨hlt, hlt3⟩ := hgo
      have g1 : (i : Int) < (n : Int) := by omega
      have g2 : (i : Int) < 10 := by omega
      have hil : i < ms.length := by rw [← HN.out]; exact hlt
      obtain ⟨b0, off, cap, he, -, -⟩ := (HA.out.later HBW.out (Nat.le_refl _)).at i hil
      rw [← HN.out] at he
      simp only [Value.slice.injEq] at he
      obtain ⟨rfl, _, rfl⟩ := he
      obtain ⟨o, ho⟩ : ∃ o, o = ms[i] := ⟨_, rfl⟩
      have CP := hide (show ∀ u, Below w.heap.size w u → u.cell? ⟨b0, off + i * 4, none⟩ = some (.bool o.d) ∧ u.cell? ⟨b0, off + i * 4 + 1, none⟩ = some (.int .i64 o.x.s.1) ∧ u.cell? ⟨b0, off + i * 4 + 2, none⟩ = some (.int .i64 o.x.s.2) ∧ u.cell? ⟨b0, off + i * 4 + 3, none⟩ = some (.slice o.x.ro o.x.r.length o.x.rc) from fun u hu => by
        obtain ⟨b1, off1, cap1, he1, _, t0, t1, t2, t3⟩ := (HA.out.later hu (Nat.le_refl _)).at i hil
        rw [← HN.out] at he1
        simp only [Value.slice.injEq, Option.some.injEq, Addr.mk.injEq, and_true] at he1
        obtain ⟨⟨rfl, rfl⟩, _⟩ := he1
        rw [← ho] at t0 t1 t2 t3
        exact ⟨t0, t1, t2, t3⟩)
      have HOM := hide (show o ∈ ms from by rw [ho]; exact List.getElem_mem _)
      have HST := hide (show steps (pcs a) (ms.take (i + 1)) = step1 (pcs m) o from by rw [steps_take hil, ← HPM.out, ho])
      obtain ⟨k0, k1, k2, k3⟩ := CP.out wr HBW.out
      clear ho
      by_cases h20 : 20 < o.x.r.length
      · have g3 : (20 : Int) < (o.x.r.length : Int) := by omega
        have HPM2 := hide (show pcs m = steps (pcs a) (ms.take (i + 1)) from by rw [HST.out]; exact (if_pos h20).symm)
        go_wp2_with fail
        go_roundw
        case rel => exact ⟨i + 1, m, by go_num, by omega, by omega, HM, HMR, HB, HPM2⟩
        case measure => simp [intOf]; omega
      · have g3 : ¬ (20 : Int) < (o.x.r.length : Int) := by omega
        cases hd : o.d with
        | true =>
          rw [hd] at k0
          have C1 := hide (HD.out m u6 _ HM.out HMR.out HSM.out.1 (by have := HSM.out.2.1; omega) o.x.s.1 o.x.s.2)
          have HS2 := hide (show steps (pcs a) (ms.take (i + 1)) = dropP (pcs m) (o.x.s.1, o.x.s.2) from by rw [HST.out]; unfold step1; rw [if_neg h20, if_pos hd])
          clear h20 hd
          go_wp2_with fail
          refine C1.out.mono ?_
          rintro e w3 ⟨m2, v2, rfl, hm2, hr2, hp2, hb⟩
          have HM2 := hide hm2
          have HR2 := hide hr2
          have HB2 := hide (HB.out.trans (hb.mono HB.out.size))
          have HPM2 := hide (show pcs m2 = steps (pcs a) (ms.take (i + 1)) from by rw [hp2, HS2.out])
          clear hm2 hr2 hp2 hb C1
          go_wp2_with fail
          go_roundw
          case rel => exact ⟨i + 1, m2, by go_num, by omega, by omega, HM2, HR2, HB2, HPM2⟩
          case measure => simp [intOf]; omega
        | false =>
          rw [hd] at k0
          have HS2 := hide (show steps (pcs a) (ms.take (i + 1)) = putP (pcs m) o.x.s o.x.r from by rw [HST.out]; unfold step1; rw [if_neg h20, if_neg (by rw [hd]; decide)])
          have HOL := hide (show o.x.r.length ≤ 1000000 from by omega)
          have CE := hide (show ∀ u : World, Below w.heap.size w u → (u.cell? ⟨b0, off + i * 4 + 1, none⟩ = some (.int .i64 o.x.s.1) ∧ u.cell? ⟨b0, off + i * 4 + 2, none⟩ = some (.int .i64 o.x.s.2) ∧ u.cell? ⟨b0, off + i * 4 + 3, none⟩ = some (.slice o.x.ro o.x.r.length o.x.rc)) from fun u hu => (CP.out u hu).2)
          have HMK := hide (show ∀ u, Below wr.heap.size wr u → PcsAt m u6 u ∧ Rows3 m u from fun u hu => ⟨HM.out.later hu (Nat.le_refl _), HMR.out.later hu⟩)
          have HBD := hide (show Below wr.heap.size wr wr.drew from (Below.refl _ _).drew)
          have HBK := hide (show ∀ u, Below wr.heap.size wr u → Below w.heap.size w u from fun u hu => HBW.out.trans (hu.mono HBW.out.size))
          clear h20 hd
          go_upto_region 9 with fail
          clear k0 k1 k2 k3
          refine wp_region_held_drew (S := fun u => u.cell? ⟨b0, off + i * 4 + 1, none⟩ = some (.int .i64 o.x.s.1) ∧ u.cell? ⟨b0, off + i * 4 + 2, none⟩ = some (.int .i64 o.x.s.2) ∧ u.cell? ⟨b0, off + i * 4 + 3, none⟩ = some (.slice o.x.ro o.x.r.length o.x.rc)) (by kernel_rfl) (CE.out _ (HBK.out _ HBD.out)) (fun hHeld => ?_)
          refine Man.t1 0 hHeld ?_
          (try simp only [Act.put, Mqa, Mqb, Mqc])
          refine Man.t1 1 hHeld ?_
          (try simp only [Act.put, Mqa, Mqb, Mqc])
          refine Man.t1 2 hHeld ?_
          (try simp only [Act.put, Mqa, Mqb, Mqc])
          refine Man.t1 3 hHeld ?_
          (try simp only [Act.put, Mqa, Mqb, Mqc])
          refine Man.t1 4 hHeld ?_
          (try simp only [Act.put, Mqa, Mqb, Mqc])
          refine Man.t1 5 hHeld ?_
          (try simp only [Act.put, Mqa, Mqb, Mqc])
          refine Man.t1 6 hHeld ?_
          (try simp only [Act.put, Mqa, Mqb, Mqc])
          refine Man.t1 7 hHeld ?_
          (try simp only [Act.put, Mqa, Mqb, Mqc])
          refine Man.t1 8 hHeld ?_
          (try simp only [Act.put, Mqa, Mqb, Mqc])
          refine Man.t1 9 hHeld ?_
          (try simp only [Act.put, Mqa, Mqb, Mqc])
          refine Man.t1 10 hHeld ?_
          (try simp only [Act.put, Mqa, Mqb, Mqc])
          refine Man.one (i := 11) rfl (by kernel_rfl) (fun K9 hK => ?_)
          go_simp
          have CC := HP.out m u6 _ (HMK.out _ HBD.out).1 (HMK.out _ HBD.out).2 HSM.out.1 (by have := HSM.out.2.1; omega) o.x ((HR.out o HOM.out).later (HBK.out _ HBD.out)) HOL.out (HI.out o HOM.out).r
          with_reducible refine CC.mono ?_
          rintro e w3 ⟨m2, v2, rfl, hm2, hr2, hp2, hb⟩
          have HZ := hide (HBD.out.trans (hb.mono HBD.out.size))
          have HM2 := hide hm2
          have HR2 := hide hr2
          have HB2 := hide (HB.out.trans (HZ.out.mono HB.out.size))
          have HPM2 := hide (show pcs m2 = steps (pcs a) (ms.take (i + 1)) from by rw [hp2, HS2.out])
          clear hm2 hr2 hp2 hb CC
          refine hK.out _ _ (CE.out _ (HBK.out _ HZ.out)) (fun hNew => ?_)
          clear hK K9 hHeld
          have hHeld := hNew
          clear hNew
          (try simp only [Act.put, Mqa, Mqb, Mqc])
          refine Man.t1 12 hHeld ?_
          (try simp only [Act.put, Mqa, Mqb, Mqc])
          refine wpAnyH_done (by kernel_rfl) ?_ _
          go_wp2_with fail
          go_roundw
          case rel => exact ⟨i + 1, m2, by go_num, by omega, by omega, HM2, HR2, HB2, HPM2⟩
          case measure => simp [intOf]; omega
    · have HM0 := hide (AA.out _ HB.out)
      have HR0 := hide (RA.out _ HB.out)
      have HC : (¬ (i : Int) < (n : Int)) ∨ ((i : Int) < (n : Int) ∧ ¬ (i : Int) < 10) := by omega
      obtain ⟨lo, lc, rfl, _, _⟩ := HM0.out.form
      obtain ⟨ko, kc, rfl, _, _⟩ := HM.out.form
      obtain ⟨na, hna⟩ : ∃ na, na = a.length := ⟨_, rfl⟩
      obtain ⟨nm, hnm2⟩ : ∃ nm, nm = m.length := ⟨_, rfl⟩
      clear hgo hi hi3 HPM AA RA HA HR HI
      rcases HC with g1 | ⟨g1, g2⟩
      · have Aa0 := HM0
        have Ra0 := HR0
        have Am0 := HM
        have Rm0 := HMR
        have Sm := hide HSM.out.1
        have Sa := SA
        clear HM0 HR0 HM HMR SA
        have C := HDF.out a m _ _ wr Aa0.out Ra0.out Sa.out Am0.out Rm0.out Sm.out
        have C := hide C
        go_wp2_with fail
        refine C.out.mono ?_
        rintro e y1 ⟨g, c, gv, cv, rfl, hx, hy, hrx, hry, hpx, hpy, hb⟩
        have HY1 := hide (HBW.out.trans (hb.mono HBW.out.size))
        have Aa1 := hide (Aa0.out.later hb (Nat.le_refl _))
        have Ra1 := hide (Ra0.out.later hb)
        have Am1 := hide (Am0.out.later hb (Nat.le_refl _))
        have Rm1 := hide (Rm0.out.later hb)
        have Ag1 := hide hx
        have Rg1 := hide hrx
        have Ac1 := hide hy
        have Rc1 := hide hry
        have Pg := hide hpx
        have Pc := hide hpy
        have Sg := hide (small_goes Sa.out hpx)
        have Sc := hide (small_goes Sm.out hpy)
        obtain ⟨og, cg, rfl, _, _⟩ := hx.form
        obtain ⟨oc, cc, rfl, _, _⟩ := hy.form
        clear hx hy hrx hry hpx hpy
        clear C hb Aa0 Ra0 Am0 Rm0
        have C := HDF.out m a _ _ y1 Am1.out Rm1.out Sm.out Aa1.out Ra1.out Sa.out
        have C := hide C
        go_wp2_with fail
        refine C.out.mono ?_
        rintro e y2 ⟨k, r, kv, rv, rfl, hx, hy, hrx, hry, hpx, hpy, hb⟩
        have HY2 := hide (HY1.out.trans (hb.mono HY1.out.size))
        have Aa2 := hide (Aa1.out.later hb (Nat.le_refl _))
        have Ra2 := hide (Ra1.out.later hb)
        have Am2 := hide (Am1.out.later hb (Nat.le_refl _))
        have Rm2 := hide (Rm1.out.later hb)
        have Ag2 := hide (Ag1.out.later hb (Nat.le_refl _))
        have Rg2 := hide (Rg1.out.later hb)
        have Ac2 := hide (Ac1.out.later hb (Nat.le_refl _))
        have Rc2 := hide (Rc1.out.later hb)
        have Ak2 := hide hx
        have Rk2 := hide hrx
        have Ar2 := hide hy
        have Rr2 := hide hry
        have Pk := hide hpx
        have Pr := hide hpy
        have Sk := hide (small_goes Sm.out hpx)
        have Sr := hide (small_goes Sa.out hpy)
        obtain ⟨ok, ck, rfl, _, _⟩ := hx.form
        obtain ⟨or, cr, rfl, _, _⟩ := hy.form
        clear hx hy hrx hry hpx hpy
        clear C hb Aa1 Ra1 Am1 Rm1 Ag1 Rg1 Ac1 Rc1 HY1
        have C := HDF.out a a _ _ y2 Aa2.out Ra2.out Sa.out Aa2.out Ra2.out Sa.out
        have C := hide C
        go_wp2_with fail
        refine C.out.mono ?_
        rintro e y3 ⟨x, y, xv, yv, rfl, hx, hy, hrx, hry, hpx, hpy, hb⟩
        have HY3 := hide (HY2.out.trans (hb.mono HY2.out.size))
        have Aa3 := hide (Aa2.out.later hb (Nat.le_refl _))
        have Ra3 := hide (Ra2.out.later hb)
        have Am3 := hide (Am2.out.later hb (Nat.le_refl _))
        have Rm3 := hide (Rm2.out.later hb)
        have Ag3 := hide (Ag2.out.later hb (Nat.le_refl _))
        have Rg3 := hide (Rg2.out.later hb)
        have Ac3 := hide (Ac2.out.later hb (Nat.le_refl _))
        have Rc3 := hide (Rc2.out.later hb)
        have Ak3 := hide (Ak2.out.later hb (Nat.le_refl _))
        have Rk3 := hide (Rk2.out.later hb)
        have Ar3 := hide (Ar2.out.later hb (Nat.le_refl _))
        have Rr3 := hide (Rr2.out.later hb)
        have Ax3 := hide hx
        have Rx3 := hide hrx
        have Ay3 := hide hy
        have Ry3 := hide hry
        have Px := hide hpx
        have Py := hide hpy
        have Sx := hide (small_goes Sa.out hpx)
        have Sy := hide (small_goes Sa.out hpy)
        obtain ⟨ox, cx, rfl, _, _⟩ := hx.form
        obtain ⟨oy, cy, rfl, _, _⟩ := hy.form
        clear hx hy hrx hry hpx hpy
        clear C hb Aa2 Ra2 Am2 Rm2 Ag2 Rg2 Ac2 Rc2 Ak2 Rk2 Ar2 Rr2 HY2
        have ex : x.length = 0 := by rw [← pcs_len, Px.out, goesR_self]; rfl
        have ey : y.length = 0 := by rw [← pcs_len, Py.out, goesR_self]; rfl
        have hlen := goesR_len OA.out HSM.out.2.2
        rw [← Pg.out, ← Pc.out, pcs_len, pcs_len, pcs_len, pcs_len] at hlen
        have b1 := LA.out
        have b2 := HSM.out.2.1
        have b3 : g.length ≤ 1000 := Sg.out.n
        have b4 : c.length ≤ 1000 := Sc.out.n
        have f1 : IntKind.i64.wrap ((a.length : Int) - (g.length : Int)) = (a.length : Int) - (g.length : Int) := by simp only [IntKind.wrap_i64]; omega
        have f2 : IntKind.i64.wrap ((m.length : Int) - (c.length : Int)) = (m.length : Int) - (c.length : Int) := by simp only [IntKind.wrap_i64]; omega
        have g5 : ((a.length : Int) - (g.length : Int) == (m.length : Int) - (c.length : Int)) = true := by simp [hlen]
        clear b1 b2 b3 b4
        have C := HS.out g r _ _ y3 Ag3.out Rg3.out Sg.out Ar3.out Rr3.out Sr.out
        rw [decide_eq_true (show pcs g = pcs r from by rw [Pg.out, Pr.out])] at C
        have C := hide C
        go_wp2_with fail
        refine C.out.mono ?_
        rintro e y4 ⟨rfl, hb⟩
        have HY4 := hide (HY3.out.trans (hb.mono HY3.out.size))
        have Aa4 := hide (Aa3.out.later hb (Nat.le_refl _))
        have Ra4 := hide (Ra3.out.later hb)
        have Am4 := hide (Am3.out.later hb (Nat.le_refl _))
        have Rm4 := hide (Rm3.out.later hb)
        have Ag4 := hide (Ag3.out.later hb (Nat.le_refl _))
        have Rg4 := hide (Rg3.out.later hb)
        have Ac4 := hide (Ac3.out.later hb (Nat.le_refl _))
        have Rc4 := hide (Rc3.out.later hb)
        have Ak4 := hide (Ak3.out.later hb (Nat.le_refl _))
        have Rk4 := hide (Rk3.out.later hb)
        have Ar4 := hide (Ar3.out.later hb (Nat.le_refl _))
        have Rr4 := hide (Rr3.out.later hb)
        have Ax4 := hide (Ax3.out.later hb (Nat.le_refl _))
        have Rx4 := hide (Rx3.out.later hb)
        have Ay4 := hide (Ay3.out.later hb (Nat.le_refl _))
        have Ry4 := hide (Ry3.out.later hb)
        clear C hb Aa3 Ra3 Am3 Rm3 Ag3 Rg3 Ac3 Rc3 Ak3 Rk3 Ar3 Rr3 Ax3 Rx3 Ay3 Ry3 HY3
        have C := HS.out c k _ _ y4 Ac4.out Rc4.out Sc.out Ak4.out Rk4.out Sk.out
        rw [decide_eq_true (show pcs c = pcs k from by rw [Pc.out, Pk.out])] at C
        have C := hide C
        go_wp2_with fail
        refine C.out.mono ?_
        rintro e y5 ⟨rfl, hb⟩
        have HY5 := hide (HY4.out.trans (hb.mono HY4.out.size))
        have Aa5 := hide (Aa4.out.later hb (Nat.le_refl _))
        have Ra5 := hide (Ra4.out.later hb)
        have Am5 := hide (Am4.out.later hb (Nat.le_refl _))
        have Rm5 := hide (Rm4.out.later hb)
        have Ag5 := hide (Ag4.out.later hb (Nat.le_refl _))
        have Rg5 := hide (Rg4.out.later hb)
        have Ac5 := hide (Ac4.out.later hb (Nat.le_refl _))
        have Rc5 := hide (Rc4.out.later hb)
        have Ak5 := hide (Ak4.out.later hb (Nat.le_refl _))
        have Rk5 := hide (Rk4.out.later hb)
        have Ar5 := hide (Ar4.out.later hb (Nat.le_refl _))
        have Rr5 := hide (Rr4.out.later hb)
        have Ax5 := hide (Ax4.out.later hb (Nat.le_refl _))
        have Rx5 := hide (Rx4.out.later hb)
        have Ay5 := hide (Ay4.out.later hb (Nat.le_refl _))
        have Ry5 := hide (Ry4.out.later hb)
        clear C hb Aa4 Ra4 Am4 Rm4 Ag4 Rg4 Ac4 Rc4 Ak4 Rk4 Ar4 Rr4 Ax4 Rx4 Ay4 Ry4 HY4
        have C := HRT.out g _ y5 Ag5.out Rg5.out Sg.out
        rw [decide_eq_true (show Ok Good (pcs g) from by rw [Pg.out]; exact goesR_ok OA.out)] at C
        have C := hide C
        go_wp2_with fail
        refine C.out.mono ?_
        rintro e y6 ⟨rfl, hb⟩
        have HY6 := hide (HY5.out.trans (hb.mono HY5.out.size))
        have Aa6 := hide (Aa5.out.later hb (Nat.le_refl _))
        have Ra6 := hide (Ra5.out.later hb)
        have Am6 := hide (Am5.out.later hb (Nat.le_refl _))
        have Rm6 := hide (Rm5.out.later hb)
        have Ag6 := hide (Ag5.out.later hb (Nat.le_refl _))
        have Rg6 := hide (Rg5.out.later hb)
        have Ac6 := hide (Ac5.out.later hb (Nat.le_refl _))
        have Rc6 := hide (Rc5.out.later hb)
        have Ak6 := hide (Ak5.out.later hb (Nat.le_refl _))
        have Rk6 := hide (Rk5.out.later hb)
        have Ar6 := hide (Ar5.out.later hb (Nat.le_refl _))
        have Rr6 := hide (Rr5.out.later hb)
        have Ax6 := hide (Ax5.out.later hb (Nat.le_refl _))
        have Rx6 := hide (Rx5.out.later hb)
        have Ay6 := hide (Ay5.out.later hb (Nat.le_refl _))
        have Ry6 := hide (Ry5.out.later hb)
        clear C hb Aa5 Ra5 Am5 Rm5 Ag5 Rg5 Ac5 Rc5 Ak5 Rk5 Ar5 Rr5 Ax5 Rx5 Ay5 Ry5 HY5
        have C := HRT.out c _ y6 Ac6.out Rc6.out Sc.out
        rw [decide_eq_true (show Ok Good (pcs c) from by rw [Pc.out]; exact goesR_ok HSM.out.2.2)] at C
        have C := hide C
        go_wp2_with fail
        refine C.out.mono ?_
        rintro e y7 ⟨rfl, hb⟩
        have HY7 := hide (HY6.out.trans (hb.mono HY6.out.size))
        have Aa7 := hide (Aa6.out.later hb (Nat.le_refl _))
        have Ra7 := hide (Ra6.out.later hb)
        have Am7 := hide (Am6.out.later hb (Nat.le_refl _))
        have Rm7 := hide (Rm6.out.later hb)
        have Ag7 := hide (Ag6.out.later hb (Nat.le_refl _))
        have Rg7 := hide (Rg6.out.later hb)
        have Ac7 := hide (Ac6.out.later hb (Nat.le_refl _))
        have Rc7 := hide (Rc6.out.later hb)
        have Ak7 := hide (Ak6.out.later hb (Nat.le_refl _))
        have Rk7 := hide (Rk6.out.later hb)
        have Ar7 := hide (Ar6.out.later hb (Nat.le_refl _))
        have Rr7 := hide (Rr6.out.later hb)
        have Ax7 := hide (Ax6.out.later hb (Nat.le_refl _))
        have Rx7 := hide (Rx6.out.later hb)
        have Ay7 := hide (Ay6.out.later hb (Nat.le_refl _))
        have Ry7 := hide (Ry6.out.later hb)
        clear C hb Aa6 Ra6 Am6 Rm6 Ag6 Rg6 Ac6 Rc6 Ak6 Rk6 Ar6 Rr6 Ax6 Rx6 Ay6 Ry6 HY6
        have C := HK.out y7
        have C := hide C
        go_wp2_with fail
        refine C.out.mono ?_
        rintro e y8 ⟨rfl, hb⟩
        have HY8 := hide (HY7.out.trans (hb.mono HY7.out.size))
        have Aa8 := hide (Aa7.out.later hb (Nat.le_refl _))
        have Ra8 := hide (Ra7.out.later hb)
        have Am8 := hide (Am7.out.later hb (Nat.le_refl _))
        have Rm8 := hide (Rm7.out.later hb)
        have Ag8 := hide (Ag7.out.later hb (Nat.le_refl _))
        have Rg8 := hide (Rg7.out.later hb)
        have Ac8 := hide (Ac7.out.later hb (Nat.le_refl _))
        have Rc8 := hide (Rc7.out.later hb)
        have Ak8 := hide (Ak7.out.later hb (Nat.le_refl _))
        have Rk8 := hide (Rk7.out.later hb)
        have Ar8 := hide (Ar7.out.later hb (Nat.le_refl _))
        have Rr8 := hide (Rr7.out.later hb)
        have Ax8 := hide (Ax7.out.later hb (Nat.le_refl _))
        have Rx8 := hide (Rx7.out.later hb)
        have Ay8 := hide (Ay7.out.later hb (Nat.le_refl _))
        have Ry8 := hide (Ry7.out.later hb)
        clear C hb Aa7 Ra7 Am7 Rm7 Ag7 Rg7 Ac7 Rc7 Ak7 Rk7 Ar7 Rr7 Ax7 Rx7 Ay7 Ry7 HY7
        go_wp2_with fail
        go_ret
        exact ⟨rfl, HY8.out⟩
      · have Aa0 := HM0
        have Ra0 := HR0
        have Am0 := HM
        have Rm0 := HMR
        have Sm := hide HSM.out.1
        have Sa := SA
        clear HM0 HR0 HM HMR SA
        have C := HDF.out a m _ _ wr Aa0.out Ra0.out Sa.out Am0.out Rm0.out Sm.out
        have C := hide C
        go_wp2_with fail
        refine C.out.mono ?_
        rintro e y1 ⟨g, c, gv, cv, rfl, hx, hy, hrx, hry, hpx, hpy, hb⟩
        have HY1 := hide (HBW.out.trans (hb.mono HBW.out.size))
        have Aa1 := hide (Aa0.out.later hb (Nat.le_refl _))
        have Ra1 := hide (Ra0.out.later hb)
        have Am1 := hide (Am0.out.later hb (Nat.le_refl _))
        have Rm1 := hide (Rm0.out.later hb)
        have Ag1 := hide hx
        have Rg1 := hide hrx
        have Ac1 := hide hy
        have Rc1 := hide hry
        have Pg := hide hpx
        have Pc := hide hpy
        have Sg := hide (small_goes Sa.out hpx)
        have Sc := hide (small_goes Sm.out hpy)
        obtain ⟨og, cg, rfl, _, _⟩ := hx.form
        obtain ⟨oc, cc, rfl, _, _⟩ := hy.form
        clear hx hy hrx hry hpx hpy
        clear C hb Aa0 Ra0 Am0 Rm0
        have C := HDF.out m a _ _ y1 Am1.out Rm1.out Sm.out Aa1.out Ra1.out Sa.out
        have C := hide C
        go_wp2_with fail
        refine C.out.mono ?_
        rintro e y2 ⟨k, r, kv, rv, rfl, hx, hy, hrx, hry, hpx, hpy, hb⟩
        have HY2 := hide (HY1.out.trans (hb.mono HY1.out.size))
        have Aa2 := hide (Aa1.out.later hb (Nat.le_refl _))
        have Ra2 := hide (Ra1.out.later hb)
        have Am2 := hide (Am1.out.later hb (Nat.le_refl _))
        have Rm2 := hide (Rm1.out.later hb)
        have Ag2 := hide (Ag1.out.later hb (Nat.le_refl _))
        have Rg2 := hide (Rg1.out.later hb)
        have Ac2 := hide (Ac1.out.later hb (Nat.le_refl _))
        have Rc2 := hide (Rc1.out.later hb)
        have Ak2 := hide hx
        have Rk2 := hide hrx
        have Ar2 := hide hy
        have Rr2 := hide hry
        have Pk := hide hpx
        have Pr := hide hpy
        have Sk := hide (small_goes Sm.out hpx)
        have Sr := hide (small_goes Sa.out hpy)
        obtain ⟨ok, ck, rfl, _, _⟩ := hx.form
        obtain ⟨or, cr, rfl, _, _⟩ := hy.form
        clear hx hy hrx hry hpx hpy
        clear C hb Aa1 Ra1 Am1 Rm1 Ag1 Rg1 Ac1 Rc1 HY1
        have C := HDF.out a a _ _ y2 Aa2.out Ra2.out Sa.out Aa2.out Ra2.out Sa.out
        have C := hide C
        go_wp2_with fail
        refine C.out.mono ?_
        rintro e y3 ⟨x, y, xv, yv, rfl, hx, hy, hrx, hry, hpx, hpy, hb⟩
        have HY3 := hide (HY2.out.trans (hb.mono HY2.out.size))
        have Aa3 := hide (Aa2.out.later hb (Nat.le_refl _))
        have Ra3 := hide (Ra2.out.later hb)
        have Am3 := hide (Am2.out.later hb (Nat.le_refl _))
        have Rm3 := hide (Rm2.out.later hb)
        have Ag3 := hide (Ag2.out.later hb (Nat.le_refl _))
        have Rg3 := hide (Rg2.out.later hb)
        have Ac3 := hide (Ac2.out.later hb (Nat.le_refl _))
        have Rc3 := hide (Rc2.out.later hb)
        have Ak3 := hide (Ak2.out.later hb (Nat.le_refl _))
        have Rk3 := hide (Rk2.out.later hb)
        have Ar3 := hide (Ar2.out.later hb (Nat.le_refl _))
        have Rr3 := hide (Rr2.out.later hb)
        have Ax3 := hide hx
        have Rx3 := hide hrx
        have Ay3 := hide hy
        have Ry3 := hide hry
        have Px := hide hpx
        have Py := hide hpy
        have Sx := hide (small_goes Sa.out hpx)
        have Sy := hide (small_goes Sa.out hpy)
        obtain ⟨ox, cx, rfl, _, _⟩ := hx.form
        obtain ⟨oy, cy, rfl, _, _⟩ := hy.form
        clear hx hy hrx hry hpx hpy
        clear C hb Aa2 Ra2 Am2 Rm2 Ag2 Rg2 Ac2 Rc2 Ak2 Rk2 Ar2 Rr2 HY2
        have ex : x.length = 0 := by rw [← pcs_len, Px.out, goesR_self]; rfl
        have ey : y.length = 0 := by rw [← pcs_len, Py.out, goesR_self]; rfl
        have hlen := goesR_len OA.out HSM.out.2.2
        rw [← Pg.out, ← Pc.out, pcs_len, pcs_len, pcs_len, pcs_len] at hlen
        have b1 := LA.out
        have b2 := HSM.out.2.1
        have b3 : g.length ≤ 1000 := Sg.out.n
        have b4 : c.length ≤ 1000 := Sc.out.n
        have f1 : IntKind.i64.wrap ((a.length : Int) - (g.length : Int)) = (a.length : Int) - (g.length : Int) := by simp only [IntKind.wrap_i64]; omega
        have f2 : IntKind.i64.wrap ((m.length : Int) - (c.length : Int)) = (m.length : Int) - (c.length : Int) := by simp only [IntKind.wrap_i64]; omega
        have g5 : ((a.length : Int) - (g.length : Int) == (m.length : Int) - (c.length : Int)) = true := by simp [hlen]
        clear b1 b2 b3 b4
        have C := HS.out g r _ _ y3 Ag3.out Rg3.out Sg.out Ar3.out Rr3.out Sr.out
        rw [decide_eq_true (show pcs g = pcs r from by rw [Pg.out, Pr.out])] at C
        have C := hide C
        go_wp2_with fail
        refine C.out.mono ?_
        rintro e y4 ⟨rfl, hb⟩
        have HY4 := hide (HY3.out.trans (hb.mono HY3.out.size))
        have Aa4 := hide (Aa3.out.later hb (Nat.le_refl _))
        have Ra4 := hide (Ra3.out.later hb)
        have Am4 := hide (Am3.out.later hb (Nat.le_refl _))
        have Rm4 := hide (Rm3.out.later hb)
        have Ag4 := hide (Ag3.out.later hb (Nat.le_refl _))
        have Rg4 := hide (Rg3.out.later hb)
        have Ac4 := hide (Ac3.out.later hb (Nat.le_refl _))
        have Rc4 := hide (Rc3.out.later hb)
        have Ak4 := hide (Ak3.out.later hb (Nat.le_refl _))
        have Rk4 := hide (Rk3.out.later hb)
        have Ar4 := hide (Ar3.out.later hb (Nat.le_refl _))
        have Rr4 := hide (Rr3.out.later hb)
        have Ax4 := hide (Ax3.out.later hb (Nat.le_refl _))
        have Rx4 := hide (Rx3.out.later hb)
        have Ay4 := hide (Ay3.out.later hb (Nat.le_refl _))
        have Ry4 := hide (Ry3.out.later hb)
        clear C hb Aa3 Ra3 Am3 Rm3 Ag3 Rg3 Ac3 Rc3 Ak3 Rk3 Ar3 Rr3 Ax3 Rx3 Ay3 Ry3 HY3
        have C := HS.out c k _ _ y4 Ac4.out Rc4.out Sc.out Ak4.out Rk4.out Sk.out
        rw [decide_eq_true (show pcs c = pcs k from by rw [Pc.out, Pk.out])] at C
        have C := hide C
        go_wp2_with fail
        refine C.out.mono ?_
        rintro e y5 ⟨rfl, hb⟩
        have HY5 := hide (HY4.out.trans (hb.mono HY4.out.size))
        have Aa5 := hide (Aa4.out.later hb (Nat.le_refl _))
        have Ra5 := hide (Ra4.out.later hb)
        have Am5 := hide (Am4.out.later hb (Nat.le_refl _))
        have Rm5 := hide (Rm4.out.later hb)
        have Ag5 := hide (Ag4.out.later hb (Nat.le_refl _))
        have Rg5 := hide (Rg4.out.later hb)
        have Ac5 := hide (Ac4.out.later hb (Nat.le_refl _))
        have Rc5 := hide (Rc4.out.later hb)
        have Ak5 := hide (Ak4.out.later hb (Nat.le_refl _))
        have Rk5 := hide (Rk4.out.later hb)
        have Ar5 := hide (Ar4.out.later hb (Nat.le_refl _))
        have Rr5 := hide (Rr4.out.later hb)
        have Ax5 := hide (Ax4.out.later hb (Nat.le_refl _))
        have Rx5 := hide (Rx4.out.later hb)
        have Ay5 := hide (Ay4.out.later hb (Nat.le_refl _))
        have Ry5 := hide (Ry4.out.later hb)
        clear C hb Aa4 Ra4 Am4 Rm4 Ag4 Rg4 Ac4 Rc4 Ak4 Rk4 Ar4 Rr4 Ax4 Rx4 Ay4 Ry4 HY4
        have C := HRT.out g _ y5 Ag5.out Rg5.out Sg.out
        rw [decide_eq_true (show Ok Good (pcs g) from by rw [Pg.out]; exact goesR_ok OA.out)] at C
        have C := hide C
        go_wp2_with fail
        refine C.out.mono ?_
        rintro e y6 ⟨rfl, hb⟩
        have HY6 := hide (HY5.out.trans (hb.mono HY5.out.size))
        have Aa6 := hide (Aa5.out.later hb (Nat.le_refl _))
        have Ra6 := hide (Ra5.out.later hb)
        have Am6 := hide (Am5.out.later hb (Nat.le_refl _))
        have Rm6 := hide (Rm5.out.later hb)
        have Ag6 := hide (Ag5.out.later hb (Nat.le_refl _))
        have Rg6 := hide (Rg5.out.later hb)
        have Ac6 := hide (Ac5.out.later hb (Nat.le_refl _))
        have Rc6 := hide (Rc5.out.later hb)
        have Ak6 := hide (Ak5.out.later hb (Nat.le_refl _))
        have Rk6 := hide (Rk5.out.later hb)
        have Ar6 := hide (Ar5.out.later hb (Nat.le_refl _))
        have Rr6 := hide (Rr5.out.later hb)
        have Ax6 := hide (Ax5.out.later hb (Nat.le_refl _))
        have Rx6 := hide (Rx5.out.later hb)
        have Ay6 := hide (Ay5.out.later hb (Nat.le_refl _))
        have Ry6 := hide (Ry5.out.later hb)
        clear C hb Aa5 Ra5 Am5 Rm5 Ag5 Rg5 Ac5 Rc5 Ak5 Rk5 Ar5 Rr5 Ax5 Rx5 Ay5 Ry5 HY5
        have C := HRT.out c _ y6 Ac6.out Rc6.out Sc.out
        rw [decide_eq_true (show Ok Good (pcs c) from by rw [Pc.out]; exact goesR_ok HSM.out.2.2)] at C
        have C := hide C
        go_wp2_with fail
        refine C.out.mono ?_
        rintro e y7 ⟨rfl, hb⟩
        have HY7 := hide (HY6.out.trans (hb.mono HY6.out.size))
        have Aa7 := hide (Aa6.out.later hb (Nat.le_refl _))
        have Ra7 := hide (Ra6.out.later hb)
        have Am7 := hide (Am6.out.later hb (Nat.le_refl _))
        have Rm7 := hide (Rm6.out.later hb)
        have Ag7 := hide (Ag6.out.later hb (Nat.le_refl _))
        have Rg7 := hide (Rg6.out.later hb)
        have Ac7 := hide (Ac6.out.later hb (Nat.le_refl _))
        have Rc7 := hide (Rc6.out.later hb)
        have Ak7 := hide (Ak6.out.later hb (Nat.le_refl _))
        have Rk7 := hide (Rk6.out.later hb)
        have Ar7 := hide (Ar6.out.later hb (Nat.le_refl _))
        have Rr7 := hide (Rr6.out.later hb)
        have Ax7 := hide (Ax6.out.later hb (Nat.le_refl _))
        have Rx7 := hide (Rx6.out.later hb)
        have Ay7 := hide (Ay6.out.later hb (Nat.le_refl _))
        have Ry7 := hide (Ry6.out.later hb)
        clear C hb Aa6 Ra6 Am6 Rm6 Ag6 Rg6 Ac6 Rc6 Ak6 Rk6 Ar6 Rr6 Ax6 Rx6 Ay6 Ry6 HY6
        have C := HK.out y7
        have C := hide C
        go_wp2_with fail
        refine C.out.mono ?_
        rintro e y8 ⟨rfl, hb⟩
        have HY8 := hide (HY7.out.trans (hb.mono HY7.out.size))
        have Aa8 := hide (Aa7.out.later hb (Nat.le_refl _))
        have Ra8 := hide (Ra7.out.later hb)
        have Am8 := hide (Am7.out.later hb (Nat.le_refl _))
        have Rm8 := hide (Rm7.out.later hb)
        have Ag8 := hide (Ag7.out.later hb (Nat.le_refl _))
        have Rg8 := hide (Rg7.out.later hb)
        have Ac8 := hide (Ac7.out.later hb (Nat.le_refl _))
        have Rc8 := hide (Rc7.out.later hb)
        have Ak8 := hide (Ak7.out.later hb (Nat.le_refl _))
        have Rk8 := hide (Rk7.out.later hb)
        have Ar8 := hide (Ar7.out.later hb (Nat.le_refl _))
        have Rr8 := hide (Rr7.out.later hb)
        have Ax8 := hide (Ax7.out.later hb (Nat.le_refl _))
        have Rx8 := hide (Rx7.out.later hb)
        have Ay8 := hide (Ay7.out.later hb (Nat.le_refl _))
        have Ry8 := hide (Ry7.out.later hb)
        clear C hb Aa7 Ra7 Am7 Rm7 Ag7 Rg7 Ac7 Rc7 Ak7 Rk7 Ar7 Rr7 Ax7 Rx7 Ay7 Ry7 HY7
        go_wp2_with fail
        go_ret
        exact ⟨rfl, HY8.out⟩
end Prd
end Go.Proofs.Ytoacombaddknfaa
