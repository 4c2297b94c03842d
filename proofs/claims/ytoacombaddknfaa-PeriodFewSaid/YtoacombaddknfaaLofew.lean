/- PeriodFew: coalesced pieces have at each time the same row; none touches one of the same row; coalesced again they are the same; there are no more than before: for all scripts, times. No other condition. -/
import Derived.Test.YtoacombaddknfaaR13
import Derived.Test.YtoacombaddknfaaFra
import Derived.WideKeyPair
import Derived.SizedLaws
namespace Go.Proofs.Ytoacombaddknfaa
open Go.ChangeShapes Go.WideShapes Go.ChangeAt Go.RowKit
open Go.ChangeMaps (open_string shut_string)
namespace LaPeriodFew
open Prd
open Spn (hide)
open Spn (Sp At below_alloc Right)
open Cod (V RowAt S)
theorem atP_mem {α : Type} {l : List (Sp × α)} {t : Int} {r : α} (h : atP l t = some r) : ∃ p, p ∈ l ∧ p.2 = r := by
  induction l with
  | nil => simp [atP] at h
  | cons p l ih =>
    unfold atP at h
    split at h
    · exact ⟨p, by simp, by simpa using h⟩
    · obtain ⟨q, hq, e⟩ := ih h
      exact ⟨q, by simp [hq], e⟩
def rowOf (o : Option (List V)) : List V := o.getD []
theorem rowOf_small {l : List Pm} (hs : Small l) (t : Int) : (rowOf (atR (pcs l) t)).length ≤ 1000000 := by
  unfold rowOf
  cases h : atR (pcs l) t with
  | none => simp
  | some r =>
    unfold atR at h
    split at h
    · obtain ⟨p, hp, e⟩ := atP_mem h
      obtain ⟨x, hx, rfl⟩ := List.mem_map.1 hp
      show r.length ≤ _
      rw [← e]
      exact hs.r x hx
    · cases h
theorem at_one {l : List Pm} {t : Int} {w w' : World} {e : Ending} (h : MAtP l t w e w') : ∃ (ao : Option Addr) (ac : Nat), e = .returned (.tuple #[.slice ao (rowOf (atR (pcs l) t)).length ac, .bool (atR (pcs l) t).isSome]) ∧ RowAt (rowOf (atR (pcs l) t)) (.slice ao (rowOf (atR (pcs l) t)).length ac) w' ∧ Below w.heap.size w w' := by
  obtain ⟨h1, hb⟩ := h
  rcases h1 with ⟨r, ro, rc, h2, h3, h4⟩ | ⟨h2, h3⟩
  · rw [h2]
    exact ⟨ro, rc, h3, h4, hb⟩
  · rw [h2]
    exact ⟨none, 0, h3, ⟨none, 0, rfl, fun hne => absurd rfl hne⟩, hb⟩
set_option maxHeartbeats 16000000 in
set_option maxRecDepth 100000 in
theorem walk {os : List Opv} {sv : Value} {w : World} (h : OpsAt os sv w) (hr : OpRows os w) (hi : ∀ o, o ∈ os → o.x.inn) (t : Int) :
    Calls Try.prog 6 #[sv, .int .i64 t] w fun x w' => x = .returned (.bool true) ∧ Below w.heap.size w w' := by
  have CB := hide (build_any putC dropC h hr hi)
  obtain ⟨so, sc, rfl, _, _⟩ := h.form
  clear h hr hi
  go_enter Try.func6, Try.ntmps6
  go_wp2_with fail
  refine CB.out.mono ?_
  rintro e w1 ⟨m, mv, rfl, hp1, hr1, he1, hl1, hs1, hb⟩
  have HB1 := hide hb
  have HM := hide hp1
  have HMR := hide hr1
  have HMS := hide hs1
  have HML := hide hl1
  have HOK := hide (show Ok Prd.Good (pcs m) from by rw [he1]; exact made_ok os)
  have C2 := hide (coal_any hp1 hr1 hs1)
  obtain ⟨mo, mc, rfl, _, _⟩ := hp1.form
  clear hb hp1 hr1 he1 hl1 hs1 CB
  go_wp2_with fail
  refine C2.out.mono ?_
  rintro e w2 ⟨c, cv, rfl, ho2, he2, hb⟩
  have HC := hide ho2.o.pieces
  have HCR := hide ho2.r
  have HPC := hide (show pcs c = coal (pcs m) from by rw [he2]; exact if_pos HOK.out)
  have HCS := hide (show Small c from small_of HMS.out (by have h9 := coal_len3 HPC.out; have := HML.out; omega) (fun p hp => by
    have hok2 := (coal_all HOK.out).1
    have hp2 : p ∈ coal (pcs m) := by rw [← HPC.out]; exact hp
    have hr2 := hok2.one p hp2
    have e1 : atP (coal (pcs m)) p.1.1 = some p.2 := (atP_some hok2).2 ⟨p, hp2, ⟨hr2.1, Int.le_refl _, hr2.1.2.1⟩, rfl⟩
    rw [(coal_all HOK.out).2.2] at e1
    obtain ⟨q, hq, eq⟩ := atP_mem e1
    exact ⟨q, hq, eq.symm⟩))
  have HCO := hide (show Ok Prd.Good (pcs c) from by rw [HPC.out]; exact (coal_all HOK.out).1)
  have HCF := hide (show Few (pcs c) from by rw [HPC.out]; exact (coal_all HOK.out).2.1)
  have HAT := hide (show atR (pcs c) t = atR (pcs m) t from by unfold atR; rw [if_pos HCO.out, if_pos HOK.out, HPC.out, (coal_all HOK.out).2.2])
  have HCL := hide (coal_len3 HPC.out)
  have HB2 := hide (HB1.out.trans (hb.mono HB1.out.size))
  have HM2 := hide (HM.out.later hb (Nat.le_refl _))
  have HMR2 := hide (HMR.out.later hb)
  have C3 := hide (mat_any HM2.out HMR2.out HMS.out t)
  obtain ⟨co, cc, rfl, _, _⟩ := HC.out.form
  clear hb ho2 he2 C2 HM HMR
  go_wp2_with fail
  refine C3.out.mono ?_
  intro e w3 hat
  obtain ⟨ao, ac, rfl, hrow, hb⟩ := at_one hat
  obtain ⟨ra, hra⟩ : ∃ ra, ra = rowOf (atR (pcs m) t) := ⟨_, rfl⟩
  obtain ⟨is, his⟩ : ∃ is, is = (atR (pcs m) t).isSome := ⟨_, rfl⟩
  rw [← hra] at hrow ⊢
  rw [← his]
  have HRA := hide hra
  have HIS := hide his
  have HRL := hide (show ra.length ≤ 1000000 from by rw [hra]; exact rowOf_small HMS.out t)
  have HW := hide hrow
  have HB3 := hide (HB2.out.trans (hb.mono HB2.out.size))
  have HC3 := hide (HC.out.later hb (Nat.le_refl _))
  have HCR3 := hide (HCR.out.later hb)
  have C4 := hide (mat_any HC3.out HCR3.out HCS.out t)
  clear hb hat hrow hra his C3 HC HCR HM2 HMR2
  go_wp2_with fail
  refine C4.out.mono ?_
  intro e w4 hat
  obtain ⟨bo, bc, rfl, hrow, hb⟩ := at_one hat
  rw [HAT.out, ← HRA.out] at hrow ⊢
  rw [← HIS.out]
  have HW4 := hide (HW.out.later hb)
  have HV4 := hide hrow
  have HB4 := hide (HB3.out.trans (hb.mono HB3.out.size))
  have HC4 := hide (HC3.out.later hb (Nat.le_refl _))
  have HCR4 := hide (HCR3.out.later hb)
  clear hb hat hrow C4 HW HC3 HCR3
  obtain ⟨n, hn⟩ : ∃ n, n = c.length := ⟨_, rfl⟩
  have hl : n ≤ 1000 := by rw [hn]; exact HCS.out.n
  rw [← hn]
  have HN := hide hn
  clear hn
  go_wp2_with fail
  go_loopw [11] (fun ii wr => ∃ i : Nat, ii = .int .i64 i ∧ 1 ≤ i ∧ (i ≤ n ∨ i = 1) ∧ Hid (Below w4.heap.size w4 wr)) (fun ii _ => (n + 1 - (intOf ii).toNat))
  case atStart => exact ⟨1, rfl, by omega, .inr rfl, hide (Below.refl _ _)⟩
  case round =>
    rename World => wr
    obtain ⟨i, rfl, hi1, hin, HB⟩ := hrel
    rcases Nat.lt_or_ge i n with hlt | hge
    · have g1 : (i : Int) < (n : Int) := by omega
      have hil : i < c.length := by rw [← HN.out]; exact hlt
      obtain ⟨q, hq⟩ : ∃ q, q = i - 1 := ⟨_, rfl⟩
      have hql : q < c.length := by omega
      have f1 : (i : Int) - 1 = (q : Int) := by omega
      have f2 : IntKind.i64.wrap (q : Int) = (q : Int) := by simp only [IntKind.wrap_i64]; omega
      have f3 : (q : Int) < (n : Int) := by omega
      obtain ⟨b0, off, cap, he, hbw, k0, k1, k2⟩ := (HC4.out.later HB.out (Nat.le_refl _)).at i hil
      rw [← HN.out] at he
      simp only [Value.slice.injEq, true_and] at he
      obtain ⟨rfl, rfl⟩ := he
      have HNT := hide (show ¬ ((c[q]).s.2 = (c[i]).s.1 ∧ (c[q]).r = (c[i]).r) from fun h9 => by
        have hiq : i = q + 1 := by omega
        subst hiq
        have h8 := few_at HCF.out q (by rw [pcs_len]; omega)
        rw [pcs_at c q hql, pcs_at c (q + 1) hil] at h8
        exact h8 h9)
      have CP := hide (show ∀ u : World, Below w4.heap.size w4 u → ∀ (z : Nat) (hz : z < c.length), u.cell? ⟨b0, off + z * 3, none⟩ = some (.int .i64 (c[z]).s.1) ∧ u.cell? ⟨b0, off + z * 3 + 1, none⟩ = some (.int .i64 (c[z]).s.2) ∧ u.cell? ⟨b0, off + z * 3 + 2, none⟩ = some (.slice (c[z]).ro (c[z]).r.length (c[z]).rc) from fun u hu z hz => ((HC4.out.later hu (Nat.le_refl _)).got z hz).2)
      have hmi := List.getElem_mem hil
      have hmq := List.getElem_mem hql
      obtain ⟨x, hx⟩ : ∃ x, x = c[i] := ⟨_, rfl⟩
      obtain ⟨y, hy⟩ : ∃ y, y = c[q] := ⟨_, rfl⟩
      have CE := hide (show ∀ u : World, Below w4.heap.size w4 u → (u.cell? ⟨b0, off + q * 3 + 1, none⟩ = some (.int .i64 y.s.2) ∧ u.cell? ⟨b0, off + q * 3 + 2, none⟩ = some (.slice y.ro y.r.length y.rc) ∧ u.cell? ⟨b0, off + i * 3, none⟩ = some (.int .i64 x.s.1) ∧ u.cell? ⟨b0, off + i * 3 + 2, none⟩ = some (.slice x.ro x.r.length x.rc)) from fun u hu => by
        have h1 := CP.out u hu i hil
        have h2 := CP.out u hu q hql
        rw [← hx] at h1
        rw [← hy] at h2
        exact ⟨h2.2.1, h2.2.2, h1.1, h1.2.2⟩)
      rw [← hx, ← hy] at HNT
      rw [← hx] at hmi
      rw [← hy] at hmq
      have CW := hide (show ∀ u : World, Below w4.heap.size w4 u → Calls Try.prog 22 #[.slice y.ro y.r.length y.rc, .slice x.ro x.r.length x.rc] u fun e w' => e = .returned (.bool (decide (y.r = x.r))) ∧ Below u.heap.size u w' from fun u hu => Cod.rows_any y.r x.r y.sl x.sl (HCS.out.r _ hmq) (HCS.out.r _ hmi) u ((HCR4.out.later hu) _ hmq) ((HCR4.out.later hu) _ hmi))
      have HBD := hide HB.out.drew
      clear hx hy hq hmi hmq k0 k1 k2 hbw
      by_cases hto : y.s.2 = x.s.1
      · have g2 : (y.s.2 == x.s.1) = true := by simpa using hto
        have hne : y.r ≠ x.r := fun h9 => HNT.out ⟨hto, h9⟩
        have C5 := CW.out _ HBD.out
        rw [decide_eq_false hne] at C5
        have C5 := hide C5
        clear hto hne
        go_wp2_with fail
        refine wp_region_held_drew (S := fun u => u.cell? ⟨b0, off + q * 3 + 1, none⟩ = some (.int .i64 y.s.2) ∧ u.cell? ⟨b0, off + q * 3 + 2, none⟩ = some (.slice y.ro y.r.length y.rc) ∧ u.cell? ⟨b0, off + i * 3, none⟩ = some (.int .i64 x.s.1) ∧ u.cell? ⟨b0, off + i * 3 + 2, none⟩ = some (.slice x.ro x.r.length x.rc)) (by kernel_rfl) (CE.out _ HBD.out) (fun hHeld => ?_)
        refine Man.t1 0 hHeld ?_
        (try simp only [Act.put, Mqa, Mqb, Mqc])
        refine Man.t1 1 hHeld ?_
        (try simp only [Act.put, Mqa, Mqb, Mqc])
        refine Man.t1 2 hHeld ?_
        (try simp only [Act.put, Mqa, Mqb, Mqc])
        refine Man.t1 3 hHeld ?_
        (try simp only [Act.put, Mqa, Mqb, Mqc])
        refine Man.t1 4 hHeld ?_
        (try simp only [Act.put, Mqa, Mqb, Mqc])
        refine Man.t1 5 hHeld ?_
        (try simp only [Act.put, Mqa, Mqb, Mqc])
        refine Man.t1 6 hHeld ?_
        (try simp only [Act.put, Mqa, Mqb, Mqc])
        refine Man.t1 7 hHeld ?_
        (try simp only [Act.put, Mqa, Mqb, Mqc])
        refine Man.t1 8 hHeld ?_
        (try simp only [Act.put, Mqa, Mqb, Mqc])
        refine Man.t1 9 hHeld ?_
        (try simp only [Act.put, Mqa, Mqb, Mqc])
        refine Man.t1 10 hHeld ?_
        (try simp only [Act.put, Mqa, Mqb, Mqc])
        refine Man.t1 11 hHeld ?_
        (try simp only [Act.put, Mqa, Mqb, Mqc])
        refine Man.t1 12 hHeld ?_
        (try simp only [Act.put, Mqa, Mqb, Mqc])
        refine Man.t1 13 hHeld ?_
        (try simp only [Act.put, Mqa, Mqb, Mqc])
        refine Man.t1 14 hHeld ?_
        (try simp only [Act.put, Mqa, Mqb, Mqc])
        refine Man.t1 15 hHeld ?_
        (try simp only [Act.put, Mqa, Mqb, Mqc])
        refine Man.t1 16 hHeld ?_
        (try simp only [Act.put, Mqa, Mqb, Mqc])
        refine Man.t1 17 hHeld ?_
        (try simp only [Act.put, Mqa, Mqb, Mqc])
        refine Man.t1 18 hHeld ?_
        (try simp only [Act.put, Mqa, Mqb, Mqc])
        refine Man.t1 19 hHeld ?_
        (try simp only [Act.put, Mqa, Mqb, Mqc])
        refine Man.t1 20 hHeld ?_
        (try simp only [Act.put, Mqa, Mqb, Mqc])
        refine Man.t1 21 hHeld ?_
        (try simp only [Act.put, Mqa, Mqb, Mqc])
        refine Man.t1 22 hHeld ?_
        (try simp only [Act.put, Mqa, Mqb, Mqc])
        refine Man.t1 23 hHeld ?_
        (try simp only [Act.put, Mqa, Mqb, Mqc])
        refine Man.t1 24 hHeld ?_
        (try simp only [Act.put, Mqa, Mqb, Mqc])
        refine Man.t1 25 hHeld ?_
        (try simp only [Act.put, Mqa, Mqb, Mqc])
        refine Man.one (i := 26) rfl (by kernel_rfl) (fun K9 hK => ?_)
        go_simp
        with_reducible refine C5.out.mono ?_
        rintro e z1 ⟨rfl, hb⟩
        have HB6 := hide (HBD.out.trans (hb.mono HBD.out.size))
        clear hb
        refine hK.out _ _ (CE.out _ HB6.out) (fun hNew => ?_)
        clear hK K9 hHeld
        have hHeld := hNew
        clear hNew
        (try simp only [Act.put, Mqa, Mqb, Mqc])
        refine Man.t1 27 hHeld ?_
        (try simp only [Act.put, Mqa, Mqb, Mqc])
        refine wpAnyH_done (by kernel_rfl) ?_ _
        go_wp2_with fail
        go_roundw
        case rel => exact ⟨i + 1, by go_num, by omega, .inl (by omega), HB6⟩
        case measure => simp [intOf]; omega
      · have g2 : (y.s.2 == x.s.1) = false := by simpa using hto
        clear hto
        go_wp2_with fail
        refine wp_region_held_drew (S := fun u => u.cell? ⟨b0, off + q * 3 + 1, none⟩ = some (.int .i64 y.s.2) ∧ u.cell? ⟨b0, off + q * 3 + 2, none⟩ = some (.slice y.ro y.r.length y.rc) ∧ u.cell? ⟨b0, off + i * 3, none⟩ = some (.int .i64 x.s.1) ∧ u.cell? ⟨b0, off + i * 3 + 2, none⟩ = some (.slice x.ro x.r.length x.rc)) (by kernel_rfl) (CE.out _ HBD.out) (fun hHeld => ?_)
        refine Man.t1 0 hHeld ?_
        (try simp only [Act.put, Mqa, Mqb, Mqc])
        refine Man.t1 1 hHeld ?_
        (try simp only [Act.put, Mqa, Mqb, Mqc])
        refine Man.t1 2 hHeld ?_
        (try simp only [Act.put, Mqa, Mqb, Mqc])
        refine Man.t1 3 hHeld ?_
        (try simp only [Act.put, Mqa, Mqb, Mqc])
        refine Man.t1 4 hHeld ?_
        (try simp only [Act.put, Mqa, Mqb, Mqc])
        refine Man.t1 5 hHeld ?_
        (try simp only [Act.put, Mqa, Mqb, Mqc])
        refine Man.t1 6 hHeld ?_
        (try simp only [Act.put, Mqa, Mqb, Mqc])
        refine Man.t1 7 hHeld ?_
        (try simp only [Act.put, Mqa, Mqb, Mqc])
        refine Man.t1 8 hHeld ?_
        (try simp only [Act.put, Mqa, Mqb, Mqc])
        refine Man.t1 9 hHeld ?_
        (try simp only [Act.put, Mqa, Mqb, Mqc])
        refine Man.t1 10 hHeld ?_
        (try simp only [Act.put, Mqa, Mqb, Mqc])
        refine Man.t1 11 hHeld ?_
        (try simp only [Act.put, Mqa, Mqb, Mqc])
        refine Man.t1 12 hHeld ?_
        (try simp only [Act.put, Mqa, Mqb, Mqc])
        refine Man.t1 13 hHeld ?_
        (try simp only [Act.put, Mqa, Mqb, Mqc])
        refine Man.t1 14 hHeld ?_
        (try simp only [Act.put, Mqa, Mqb, Mqc])
        refine Man.take0 (i := 15) rfl (by kernel_rfl) (by kernel_rfl) (by kernel_rfl) (fun _ _ _ h => h) (by rfl) hHeld ?_
        (try simp only [Act.put, Mqa, Mqb, Mqc])
        refine Man.take0 (i := 16) rfl (by kernel_rfl) (by kernel_rfl) (by kernel_rfl) (fun _ _ _ h => h) (by rfl) hHeld ?_
        (try simp only [Act.put, Mqa, Mqb, Mqc])
        refine Man.take0 (i := 17) rfl (by kernel_rfl) (by kernel_rfl) (by kernel_rfl) (fun _ _ _ h => h) (by rfl) hHeld ?_
        (try simp only [Act.put, Mqa, Mqb, Mqc])
        refine Man.take0 (i := 18) rfl (by kernel_rfl) (by kernel_rfl) (by kernel_rfl) (fun _ _ _ h => h) (by rfl) hHeld ?_
        (try simp only [Act.put, Mqa, Mqb, Mqc])
        refine Man.take0 (i := 19) rfl (by kernel_rfl) (by kernel_rfl) (by kernel_rfl) (fun _ _ _ h => h) (by rfl) hHeld ?_
        (try simp only [Act.put, Mqa, Mqb, Mqc])
        refine Man.take0 (i := 20) rfl (by kernel_rfl) (by kernel_rfl) (by kernel_rfl) (fun _ _ _ h => h) (by rfl) hHeld ?_
        (try simp only [Act.put, Mqa, Mqb, Mqc])
        refine Man.take0 (i := 21) rfl (by kernel_rfl) (by kernel_rfl) (by kernel_rfl) (fun _ _ _ h => h) (by rfl) hHeld ?_
        (try simp only [Act.put, Mqa, Mqb, Mqc])
        refine Man.take0 (i := 22) rfl (by kernel_rfl) (by kernel_rfl) (by kernel_rfl) (fun _ _ _ h => h) (by rfl) hHeld ?_
        (try simp only [Act.put, Mqa, Mqb, Mqc])
        refine Man.take0 (i := 23) rfl (by kernel_rfl) (by kernel_rfl) (by kernel_rfl) (fun _ _ _ h => h) (by rfl) hHeld ?_
        (try simp only [Act.put, Mqa, Mqb, Mqc])
        refine Man.take0 (i := 24) rfl (by kernel_rfl) (by kernel_rfl) (by kernel_rfl) (fun _ _ _ h => h) (by rfl) hHeld ?_
        (try simp only [Act.put, Mqa, Mqb, Mqc])
        refine Man.take0 (i := 25) rfl (by kernel_rfl) (by kernel_rfl) (by kernel_rfl) (fun _ _ _ h => h) (by rfl) hHeld ?_
        (try simp only [Act.put, Mqa, Mqb, Mqc])
        refine Man.take0 (i := 26) rfl (by kernel_rfl) (by kernel_rfl) (by kernel_rfl) (fun _ _ _ h => h) (by rfl) hHeld ?_
        (try simp only [Act.put, Mqa, Mqb, Mqc])
        refine Man.t1 27 hHeld ?_
        (try simp only [Act.put, Mqa, Mqb, Mqc])
        refine wpAnyH_done (by kernel_rfl) ?_ _
        go_wp2_with fail
        go_roundw
        case rel => exact ⟨i + 1, by go_num, by omega, .inl (by omega), HBD⟩
        case measure => simp [intOf]; omega
    · have g1 : ¬ (i : Int) < (n : Int) := by omega
      have HBx := hide (HB4.out.trans (HB.out.mono HB4.out.size))
      have C5 := hide (Cod.rows_any ra ra _ _ HRL.out HRL.out wr (HW4.out.later HB.out) (HV4.out.later HB.out))
      rw [decide_eq_true rfl] at C5
      have HC5 := hide (HC4.out.later HB.out (Nat.le_refl _))
      have HCR5 := hide (HCR4.out.later HB.out)
      have g2 : (n : Int) ≤ (m.length : Int) := by have := HCL.out; have := HN.out; omega
      go_wp2_with fail
      refine C5.out.mono ?_
      rintro e w6 ⟨rfl, hb⟩
      have HB6 := hide (HBx.out.trans (hb.mono HBx.out.size))
      have HC6 := hide (HC5.out.later hb (Nat.le_refl _))
      have HCR6 := hide (HCR5.out.later hb)
      have C6 := hide (coal_any HC6.out HCR6.out HCS.out)
      rw [← HN.out] at C6
      clear hb C5 HC5 HCR5 HBx
      go_wp2_with fail
      refine C6.out.mono ?_
      rintro e w7 ⟨d, dv, rfl, ho7, he7, hb⟩
      have HB7 := hide (HB6.out.trans (hb.mono HB6.out.size))
      have HC7 := hide (HC6.out.later hb (Nat.le_refl _))
      have HCR7 := hide (HCR6.out.later hb)
      have HDE := hide (show pcs d = pcs c from by rw [he7, show coalR (pcs c) = coal (pcs c) from if_pos HCO.out, HPC.out, coal_again HOK.out])
      have HDS := hide (show Small d from small_of HCS.out (by have h9 := congrArg List.length HDE.out; rw [pcs_len, pcs_len] at h9; have := HCS.out.n; omega) (fun p hp => ⟨p, by rw [← HDE.out]; exact hp, rfl⟩))
      have C7 := hide (same_any ho7.o.pieces ho7.r HDS.out HC7.out HCR7.out HCS.out)
      rw [decide_eq_true HDE.out, ← HN.out] at C7
      clear hb ho7 he7 C6 HC6 HCR6
      go_wp2_with fail
      refine C7.out.mono ?_
      rintro e w8 ⟨rfl, hb⟩
      have HB8 := hide (HB7.out.trans (hb.mono HB7.out.size))
      have HC8 := hide (HC7.out.later hb (Nat.le_refl _))
      have HCR8 := hide (HCR7.out.later hb)
      have C8 := hide (right_any HC8.out HCR8.out HCS.out)
      rw [decide_eq_true HCO.out, ← HN.out] at C8
      clear hb C7 HC7 HCR7
      go_wp2_with fail
      refine C8.out.mono ?_
      rintro e w9 ⟨rfl, hb⟩
      have HB9 := hide (HB8.out.trans (hb.mono HB8.out.size))
      have C9 := hide (known_any w9)
      clear hb C8 HC8 HCR8
      go_wp2_with fail
      refine C9.out.mono ?_
      rintro e w10 ⟨rfl, hb⟩
      have HB10 := hide (HB9.out.trans (hb.mono HB9.out.size))
      clear hb C9
      go_wp2_with fail
      go_ret
      exact ⟨rfl, HB10.out⟩
theorem laidOut : laidOutB Try.prog = true := by kernel_rfl
set_option maxRecDepth 100000 in
theorem contract (H : Type) (enc : TypeId × Value → H) (W : World) (base : Nat) (args : Array Value) (ds gs : List (DataW H)) (before : List MemPlace)
    (hval : ∀ (j : Nat) t v, Try.f6.params[j]? = some t → args[j]? = some v → Value.okWide Try.prog W .any base t v)
    (hW : DataW.Whole enc Try.prog Try.f6.params.toList Rows.periodFewSpec.vars false W args.toList ds gs before)
    (hsz0 : (DataW.weightsEach Try.prog (Try.f6.params.toList ++ Rows.periodFewSpec.plain.varTypes Try.prog) (ds ++ gs)).all (· ≤ reachBytes) = true) :
    Calls Try.prog 6 args W fun e W' => ∃ v, e = .returned v ∧ Rows.periodFewSpec.post enc Try.prog Try.f6 false true false false W args v W' := by
  have hW' := hW
  obtain ⟨p, q, hA0, hV, rfl, hfz, hnd⟩ := hW
  have hA : DataW.TrodAll enc Try.prog W 0 (fun _ => true) true Try.f6.params.toList args.toList ds p := hA0
  rw [Try.params6] at hA hval hsz0
  obtain ⟨v0, vs0, d0, ds0, p0, q0, hargs, rfl, rfl, h0, r0⟩ := trodAll_cons hA
  obtain ⟨v1, vs1, d1, ds1, p1, q1, rfl, rfl, rfl, h1, r1⟩ := trodAll_cons r0
  obtain ⟨rfl, rfl, rfl⟩ := trodAll_nil r1
  obtain rfl : args = #[v0, v1] := by cases args; simp_all
  obtain ⟨rfl, rfl⟩ := trodVars_none hV
  have hsz := fun n hn => of_decide_eq_true (List.all_eq_true.1 hsz0 n hn)
  obtain ⟨t, rfl, hd1, hp1, wt⟩ := open_int Try.underlying3 (hval 1 3 v1 rfl rfl) h1
  have bt := bounds_i64 wt
  obtain ⟨s, hms, hrs, his⟩ := Prd.open_ops (hval 0 50 v0 rfl rfl) h0 (fun n hn => hsz n (DataW.weights_mem_each (j := 0) (t := 50) rfl rfl n hn))
  clear hA0 hsz0
  simp only [List.append_nil] at hW'
  have hlt : ∀ x ∈ p0 ++ p1, x.block < W.heap.size := fun x hx => hW'.lt x (by simpa using hx)
  have walk := walk hms hrs his t
  refine walk.mono fun e W' ⟨he, hg⟩ => ?_
  subst he
  refine ⟨_, rfl, Fr.post_made (pa := p0 ++ p1) (pv := []) hW' (fun _ _ _ => trodAll_cons_mk (shut_bool Try.underlying4 _) trodAll_mk0) (fun sp hsp => ?_) (fun _ _ => rfl) (by simp) hg (ok_one (by kernel_rfl) rfl (okWide_bool_mk Try.underlying4 _))⟩
  have g0 : DataW.Trod enc Try.prog W' 0 sp true 50 _ d0 p0 := WideElems.Trod_stays laidOut (by kernel_rfl) (of_decide_eq_true (by kernel_rfl)) h0 (fun x hx => hg.same (hlt x (by simp [hx]))) (fun x hx => hsp x (by simp [hx]))
  have g1 : DataW.Trod enc Try.prog W' 0 sp true 3 _ d1 p1 := WideElems.Trod_stays laidOut (by kernel_rfl) (of_decide_eq_true (by kernel_rfl)) h1 (fun x hx => hg.same (hlt x (by simp [hx]))) (fun x hx => hsp x (by simp [hx]))
  have hT := (trodAll_cons_mk g0 (trodAll_cons_mk g1 trodAll_mk0))
  simp only [List.append_nil] at hT
  exact hT
set_option maxRecDepth 100000 in
theorem lifted (os : Os) (started : os.Started) (H : Type) (enc : TypeId × Value → H) :
    ReturnsInHanded {} Try.checked os 6 .any (Rows.periodFewSpec.pre6 enc Try.prog Try.f6 Rows.periodFewRow.domain false) (Rows.periodFewSpec.post enc Try.prog Try.f6 false true false false) := by
  refine returnsInHanded_of_change_sized (C := Try.checked) Fr.own started (by kernel_rfl) Try.func6
    (ChangeSpec.witness6 (enc := enc) (C := Try.checked) false ⟨#[], #[.slice none 0 0, .int .i64 0], []⟩ 8 (by kernel_rfl) (by kernel_rfl) (by kernel_rfl) (by kernel_rfl)) ?_
  intro W base args ds gs before hval hW _ hsz _
  exact contract H enc W base args ds gs before hval hW hsz
theorem said : Rows.PeriodFewSaid :=
  OpenClaim.holds_of_wide 6 Try.f6 rfl rfl rfl rfl rfl rfl rfl ⟨rfl, rfl, rfl, rfl, rfl⟩ rfl rfl rfl rfl rfl (by kernel_rfl) Try.func6 (by kernel_rfl)
    (of_decide_eq_true (by kernel_rfl)) (by unfold Func.isWrapper; first | (rw [if_pos (by decide +kernel)]; kernel_rfl) | (rw [if_neg (by decide +kernel)]; exact ⟨rfl, rfl⟩))
    (fun os started H enc _ => lifted os started H enc)
end LaPeriodFew
end Go.Proofs.Ytoacombaddknfaa
