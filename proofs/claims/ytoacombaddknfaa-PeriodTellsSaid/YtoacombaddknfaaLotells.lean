/- PeriodTells: what comes of Put, Drop, At and Coalesce is as the document says: for all pieces, spans, rows, times. No other condition. -/
import Derived.Test.YtoacombaddknfaaR13
import Derived.Test.YtoacombaddknfaaFra
import Derived.WideKeyPair
import Derived.SizedLaws
namespace Go.Proofs.Ytoacombaddknfaa
open Go.ChangeShapes Go.WideShapes Go.ChangeAt Go.RowKit
open Go.ChangeMaps (open_string shut_string)
namespace LaPeriodTells
open Prd
open Spn (hide)
open Spn (Sp At below_alloc Right Has)
open Cod (V RowAt S)
theorem atP_mem {α : Type} {l : List (Sp × α)} {t : Int} {r : α} (h : atP l t = some r) : ∃ p, p ∈ l ∧ p.2 = r := by
  induction l with
  | nil => simp [atP] at h
  | cons p l ih =>
    unfold atP at h
    split at h
    · exact ⟨p, by simp, by simpa using h⟩
    · obtain ⟨q, hq, e⟩ := ih h
      exact ⟨q, by simp [hq], e⟩
def rowOf (o : Option (List V)) : List V := o.getD []
theorem rowOf_small {l : List Pm} (hs : Small l) (t : Int) : (rowOf (atR (pcs l) t)).length ≤ 1000000 := by
  unfold rowOf
  cases h : atR (pcs l) t with
  | none => simp
  | some r =>
    unfold atR at h
    split at h
    · obtain ⟨p, hp, e⟩ := atP_mem h
      obtain ⟨x, hx, rfl⟩ := List.mem_map.1 hp
      show r.length ≤ _
      rw [← e]
      exact hs.r x hx
    · cases h
theorem at_one {l : List Pm} {t : Int} {w w' : World} {e : Ending} (h : MAtP l t w e w') : ∃ (ao : Option Addr) (ac : Nat), e = .returned (.tuple #[.slice ao (rowOf (atR (pcs l) t)).length ac, .bool (atR (pcs l) t).isSome]) ∧ RowAt (rowOf (atR (pcs l) t)) (.slice ao (rowOf (atR (pcs l) t)).length ac) w' ∧ Below w.heap.size w w' := by
  obtain ⟨h1, hb⟩ := h
  rcases h1 with ⟨r, ro, rc, h2, h3, h4⟩ | ⟨h2, h3⟩
  · rw [h2]
    exact ⟨ro, rc, h3, h4, hb⟩
  · rw [h2]
    exact ⟨none, 0, h3, ⟨none, 0, rfl, fun hne => absurd rfl hne⟩, hb⟩
theorem len_put {l m : List Pm} {s : Sp} {r : List V} (hl : l.length ≤ 40) (h : pcs m = putP (pcs l) s r) : m.length ≤ 1000 := by
  have h1 := congrArg List.length h
  rw [pcs_len] at h1
  rw [h1]
  unfold putP
  split
  · rw [lay_len]
    have := away_len (pcs l) s
    rw [pcs_len] at this
    omega
  · rw [pcs_len]; omega
theorem len_drop {l m : List Pm} {s : Sp} (hl : l.length ≤ 40) (h : pcs m = dropP (pcs l) s) : m.length ≤ 1000 := by
  have h1 := congrArg List.length h
  rw [pcs_len] at h1
  rw [h1]
  unfold dropP
  split
  · have := away_len (pcs l) s
    rw [pcs_len] at this
    omega
  · rw [pcs_len]; omega
theorem len_coal {l m : List Pm} (hl : l.length ≤ 40) (h : pcs m = coalR (pcs l)) : m.length ≤ 1000 := by
  have h1 := congrArg List.length h
  rw [pcs_len] at h1
  rw [h1]
  unfold coalR
  split
  · have := coal_len (pcs l)
    rw [pcs_len] at this
    omega
  · rw [pcs_len]; omega
theorem small_same {l m : List Pm} (hs : Small l) (h : pcs m = pcs l) : Small m := by
  refine small_of hs ?_ (fun p hp => ⟨p, by rw [← h]; exact hp, rfl⟩)
  have h1 := congrArg List.length h
  rw [pcs_len, pcs_len] at h1
  have := hs.n
  omega
theorem rat_one {l : List Pm} {t : Int} {w w' : World} {e : Ending} (hr : Rows3 l w') (h : ((∃ x, x ∈ l ∧ atR (pcs l) t = some x.r ∧ e = .returned (.tuple #[.slice x.ro x.r.length x.rc, .bool true])) ∨ (atR (pcs l) t = none ∧ e = .returned (.tuple #[.slice none 0 0, .bool false]))) ∧ Below w.heap.size w w') : ∃ (ao : Option Addr) (ac : Nat), e = .returned (.tuple #[.slice ao (rowOf (atR (pcs l) t)).length ac, .bool (atR (pcs l) t).isSome]) ∧ RowAt (rowOf (atR (pcs l) t)) (.slice ao (rowOf (atR (pcs l) t)).length ac) w' ∧ Below w.heap.size w w' := by
  obtain ⟨h1, hb⟩ := h
  rcases h1 with ⟨x, hx, h2, h3⟩ | ⟨h2, h3⟩
  · rw [h2]
    exact ⟨x.ro, x.rc, h3, hr x hx, hb⟩
  · rw [h2]
    exact ⟨none, 0, h3, ⟨none, 0, rfl, fun hne => absurd rfl hne⟩, hb⟩
set_option maxHeartbeats 16000000 in
set_option maxRecDepth 100000 in
theorem walk {l : List Pm} {lv : Value} {w : World} (h : PcsAt l lv w) (hr : Rows3 l w) (hi : ∀ x, x ∈ l → x.inn) (o : Opv) (hor : RowAt o.x.r o.x.sl w) (hoi : o.x.inn) (t : Int) :
    Calls Try.prog 3 #[lv, .agg #[.bool o.d, .int .i64 o.x.s.1, .int .i64 o.x.s.2, .slice o.x.ro o.x.r.length o.x.rc], .int .i64 t] w fun x w' => x = .returned (.bool true) ∧ Below w.heap.size w w' := by
  obtain ⟨w0, hw0⟩ : ∃ w0, w0 = w.alloc (.cells #[.bool o.d, .int .i64 o.x.s.1, .int .i64 o.x.s.2, .slice o.x.ro o.x.r.length o.x.rc] 27) := ⟨_, rfl⟩
  have HB0 := hide (show Below w.heap.size w w0 from by rw [hw0]; exact below_alloc w _)
  have HO0 := hide (show Ob o w.heap.size w0 from by rw [hw0]; exact ⟨by go_keep, by go_keep, by go_keep, by go_keep, by simp⟩)
  have C1 := hide (light_any (h.later HB0.out (Nat.le_refl _)))
  have HL0 := hide (h.later HB0.out (Nat.le_refl _))
  have HR0 := hide (hr.later HB0.out)
  have HOR := hide (show ∀ u, Below w.heap.size w u → RowAt o.x.r o.x.sl u from fun u hu => hor.later hu)
  have HOI := hide hoi.r
  have HI := hide hi
  have HW0 := hide hw0
  obtain ⟨lo, lc, rfl, _, _⟩ := h.form
  clear h hr hi hor hoi hw0
  by_cases hok : lightB l = true ∧ ¬ 20 < o.x.r.length
  · obtain ⟨hlb, h20⟩ := hok
    have g3 : ¬ (20 : Int) < (o.x.r.length : Int) := by omega
    have HOL := hide (show o.x.r.length ≤ 1000000 from by omega)
    have HS := hide (light_small hlb HI.out)
    have HN40 := hide (((lightB_iff l).1 hlb).1)
    have HN4 := hide (show l.length ≤ 400 from by have := HN40.out; omega)
    have HSX := hide (show Small (l ++ [o.x]) from ⟨by rw [List.length_append]; have := HN40.out; simp; omega, fun y hy => by
      rcases List.mem_append.1 hy with h9 | h9
      · exact HS.out.r y h9
      · rw [List.mem_singleton.1 h9]; exact HOL.out, fun y hy => by
      rcases List.mem_append.1 hy with h9 | h9
      · exact HS.out.i y h9
      · rw [List.mem_singleton.1 h9]; exact HOI.out⟩)
    rw [hlb] at C1
    clear hlb h20
    go_enter Try.func3, Try.ntmps3
    go_wp2_with fail
    rw [← HW0.out]
    refine C1.out.mono ?_
    rintro e w1 ⟨rfl, hb⟩
    have HB1 := hide (HB0.out.trans (hb.mono HB0.out.size))
    have HO1 := hide (HO0.out.later hb HO0.out.lt)
    have HL1 := hide (HL0.out.later hb (Nat.le_refl _))
    have HR1 := hide (HR0.out.later hb)
    obtain ⟨j0, j1, j2, j3, _⟩ := HO1.out
    have C2 := hide (plain_any HL1.out HS.out.n)
    clear hb C1 HB0 HO0 HL0 HR0 HW0
    go_wp2_with fail
    refine C2.out.mono ?_
    rintro e w2 ⟨pv, rfl, hp, hb⟩
    have HB2 := hide (HB1.out.trans (hb.mono HB1.out.size))
    have HO2 := hide (HO1.out.later hb HO1.out.lt)
    have HL2 := hide (HL1.out.later hb (Nat.le_refl _))
    have HR2 := hide (HR1.out.later hb)
    have HP2 := hide hp
    have C3 := hide (mat_any HL2.out HR2.out HS.out t)
    clear hb hp C2 HB1 HO1 HL1 HR1 j0 j1 j2 j3
    go_wp2_with fail
    refine C3.out.mono ?_
    intro e w3 hat
    obtain ⟨ao, ac, rfl, hrow, hb⟩ := at_one hat
    obtain ⟨ra, hra⟩ : ∃ ra, ra = rowOf (atR (pcs l) t) := ⟨_, rfl⟩
    obtain ⟨is, his⟩ : ∃ is, is = (atR (pcs l) t).isSome := ⟨_, rfl⟩
    rw [← hra] at hrow ⊢
    rw [← his]
    have HRA := hide hra
    have HIS := hide his
    have HRL := hide (show ra.length ≤ 1000000 from by rw [hra]; exact rowOf_small HS.out t)
    have HW3 := hide hrow
    have HB3 := hide (HB2.out.trans (hb.mono HB2.out.size))
    have HO3 := hide (HO2.out.later hb HO2.out.lt)
    have HL3 := hide (HL2.out.later hb (Nat.le_refl _))
    have HR3 := hide (HR2.out.later hb)
    have HP3 := hide (HP2.out.later hb (Nat.le_refl _))
    have C4 := hide (rat_any HP3.out HR3.out HS.out t)
    clear hb hat hrow hra his C3 HB2 HO2 HL2 HR2 HP2
    go_wp2_with fail
    refine C4.out.mono ?_
    intro e w4 hat
    obtain ⟨bo, bc, rfl, hrow, hb⟩ := rat_one (HR3.out.later hat.2) hat
    rw [← HRA.out] at hrow ⊢
    rw [← HIS.out]
    obtain ⟨z1, hz1⟩ : ∃ z1, z1 = w4.drew := ⟨_, rfl⟩
    have hbd := hb.drew
    rw [← hz1] at hbd
    have hd4 := (Below.refl w4.heap.size w4).drew
    rw [← hz1] at hd4
    have Hwa_1 := hide (HW3.out.later hbd)
    have Hwb_1 := hide (hrow.later hd4)
    have Hb_1 := hide (HB3.out.trans (hbd.mono HB3.out.size))
    have Ho_1 := hide (HO3.out.later hbd HO3.out.lt)
    have Hl_1 := hide (HL3.out.later hbd (Nat.le_refl _))
    have Hrl_1 := hide (HR3.out.later hbd)
    have Hp_1 := hide (HP3.out.later hbd (Nat.le_refl _))
    have CE := hide (show ∀ u : World, Ob o w.heap.size u → (u.cell? ⟨w.heap.size, 1, none⟩ = some (.int .i64 o.x.s.1) ∧ u.cell? ⟨w.heap.size, 2, none⟩ = some (.int .i64 o.x.s.2) ∧ u.cell? ⟨w.heap.size, 3, none⟩ = some (.slice o.x.ro o.x.r.length o.x.rc)) from fun u hu => ⟨hu.c1, hu.c2, hu.c3⟩)
    obtain ⟨bk, hbk⟩ : ∃ bk, bk = decide (Ok Prd.Good (pcs l)) := ⟨_, rfl⟩
    have HBK := hide hbk
    clear hb hbd hd4 hat hrow hbk C4 HW3 HB3 HO3 HL3 HR3 HP3
    go_wp2_with fail
    refine wp_region_held_drew (S := fun u => u.cell? ⟨w.heap.size, 1, none⟩ = some (.int .i64 o.x.s.1) ∧ u.cell? ⟨w.heap.size, 2, none⟩ = some (.int .i64 o.x.s.2) ∧ u.cell? ⟨w.heap.size, 3, none⟩ = some (.slice o.x.ro o.x.r.length o.x.rc)) (by kernel_rfl) (by rw [← hz1]; exact CE.out _ Ho_1.out) (fun hHeld => ?_)
    rw [← hz1] at hHeld ⊢
    clear hz1
    refine Man.t1 0 hHeld ?_
    (try simp only [Act.put, Mqa, Mqb, Mqc])
    refine Man.t1 2 hHeld ?_
    (try simp only [Act.put, Mqa, Mqb, Mqc])
    refine Man.one (i := 1) rfl (by kernel_rfl) (fun K hK => ?_)
    have C := right_any Hl_1.out Hrl_1.out HS.out
    rw [← HBK.out] at C
    go_simp
    with_reducible refine C.mono ?_
    rintro e z2 ⟨rfl, hb⟩
    have Hwa_2 := hide (Hwa_1.out.later hb)
    have Hwb_2 := hide (Hwb_1.out.later hb)
    have Hb_2 := hide (Hb_1.out.trans (hb.mono Hb_1.out.size))
    have Ho_2 := hide (Ho_1.out.later hb Ho_1.out.lt)
    have Hl_2 := hide (Hl_1.out.later hb (Nat.le_refl _))
    have Hrl_2 := hide (Hrl_1.out.later hb)
    have Hp_2 := hide (Hp_1.out.later hb (Nat.le_refl _))
    clear Hwa_1 Hwb_1 Hb_1 Ho_1 Hl_1 Hrl_1 Hp_1
    clear hb C
    refine hK.out _ _ (CE.out _ Ho_2.out) (fun hNew => ?_)
    clear hK K hHeld
    have hHeld := hNew
    clear hNew
    (try simp only [Act.put, Mqa, Mqb, Mqc])
    refine Man.one (i := 3) rfl (by kernel_rfl) (fun K hK => ?_)
    have C := rokay_any Hp_2.out Hrl_2.out HS.out
    rw [← HBK.out] at C
    go_simp
    with_reducible refine C.mono ?_
    rintro e z3 ⟨rfl, hb⟩
    have Hwa_3 := hide (Hwa_2.out.later hb)
    have Hwb_3 := hide (Hwb_2.out.later hb)
    have Hb_3 := hide (Hb_2.out.trans (hb.mono Hb_2.out.size))
    have Ho_3 := hide (Ho_2.out.later hb Ho_2.out.lt)
    have Hl_3 := hide (Hl_2.out.later hb (Nat.le_refl _))
    have Hrl_3 := hide (Hrl_2.out.later hb)
    have Hp_3 := hide (Hp_2.out.later hb (Nat.le_refl _))
    clear Hwa_2 Hwb_2 Hb_2 Ho_2 Hl_2 Hrl_2 Hp_2
    clear hb C
    refine hK.out _ _ (CE.out _ Ho_3.out) (fun hNew => ?_)
    clear hK K hHeld
    have hHeld := hNew
    clear hNew
    (try simp only [Act.put, Mqa, Mqb, Mqc])
    refine Man.t1 4 hHeld ?_
    (try simp only [Act.put, Mqa, Mqb, Mqc])
    refine Man.t1 5 hHeld ?_
    (try simp only [Act.put, Mqa, Mqb, Mqc])
    refine Man.t1 6 hHeld ?_
    (try simp only [Act.put, Mqa, Mqb, Mqc])
    refine Man.t1 7 hHeld ?_
    (try simp only [Act.put, Mqa, Mqb, Mqc])
    refine Man.t1 8 hHeld ?_
    (try simp only [Act.put, Mqa, Mqb, Mqc])
    refine Man.t1 9 hHeld ?_
    (try simp only [Act.put, Mqa, Mqb, Mqc])
    refine Man.t1 10 hHeld ?_
    (try simp only [Act.put, Mqa, Mqb, Mqc])
    refine Man.t1 13 hHeld ?_
    (try simp only [Act.put, Mqa, Mqb, Mqc])
    refine Man.t1 14 hHeld ?_
    (try simp only [Act.put, Mqa, Mqb, Mqc])
    refine Man.t1 15 hHeld ?_
    (try simp only [Act.put, Mqa, Mqb, Mqc])
    refine Man.t1 16 hHeld ?_
    (try simp only [Act.put, Mqa, Mqb, Mqc])
    refine Man.t1 17 hHeld ?_
    (try simp only [Act.put, Mqa, Mqb, Mqc])
    refine Man.one (i := 11) rfl (by kernel_rfl) (fun K hK => ?_)
    have C := put_any Hl_3.out Hrl_3.out HS.out HN4.out o.x (HOR.out _ Hb_3.out) HOL.out HOI.out
    go_simp
    with_reducible refine C.mono ?_
    rintro e z4 ⟨m1, v1, rfl, hp, hr, he, hb⟩
    have Hwa_4 := hide (Hwa_3.out.later hb)
    have Hwb_4 := hide (Hwb_3.out.later hb)
    have Hb_4 := hide (Hb_3.out.trans (hb.mono Hb_3.out.size))
    have Ho_4 := hide (Ho_3.out.later hb Ho_3.out.lt)
    have Hl_4 := hide (Hl_3.out.later hb (Nat.le_refl _))
    have Hrl_4 := hide (Hrl_3.out.later hb)
    have Hp_4 := hide (Hp_3.out.later hb (Nat.le_refl _))
    clear Hwa_3 Hwb_3 Hb_3 Ho_3 Hl_3 Hrl_3 Hp_3
    have Hm1_4 := hide (hp)
    have Hrm1_4 := hide (hr)
    have HE1 := hide he
    have HL1 := hide (len_put HN40.out he)
    clear hp hr he
    clear hb C
    refine hK.out _ _ (CE.out _ Ho_4.out) (fun hNew => ?_)
    clear hK K hHeld
    have hHeld := hNew
    clear hNew
    (try simp only [Act.put, Mqa, Mqb, Mqc])
    refine Man.one (i := 12) rfl (by kernel_rfl) (fun K hK => ?_)
    have C := plain_any Hm1_4.out HL1.out
    go_simp
    with_reducible refine C.mono ?_
    rintro e z5 ⟨q1, rfl, hp, hb⟩
    have Hwa_5 := hide (Hwa_4.out.later hb)
    have Hwb_5 := hide (Hwb_4.out.later hb)
    have Hb_5 := hide (Hb_4.out.trans (hb.mono Hb_4.out.size))
    have Ho_5 := hide (Ho_4.out.later hb Ho_4.out.lt)
    have Hl_5 := hide (Hl_4.out.later hb (Nat.le_refl _))
    have Hrl_5 := hide (Hrl_4.out.later hb)
    have Hp_5 := hide (Hp_4.out.later hb (Nat.le_refl _))
    have Hm1_5 := hide (Hm1_4.out.later hb (Nat.le_refl _))
    have Hrm1_5 := hide (Hrm1_4.out.later hb)
    clear Hwa_4 Hwb_4 Hb_4 Ho_4 Hl_4 Hrl_4 Hp_4 Hm1_4 Hrm1_4
    clear Hm1_5
    have Hq1_5 := hide (hp)
    clear hp
    clear hb C
    refine hK.out _ _ (CE.out _ Ho_5.out) (fun hNew => ?_)
    clear hK K hHeld
    have hHeld := hNew
    clear hNew
    (try simp only [Act.put, Mqa, Mqb, Mqc])
    refine Man.one (i := 18) rfl (by kernel_rfl) (fun K hK => ?_)
    have C := rput_any Hp_5.out Hrl_5.out HS.out HN4.out o.x (HOR.out _ Hb_5.out) HOL.out HOI.out
    go_simp
    with_reducible refine C.mono ?_
    rintro e z6 ⟨m2, v2, rfl, hp, hf, he, hb⟩
    have Hwa_6 := hide (Hwa_5.out.later hb)
    have Hwb_6 := hide (Hwb_5.out.later hb)
    have Hb_6 := hide (Hb_5.out.trans (hb.mono Hb_5.out.size))
    have Ho_6 := hide (Ho_5.out.later hb Ho_5.out.lt)
    have Hl_6 := hide (Hl_5.out.later hb (Nat.le_refl _))
    have Hrl_6 := hide (Hrl_5.out.later hb)
    have Hp_6 := hide (Hp_5.out.later hb (Nat.le_refl _))
    have Hrm1_6 := hide (Hrm1_5.out.later hb)
    have Hq1_6 := hide (Hq1_5.out.later hb (Nat.le_refl _))
    clear Hwa_5 Hwb_5 Hb_5 Ho_5 Hl_5 Hrl_5 Hp_5 Hrm1_5 Hq1_5
    have Hm2_6 := hide (hp)
    have Hrm2_6 := hide (hf.rows (Rows3.snoc (Hrl_6.out) (HOR.out _ (Hb_6.out))))
    have HE2 := hide (HE1.out.trans he.symm)
    have HS2 := hide (hf.small HSX.out (len_put HN40.out he))
    have HS1 := hide (small_same HS2.out HE2.out)
    clear hp hf he
    clear hb C
    refine hK.out _ _ (CE.out _ Ho_6.out) (fun hNew => ?_)
    clear hK K hHeld
    have hHeld := hNew
    clear hNew
    (try simp only [Act.put, Mqa, Mqb, Mqc])
    refine Man.one (i := 19) rfl (by kernel_rfl) (fun K hK => ?_)
    have C := rsame_any Hq1_6.out Hrm1_6.out HS1.out Hm2_6.out Hrm2_6.out HS2.out
    rw [decide_eq_true HE2.out] at C
    go_simp
    with_reducible refine C.mono ?_
    rintro e z7 ⟨rfl, hb⟩
    have Hwa_7 := hide (Hwa_6.out.later hb)
    have Hwb_7 := hide (Hwb_6.out.later hb)
    have Hb_7 := hide (Hb_6.out.trans (hb.mono Hb_6.out.size))
    have Ho_7 := hide (Ho_6.out.later hb Ho_6.out.lt)
    have Hl_7 := hide (Hl_6.out.later hb (Nat.le_refl _))
    have Hrl_7 := hide (Hrl_6.out.later hb)
    have Hp_7 := hide (Hp_6.out.later hb (Nat.le_refl _))
    have Hrm1_7 := hide (Hrm1_6.out.later hb)
    have Hq1_7 := hide (Hq1_6.out.later hb (Nat.le_refl _))
    have Hm2_7 := hide (Hm2_6.out.later hb (Nat.le_refl _))
    have Hrm2_7 := hide (Hrm2_6.out.later hb)
    clear Hwa_6 Hwb_6 Hb_6 Ho_6 Hl_6 Hrl_6 Hp_6 Hrm1_6 Hq1_6 Hm2_6 Hrm2_6
    clear Hq1_7 Hrm1_7 Hm2_7 Hrm2_7
    clear hb C
    refine hK.out _ _ (CE.out _ Ho_7.out) (fun hNew => ?_)
    clear hK K hHeld
    have hHeld := hNew
    clear hNew
    (try simp only [Act.put, Mqa, Mqb, Mqc])
    refine Man.t1 20 hHeld ?_
    (try simp only [Act.put, Mqa, Mqb, Mqc])
    refine Man.t1 21 hHeld ?_
    (try simp only [Act.put, Mqa, Mqb, Mqc])
    refine Man.t1 22 hHeld ?_
    (try simp only [Act.put, Mqa, Mqb, Mqc])
    refine Man.t1 23 hHeld ?_
    (try simp only [Act.put, Mqa, Mqb, Mqc])
    refine Man.t1 24 hHeld ?_
    (try simp only [Act.put, Mqa, Mqb, Mqc])
    refine Man.t1 27 hHeld ?_
    (try simp only [Act.put, Mqa, Mqb, Mqc])
    refine Man.t1 28 hHeld ?_
    (try simp only [Act.put, Mqa, Mqb, Mqc])
    refine Man.t1 29 hHeld ?_
    (try simp only [Act.put, Mqa, Mqb, Mqc])
    refine Man.one (i := 25) rfl (by kernel_rfl) (fun K hK => ?_)
    have C := drop_any Hl_7.out Hrl_7.out HS.out o.x.s.1 o.x.s.2
    go_simp
    with_reducible refine C.mono ?_
    rintro e z8 ⟨m3, v3, rfl, ho, he, hb⟩
    have Hwa_8 := hide (Hwa_7.out.later hb)
    have Hwb_8 := hide (Hwb_7.out.later hb)
    have Hb_8 := hide (Hb_7.out.trans (hb.mono Hb_7.out.size))
    have Ho_8 := hide (Ho_7.out.later hb Ho_7.out.lt)
    have Hl_8 := hide (Hl_7.out.later hb (Nat.le_refl _))
    have Hrl_8 := hide (Hrl_7.out.later hb)
    have Hp_8 := hide (Hp_7.out.later hb (Nat.le_refl _))
    clear Hwa_7 Hwb_7 Hb_7 Ho_7 Hl_7 Hrl_7 Hp_7
    have Hm3_8 := hide (ho.o.pieces)
    have Hrm3_8 := hide (ho.r)
    have HE3 := hide he
    have HL3 := hide (len_drop HN40.out he)
    clear ho he
    clear hb C
    refine hK.out _ _ (CE.out _ Ho_8.out) (fun hNew => ?_)
    clear hK K hHeld
    have hHeld := hNew
    clear hNew
    (try simp only [Act.put, Mqa, Mqb, Mqc])
    refine Man.one (i := 26) rfl (by kernel_rfl) (fun K hK => ?_)
    have C := plain_any Hm3_8.out HL3.out
    go_simp
    with_reducible refine C.mono ?_
    rintro e z9 ⟨q3, rfl, hp, hb⟩
    have Hwa_9 := hide (Hwa_8.out.later hb)
    have Hwb_9 := hide (Hwb_8.out.later hb)
    have Hb_9 := hide (Hb_8.out.trans (hb.mono Hb_8.out.size))
    have Ho_9 := hide (Ho_8.out.later hb Ho_8.out.lt)
    have Hl_9 := hide (Hl_8.out.later hb (Nat.le_refl _))
    have Hrl_9 := hide (Hrl_8.out.later hb)
    have Hp_9 := hide (Hp_8.out.later hb (Nat.le_refl _))
    have Hm3_9 := hide (Hm3_8.out.later hb (Nat.le_refl _))
    have Hrm3_9 := hide (Hrm3_8.out.later hb)
    clear Hwa_8 Hwb_8 Hb_8 Ho_8 Hl_8 Hrl_8 Hp_8 Hm3_8 Hrm3_8
    clear Hm3_9
    have Hq3_9 := hide (hp)
    clear hp
    clear hb C
    refine hK.out _ _ (CE.out _ Ho_9.out) (fun hNew => ?_)
    clear hK K hHeld
    have hHeld := hNew
    clear hNew
    (try simp only [Act.put, Mqa, Mqb, Mqc])
    refine Man.one (i := 30) rfl (by kernel_rfl) (fun K hK => ?_)
    have C := rdrop_any Hp_9.out Hrl_9.out HS.out o.x.s.1 o.x.s.2
    go_simp
    with_reducible refine C.mono ?_
    rintro e z10 ⟨m4, v4, rfl, hp, hf, he, hb⟩
    have Hwa_10 := hide (Hwa_9.out.later hb)
    have Hwb_10 := hide (Hwb_9.out.later hb)
    have Hb_10 := hide (Hb_9.out.trans (hb.mono Hb_9.out.size))
    have Ho_10 := hide (Ho_9.out.later hb Ho_9.out.lt)
    have Hl_10 := hide (Hl_9.out.later hb (Nat.le_refl _))
    have Hrl_10 := hide (Hrl_9.out.later hb)
    have Hp_10 := hide (Hp_9.out.later hb (Nat.le_refl _))
    have Hrm3_10 := hide (Hrm3_9.out.later hb)
    have Hq3_10 := hide (Hq3_9.out.later hb (Nat.le_refl _))
    clear Hwa_9 Hwb_9 Hb_9 Ho_9 Hl_9 Hrl_9 Hp_9 Hrm3_9 Hq3_9
    have Hm4_10 := hide (hp)
    have Hrm4_10 := hide (hf.rows Hrl_10.out)
    have HE4 := hide (HE3.out.trans he.symm)
    have HS4 := hide (hf.small HS.out (len_drop HN40.out he))
    have HS3 := hide (small_same HS4.out HE4.out)
    clear hp hf he
    clear hb C
    refine hK.out _ _ (CE.out _ Ho_10.out) (fun hNew => ?_)
    clear hK K hHeld
    have hHeld := hNew
    clear hNew
    (try simp only [Act.put, Mqa, Mqb, Mqc])
    refine Man.one (i := 31) rfl (by kernel_rfl) (fun K hK => ?_)
    have C := rsame_any Hq3_10.out Hrm3_10.out HS3.out Hm4_10.out Hrm4_10.out HS4.out
    rw [decide_eq_true HE4.out] at C
    go_simp
    with_reducible refine C.mono ?_
    rintro e z11 ⟨rfl, hb⟩
    have Hwa_11 := hide (Hwa_10.out.later hb)
    have Hwb_11 := hide (Hwb_10.out.later hb)
    have Hb_11 := hide (Hb_10.out.trans (hb.mono Hb_10.out.size))
    have Ho_11 := hide (Ho_10.out.later hb Ho_10.out.lt)
    have Hl_11 := hide (Hl_10.out.later hb (Nat.le_refl _))
    have Hrl_11 := hide (Hrl_10.out.later hb)
    have Hp_11 := hide (Hp_10.out.later hb (Nat.le_refl _))
    have Hrm3_11 := hide (Hrm3_10.out.later hb)
    have Hq3_11 := hide (Hq3_10.out.later hb (Nat.le_refl _))
    have Hm4_11 := hide (Hm4_10.out.later hb (Nat.le_refl _))
    have Hrm4_11 := hide (Hrm4_10.out.later hb)
    clear Hwa_10 Hwb_10 Hb_10 Ho_10 Hl_10 Hrl_10 Hp_10 Hrm3_10 Hq3_10 Hm4_10 Hrm4_10
    clear Hq3_11 Hrm3_11 Hm4_11 Hrm4_11
    clear hb C
    refine hK.out _ _ (CE.out _ Ho_11.out) (fun hNew => ?_)
    clear hK K hHeld
    have hHeld := hNew
    clear hNew
    (try simp only [Act.put, Mqa, Mqb, Mqc])
    refine Man.t1 32 hHeld ?_
    (try simp only [Act.put, Mqa, Mqb, Mqc])
    refine Man.t1 33 hHeld ?_
    (try simp only [Act.put, Mqa, Mqb, Mqc])
    refine Man.t1 34 hHeld ?_
    (try simp only [Act.put, Mqa, Mqb, Mqc])
    refine Man.t1 35 hHeld ?_
    (try simp only [Act.put, Mqa, Mqb, Mqc])
    refine Man.one (i := 36) rfl (by kernel_rfl) (fun K hK => ?_)
    have C := Cod.rows_any ra ra _ _ HRL.out HRL.out _ Hwa_11.out Hwb_11.out
    rw [decide_eq_true rfl] at C
    go_simp
    with_reducible refine C.mono ?_
    rintro e z12 ⟨rfl, hb⟩
    have Hwa_12 := hide (Hwa_11.out.later hb)
    have Hwb_12 := hide (Hwb_11.out.later hb)
    have Hb_12 := hide (Hb_11.out.trans (hb.mono Hb_11.out.size))
    have Ho_12 := hide (Ho_11.out.later hb Ho_11.out.lt)
    have Hl_12 := hide (Hl_11.out.later hb (Nat.le_refl _))
    have Hrl_12 := hide (Hrl_11.out.later hb)
    have Hp_12 := hide (Hp_11.out.later hb (Nat.le_refl _))
    clear Hwa_11 Hwb_11 Hb_11 Ho_11 Hl_11 Hrl_11 Hp_11
    clear Hwa_12 Hwb_12
    clear hb C
    refine hK.out _ _ (CE.out _ Ho_12.out) (fun hNew => ?_)
    clear hK K hHeld
    have hHeld := hNew
    clear hNew
    (try simp only [Act.put, Mqa, Mqb, Mqc])
    refine Man.t1 37 hHeld ?_
    (try simp only [Act.put, Mqa, Mqb, Mqc])
    refine Man.t1 38 hHeld ?_
    (try simp only [Act.put, Mqa, Mqb, Mqc])
    refine Man.t1 39 hHeld ?_
    (try simp only [Act.put, Mqa, Mqb, Mqc])
    refine Man.t1 40 hHeld ?_
    (try simp only [Act.put, Mqa, Mqb, Mqc])
    refine Man.t1 41 hHeld ?_
    (try simp only [Act.put, Mqa, Mqb, Mqc])
    refine Man.t1 42 hHeld ?_
    (try simp only [Act.put, Mqa, Mqb, Mqc])
    refine Man.t1 43 hHeld ?_
    (try simp only [Act.put, Mqa, Mqb, Mqc])
    refine Man.t1 44 hHeld ?_
    (try simp only [Act.put, Mqa, Mqb, Mqc])
    refine Man.t1 47 hHeld ?_
    (try simp only [Act.put, Mqa, Mqb, Mqc])
    refine Man.one (i := 45) rfl (by kernel_rfl) (fun K hK => ?_)
    have C := coal_any Hl_12.out Hrl_12.out HS.out
    go_simp
    with_reducible refine C.mono ?_
    rintro e z13 ⟨m5, v5, rfl, ho, he, hb⟩
    have Hb_13 := hide (Hb_12.out.trans (hb.mono Hb_12.out.size))
    have Ho_13 := hide (Ho_12.out.later hb Ho_12.out.lt)
    have Hl_13 := hide (Hl_12.out.later hb (Nat.le_refl _))
    have Hrl_13 := hide (Hrl_12.out.later hb)
    have Hp_13 := hide (Hp_12.out.later hb (Nat.le_refl _))
    clear Hb_12 Ho_12 Hl_12 Hrl_12 Hp_12
    have Hm5_13 := hide (ho.o.pieces)
    have Hrm5_13 := hide (ho.r)
    have HE5 := hide he
    have HL5 := hide (len_coal HN40.out he)
    clear ho he
    clear hb C
    refine hK.out _ _ (CE.out _ Ho_13.out) (fun hNew => ?_)
    clear hK K hHeld
    have hHeld := hNew
    clear hNew
    (try simp only [Act.put, Mqa, Mqb, Mqc])
    refine Man.one (i := 46) rfl (by kernel_rfl) (fun K hK => ?_)
    have C := plain_any Hm5_13.out HL5.out
    go_simp
    with_reducible refine C.mono ?_
    rintro e z14 ⟨q5, rfl, hp, hb⟩
    have Hb_14 := hide (Hb_13.out.trans (hb.mono Hb_13.out.size))
    have Ho_14 := hide (Ho_13.out.later hb Ho_13.out.lt)
    have Hl_14 := hide (Hl_13.out.later hb (Nat.le_refl _))
    have Hrl_14 := hide (Hrl_13.out.later hb)
    have Hp_14 := hide (Hp_13.out.later hb (Nat.le_refl _))
    have Hm5_14 := hide (Hm5_13.out.later hb (Nat.le_refl _))
    have Hrm5_14 := hide (Hrm5_13.out.later hb)
    clear Hb_13 Ho_13 Hl_13 Hrl_13 Hp_13 Hm5_13 Hrm5_13
    clear Hm5_14
    have Hq5_14 := hide (hp)
    clear hp
    clear hb C
    refine hK.out _ _ (CE.out _ Ho_14.out) (fun hNew => ?_)
    clear hK K hHeld
    have hHeld := hNew
    clear hNew
    (try simp only [Act.put, Mqa, Mqb, Mqc])
    refine Man.one (i := 48) rfl (by kernel_rfl) (fun K hK => ?_)
    have C := rcoal_any Hp_14.out Hrl_14.out HS.out
    go_simp
    with_reducible refine C.mono ?_
    rintro e z15 ⟨m6, v6, rfl, hp, hf, he, hb⟩
    have Hb_15 := hide (Hb_14.out.trans (hb.mono Hb_14.out.size))
    have Ho_15 := hide (Ho_14.out.later hb Ho_14.out.lt)
    have Hl_15 := hide (Hl_14.out.later hb (Nat.le_refl _))
    have Hrl_15 := hide (Hrl_14.out.later hb)
    have Hp_15 := hide (Hp_14.out.later hb (Nat.le_refl _))
    have Hrm5_15 := hide (Hrm5_14.out.later hb)
    have Hq5_15 := hide (Hq5_14.out.later hb (Nat.le_refl _))
    clear Hb_14 Ho_14 Hl_14 Hrl_14 Hp_14 Hrm5_14 Hq5_14
    have Hm6_15 := hide (hp)
    have Hrm6_15 := hide (hf.rows Hrl_15.out)
    have HE6 := hide (HE5.out.trans he.symm)
    have HS6 := hide (hf.small HS.out (len_coal HN40.out he))
    have HS5 := hide (small_same HS6.out HE6.out)
    clear hp hf he
    clear hb C
    refine hK.out _ _ (CE.out _ Ho_15.out) (fun hNew => ?_)
    clear hK K hHeld
    have hHeld := hNew
    clear hNew
    (try simp only [Act.put, Mqa, Mqb, Mqc])
    refine Man.one (i := 49) rfl (by kernel_rfl) (fun K hK => ?_)
    have C := rsame_any Hq5_15.out Hrm5_15.out HS5.out Hm6_15.out Hrm6_15.out HS6.out
    rw [decide_eq_true HE6.out] at C
    go_simp
    with_reducible refine C.mono ?_
    rintro e z16 ⟨rfl, hb⟩
    have Hb_16 := hide (Hb_15.out.trans (hb.mono Hb_15.out.size))
    have Ho_16 := hide (Ho_15.out.later hb Ho_15.out.lt)
    have Hl_16 := hide (Hl_15.out.later hb (Nat.le_refl _))
    have Hrl_16 := hide (Hrl_15.out.later hb)
    have Hp_16 := hide (Hp_15.out.later hb (Nat.le_refl _))
    have Hrm5_16 := hide (Hrm5_15.out.later hb)
    have Hq5_16 := hide (Hq5_15.out.later hb (Nat.le_refl _))
    have Hm6_16 := hide (Hm6_15.out.later hb (Nat.le_refl _))
    have Hrm6_16 := hide (Hrm6_15.out.later hb)
    clear Hb_15 Ho_15 Hl_15 Hrl_15 Hp_15 Hrm5_15 Hq5_15 Hm6_15 Hrm6_15
    clear Hq5_16 Hrm5_16 Hm6_16 Hrm6_16
    clear hb C
    refine hK.out _ _ (CE.out _ Ho_16.out) (fun hNew => ?_)
    clear hK K hHeld
    have hHeld := hNew
    clear hNew
    (try simp only [Act.put, Mqa, Mqb, Mqc])
    refine Man.t1 50 hHeld ?_
    (try simp only [Act.put, Mqa, Mqb, Mqc])
    refine Man.t1 51 hHeld ?_
    (try simp only [Act.put, Mqa, Mqb, Mqc])
    refine Man.t1 52 hHeld ?_
    (try simp only [Act.put, Mqa, Mqb, Mqc])
    refine Man.t1 54 hHeld ?_
    (try simp only [Act.put, Mqa, Mqb, Mqc])
    refine Man.one (i := 53) rfl (by kernel_rfl) (fun K hK => ?_)
    have C := plain_any Hl_16.out HS.out.n
    go_simp
    with_reducible refine C.mono ?_
    rintro e z17 ⟨q7, rfl, hp, hb⟩
    have Hb_17 := hide (Hb_16.out.trans (hb.mono Hb_16.out.size))
    have Ho_17 := hide (Ho_16.out.later hb Ho_16.out.lt)
    have Hl_17 := hide (Hl_16.out.later hb (Nat.le_refl _))
    have Hrl_17 := hide (Hrl_16.out.later hb)
    have Hp_17 := hide (Hp_16.out.later hb (Nat.le_refl _))
    clear Hb_16 Ho_16 Hl_16 Hrl_16 Hp_16
    have Hq7_17 := hide (hp)
    clear hp
    clear hb C
    refine hK.out _ _ (CE.out _ Ho_17.out) (fun hNew => ?_)
    clear hK K hHeld
    have hHeld := hNew
    clear hNew
    (try simp only [Act.put, Mqa, Mqb, Mqc])
    refine Man.one (i := 55) rfl (by kernel_rfl) (fun K hK => ?_)
    have C := rsame_any Hq7_17.out Hrl_17.out HS.out Hp_17.out Hrl_17.out HS.out
    rw [decide_eq_true rfl] at C
    go_simp
    with_reducible refine C.mono ?_
    rintro e z18 ⟨rfl, hb⟩
    have Hb_18 := hide (Hb_17.out.trans (hb.mono Hb_17.out.size))
    have Ho_18 := hide (Ho_17.out.later hb Ho_17.out.lt)
    have Hl_18 := hide (Hl_17.out.later hb (Nat.le_refl _))
    have Hrl_18 := hide (Hrl_17.out.later hb)
    have Hp_18 := hide (Hp_17.out.later hb (Nat.le_refl _))
    have Hq7_18 := hide (Hq7_17.out.later hb (Nat.le_refl _))
    clear Hb_17 Ho_17 Hl_17 Hrl_17 Hp_17 Hq7_17
    clear hb C
    refine hK.out _ _ (CE.out _ Ho_18.out) (fun hNew => ?_)
    clear hK K hHeld
    have hHeld := hNew
    clear hNew
    (try simp only [Act.put, Mqa, Mqb, Mqc])
    refine Man.t1 56 hHeld ?_
    (try simp only [Act.put, Mqa, Mqb, Mqc])
    refine Man.t1 57 hHeld ?_
    (try simp only [Act.put, Mqa, Mqb, Mqc])
    refine Man.one (i := 58) rfl (by kernel_rfl) (fun K hK => ?_)
    have C := known_any z18
    go_simp
    with_reducible refine C.mono ?_
    rintro e z19 ⟨rfl, hb⟩
    have Hb_19 := hide (Hb_18.out.trans (hb.mono Hb_18.out.size))
    have Ho_19 := hide (Ho_18.out.later hb Ho_18.out.lt)
    have Hl_19 := hide (Hl_18.out.later hb (Nat.le_refl _))
    have Hrl_19 := hide (Hrl_18.out.later hb)
    have Hp_19 := hide (Hp_18.out.later hb (Nat.le_refl _))
    have Hq7_19 := hide (Hq7_18.out.later hb (Nat.le_refl _))
    clear Hb_18 Ho_18 Hl_18 Hrl_18 Hp_18 Hq7_18
    clear hb C
    refine hK.out _ _ (CE.out _ Ho_19.out) (fun hNew => ?_)
    clear hK K hHeld
    have hHeld := hNew
    clear hNew
    (try simp only [Act.put, Mqa, Mqb, Mqc])
    refine Man.t1 59 hHeld ?_
    (try simp only [Act.put, Mqa, Mqb, Mqc])
    refine Man.t1 60 hHeld ?_
    (try simp only [Act.put, Mqa, Mqb, Mqc])
    refine wpAnyH_done (by kernel_rfl) ?_ _
    go_wp2_with fail
    go_ret
    exact ⟨rfl, Hb_19.out⟩
  · have C2 := hide (fun u => known_any u)
    cases hlb : lightB l with
    | true =>
      rw [hlb] at C1
      have g3 : (20 : Int) < (o.x.r.length : Int) := by
        have : ¬ ¬ 20 < o.x.r.length := fun h9 => hok ⟨hlb, h9⟩
        omega
      clear hlb hok
      go_enter Try.func3, Try.ntmps3
      go_wp2_with fail
      rw [← HW0.out]
      refine C1.out.mono ?_
      rintro e w1 ⟨rfl, hb⟩
      have HB1 := hide (HB0.out.trans (hb.mono HB0.out.size))
      have HO1 := hide (HO0.out.later hb HO0.out.lt)
      obtain ⟨j0, j1, j2, j3, _⟩ := HO1.out
      clear hb C1
      go_wp2_with fail
      refine (C2.out _).mono ?_
      rintro e w2 ⟨rfl, hb⟩
      have HB2 := hide (HB1.out.trans (hb.mono HB1.out.size))
      clear hb
      go_wp2_with fail
      go_ret
      exact ⟨rfl, HB2.out⟩
    | false =>
      rw [hlb] at C1
      clear hlb hok
      go_enter Try.func3, Try.ntmps3
      go_wp2_with fail
      rw [← HW0.out]
      refine C1.out.mono ?_
      rintro e w1 ⟨rfl, hb⟩
      have HB1 := hide (HB0.out.trans (hb.mono HB0.out.size))
      clear hb C1
      go_wp2_with fail
      refine (C2.out _).mono ?_
      rintro e w2 ⟨rfl, hb⟩
      have HB2 := hide (HB1.out.trans (hb.mono HB1.out.size))
      clear hb
      go_wp2_with fail
      go_ret
      exact ⟨rfl, HB2.out⟩
theorem laidOut : laidOutB Try.prog = true := by kernel_rfl
set_option maxRecDepth 100000 in
theorem contract (H : Type) (enc : TypeId × Value → H) (W : World) (base : Nat) (args : Array Value) (ds gs : List (DataW H)) (before : List MemPlace)
    (hval : ∀ (j : Nat) t v, Try.f3.params[j]? = some t → args[j]? = some v → Value.okWide Try.prog W .any base t v)
    (hW : DataW.Whole enc Try.prog Try.f3.params.toList Rows.periodTellsSpec.vars false W args.toList ds gs before)
    (hsz0 : (DataW.weightsEach Try.prog (Try.f3.params.toList ++ Rows.periodTellsSpec.plain.varTypes Try.prog) (ds ++ gs)).all (· ≤ reachBytes) = true) :
    Calls Try.prog 3 args W fun e W' => ∃ v, e = .returned v ∧ Rows.periodTellsSpec.post enc Try.prog Try.f3 false true false false W args v W' := by
  have hW' := hW
  obtain ⟨p, q, hA0, hV, rfl, hfz, hnd⟩ := hW
  have hA : DataW.TrodAll enc Try.prog W 0 (fun _ => true) true Try.f3.params.toList args.toList ds p := hA0
  rw [Try.params3] at hA hval hsz0
  obtain ⟨v0, vs0, d0, ds0, p0, q0, hargs, rfl, rfl, h0, r0⟩ := trodAll_cons hA
  obtain ⟨v1, vs1, d1, ds1, p1, q1, rfl, rfl, rfl, h1, r1⟩ := trodAll_cons r0
  obtain ⟨v2, vs2, d2, ds2, p2, q2, rfl, rfl, rfl, h2, r2⟩ := trodAll_cons r1
  obtain ⟨rfl, rfl, rfl⟩ := trodAll_nil r2
  obtain rfl : args = #[v0, v1, v2] := by cases args; simp_all
  obtain ⟨rfl, rfl⟩ := trodVars_none hV
  have hsz := fun n hn => of_decide_eq_true (List.all_eq_true.1 hsz0 n hn)
  obtain ⟨t, rfl, hd2, hp2, wt⟩ := open_int Try.underlying3 (hval 2 3 v2 rfl rfl) h2
  have bt := bounds_i64 wt
  obtain ⟨a, hma, hra, hia⟩ := Prd.open_pieces (hval 0 22 v0 rfl rfl) h0 (fun n hn => hsz n (DataW.weights_mem_each (j := 0) (t := 22) rfl rfl n hn))
  obtain ⟨o, rfl, hro, hio⟩ := Prd.open_op (hval 1 27 v1 rfl rfl) h1 (fun n hn => hsz n (DataW.weights_mem_each (j := 1) (t := 27) rfl rfl n hn))
  clear hA0 hsz0
  simp only [List.append_nil] at hW'
  have hlt : ∀ x ∈ p0 ++ p1 ++ p2, x.block < W.heap.size := fun x hx => hW'.lt x (by simpa using hx)
  have walk := walk hma hra hia o hro hio t
  refine walk.mono fun e W' ⟨he, hg⟩ => ?_
  subst he
  refine ⟨_, rfl, Fr.post_made (pa := p0 ++ (p1 ++ p2)) (pv := []) hW' (fun _ _ _ => trodAll_cons_mk (shut_bool Try.underlying4 _) trodAll_mk0) (fun sp hsp => ?_) (fun _ _ => rfl) (by simp) hg (ok_one (by kernel_rfl) rfl (okWide_bool_mk Try.underlying4 _))⟩
  have g0 : DataW.Trod enc Try.prog W' 0 sp true 22 _ d0 p0 := WideElems.Trod_stays laidOut (by kernel_rfl) (of_decide_eq_true (by kernel_rfl)) h0 (fun x hx => hg.same (hlt x (by simp [hx]))) (fun x hx => hsp x (by simp [hx]))
  have g1 : DataW.Trod enc Try.prog W' 0 sp true 27 _ d1 p1 := WideElems.Trod_stays laidOut (by kernel_rfl) (of_decide_eq_true (by kernel_rfl)) h1 (fun x hx => hg.same (hlt x (by simp [hx]))) (fun x hx => hsp x (by simp [hx]))
  have g2 : DataW.Trod enc Try.prog W' 0 sp true 3 _ d2 p2 := WideElems.Trod_stays laidOut (by kernel_rfl) (of_decide_eq_true (by kernel_rfl)) h2 (fun x hx => hg.same (hlt x (by simp [hx]))) (fun x hx => hsp x (by simp [hx]))
  have hT := (trodAll_cons_mk g0 (trodAll_cons_mk g1 (trodAll_cons_mk g2 trodAll_mk0)))
  simp only [List.append_nil] at hT
  exact hT
set_option maxRecDepth 100000 in
theorem lifted (os : Os) (started : os.Started) (H : Type) (enc : TypeId × Value → H) :
    ReturnsInHanded {} Try.checked os 3 .any (Rows.periodTellsSpec.pre6 enc Try.prog Try.f3 Rows.periodTellsRow.domain false) (Rows.periodTellsSpec.post enc Try.prog Try.f3 false true false false) := by
  refine returnsInHanded_of_change_sized (C := Try.checked) Fr.own started (by kernel_rfl) Try.func3
    (ChangeSpec.witness6 (enc := enc) (C := Try.checked) false ⟨#[], #[.slice none 0 0, .agg #[.bool false, .int .i64 0, .int .i64 0, .slice none 0 0], .int .i64 0], []⟩ 8 (by kernel_rfl) (by kernel_rfl) (by kernel_rfl) (by kernel_rfl)) ?_
  intro W base args ds gs before hval hW _ hsz _
  exact contract H enc W base args ds gs before hval hW hsz
theorem said : Rows.PeriodTellsSaid :=
  OpenClaim.holds_of_wide 3 Try.f3 rfl rfl rfl rfl rfl rfl rfl ⟨rfl, rfl, rfl, rfl, rfl⟩ rfl rfl rfl rfl rfl (by kernel_rfl) Try.func3 (by kernel_rfl)
    (of_decide_eq_true (by kernel_rfl)) (by unfold Func.isWrapper; first | (rw [if_pos (by decide +kernel)]; kernel_rfl) | (rw [if_neg (by decide +kernel)]; exact ⟨rfl, rfl⟩))
    (fun os started H enc _ => lifted os started H enc)
end LaPeriodTells
end Go.Proofs.Ytoacombaddknfaa
