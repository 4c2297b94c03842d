/- The law's known. No condition. -/
import Derived.Test.YtoacombaddknfaaR12
namespace Go.Proofs.Ytoacombaddknfaa
open Go.RowKit
namespace Prd
open Spn (Sp hide At below_alloc Right)
open Cod (V RowAt S)
set_option maxHeartbeats 16000000 in
set_option maxRecDepth 100000 in
theorem known_any (w : World) : Calls Try.prog 11 #[] w fun e w' => e = .returned (.bool true) ∧ Below w.heap.size w w' := by
  have e13 : Spn.neS 1 3 1 3 = false := by decide
  have e59 : Spn.neS 5 9 5 9 = false := by decide
  have e45 : Spn.neS 4 5 4 5 = false := by decide
  obtain ⟨k0, hk0⟩ : ∃ k0, k0 = w.heap.size := ⟨_, rfl⟩
  have hA0 : RowAt [va] (.slice (some ⟨k0, 0, none⟩) 1 1) (w.alloc (.cells #[.int .i64 2, .int .i64 1, .int .u64 0, .string ⟨#[]⟩] 64)) := row_one_at w va _ hk0
  have hB0 := below_alloc w (.cells #[.int .i64 2, .int .i64 1, .int .u64 0, .string ⟨#[]⟩] 64)
  have hB1 := below_alloc (w.alloc (.cells #[.int .i64 2, .int .i64 1, .int .u64 0, .string ⟨#[]⟩] 64)) (.cells #[.int .i64 2, .int .i64 2, .int .u64 0, .string ⟨#[]⟩] 64)
  have hR1 : RowAt [vb] (.slice (some ⟨k0 + 1, 0, none⟩) 1 1) ((w.alloc (.cells #[.int .i64 2, .int .i64 1, .int .u64 0, .string ⟨#[]⟩] 64)).alloc (.cells #[.int .i64 2, .int .i64 2, .int .u64 0, .string ⟨#[]⟩] 64)) := row_one_at (w.alloc (.cells #[.int .i64 2, .int .i64 1, .int .u64 0, .string ⟨#[]⟩] 64)) vb _ (by rw [hk0]; simp)
  have HA_0 := hide (hA0.later hB1)
  have HBr_0 := hide (hR1)
  have HB_0 := hide (show Below w.heap.size w ((w.alloc (.cells #[.int .i64 2, .int .i64 1, .int .u64 0, .string ⟨#[]⟩] 64)).alloc (.cells #[.int .i64 2, .int .i64 2, .int .u64 0, .string ⟨#[]⟩] 64)) from hB0.trans (hB1.mono (by simp)))
  have HI := hide (show ∀ v ∈ [va], v.inn from fun v hv => by rw [List.mem_singleton] at hv; subst hv; exact ⟨by decide, by decide, by decide, by decide, by decide, by decide⟩)
  have HJ := hide (show ∀ v ∈ [vb], v.inn from fun v hv => by rw [List.mem_singleton] at hv; subst hv; exact ⟨by decide, by decide, by decide, by decide, by decide, by decide⟩)
  have HK0 := hide hk0
  have kz : k0 = w.heap.size := hk0
  clear hA0 hB0 hB1 hR1 hk0
  go_enter Try.func11, Try.ntmps11
  go_wp2_with fail
  rw [← kz]
  clear kz
  refine (put_any (x0 := ⟨(1, 9), [va], some ⟨k0, 0, none⟩, 1⟩) (Row3.nil 0 0 _).pieces (Rows3.nil _) (show Small [] from ⟨by simp, by simp, by simp⟩) (by simp) HA_0.out (by simp) HI.out).mono ?_
  rintro e z1 ⟨m1, v1, rfl, hp1, hr1, he1, hb1⟩
  have HA_1 := hide (HA_0.out.later hb1)
  clear HA_0
  have HBr_1 := hide (HBr_0.out.later hb1)
  clear HBr_0
  have HB_1 := hide (HB_0.out.trans (hb1.mono HB_0.out.size))
  clear HB_0
  have HE1 := hide (show pcs m1 = [((1, 9), [va])] from he1.trans (kput1 va_good))
  have HL1 := hide (show m1.length = 1 from by have h9 := congrArg List.length HE1.out; rw [pcs_len] at h9; exact h9)
  have HS1 := hide (small_known (m := m1) (by rw [HL1.out]; omega) (by rw [HE1.out]; simp))
  obtain ⟨o1, c1, rfl, _, _⟩ := hp1.form
  rw [HL1.out] at hp1 ⊢
  have HP1_1 := hide (hp1)
  have HR1_1 := hide (hr1)
  clear hp1 hr1 he1 hb1
  go_wp2_with fail
  refine (put_any (x0 := ⟨(3, 5), [vb], some ⟨k0 + 1, 0, none⟩, 1⟩) HP1_1.out HR1_1.out HS1.out (by rw [HL1.out]; omega) HBr_1.out (by simp) HJ.out).mono ?_
  rintro e z2 ⟨m2, v2, rfl, hp2, hr2, he2, hb2⟩
  have HA_2 := hide (HA_1.out.later hb2)
  clear HA_1
  have HBr_2 := hide (HBr_1.out.later hb2)
  clear HBr_1
  have HB_2 := hide (HB_1.out.trans (hb2.mono HB_1.out.size))
  clear HB_1
  have HP1_2 := hide (HP1_1.out.later hb2 (Nat.le_refl _))
  clear HP1_1
  have HR1_2 := hide (HR1_1.out.later hb2)
  clear HR1_1
  have HE2 := hide (show pcs m2 = [((1, 3), [va]), ((3, 5), [vb]), ((5, 9), [va])] from he2.trans (by rw [HE1.out]; exact kput2 va_good vb_good))
  have HL2 := hide (show m2.length = 3 from by have h9 := congrArg List.length HE2.out; rw [pcs_len] at h9; exact h9)
  have HS2 := hide (small_known (m := m2) (by rw [HL2.out]; omega) (by rw [HE2.out]; simp))
  obtain ⟨o2, c2, rfl, _, _⟩ := hp2.form
  rw [HL2.out] at hp2 ⊢
  have HP2_2 := hide (hp2)
  have HR2_2 := hide (hr2)
  clear hp2 hr2 he2 hb2
  go_wp2_with fail
  refine (put_any (x0 := ⟨(3, 5), [va], some ⟨k0, 0, none⟩, 1⟩) HP2_2.out HR2_2.out HS2.out (by rw [HL2.out]; omega) HA_2.out (by simp) HI.out).mono ?_
  rintro e z3 ⟨m3, v3, rfl, hp3, hr3, he3, hb3⟩
  have HA_3 := hide (HA_2.out.later hb3)
  clear HA_2
  have HBr_3 := hide (HBr_2.out.later hb3)
  clear HBr_2
  have HB_3 := hide (HB_2.out.trans (hb3.mono HB_2.out.size))
  clear HB_2
  have HP1_3 := hide (HP1_2.out.later hb3 (Nat.le_refl _))
  clear HP1_2
  have HR1_3 := hide (HR1_2.out.later hb3)
  clear HR1_2
  have HP2_3 := hide (HP2_2.out.later hb3 (Nat.le_refl _))
  clear HP2_2
  have HR2_3 := hide (HR2_2.out.later hb3)
  clear HR2_2
  have HE3 := hide (show pcs m3 = [((1, 3), [va]), ((3, 5), [va]), ((5, 9), [va])] from he3.trans (by rw [HE2.out]; exact kput3 va_good vb_good))
  have HL3 := hide (show m3.length = 3 from by have h9 := congrArg List.length HE3.out; rw [pcs_len] at h9; exact h9)
  have HS3 := hide (small_known (m := m3) (by rw [HL3.out]; omega) (by rw [HE3.out]; simp))
  obtain ⟨o3, c3, rfl, _, _⟩ := hp3.form
  rw [HL3.out] at hp3 ⊢
  have HP3_3 := hide (hp3)
  have HR3_3 := hide (hr3)
  clear hp3 hr3 he3 hb3
  go_wp2_with fail
  refine (mat_any HP2_3.out HR2_3.out HS2.out 4).mono ?_
  rintro e z4 ⟨hat, hb4⟩
  have HA_4 := hide (HA_3.out.later hb4)
  clear HA_3
  have HBr_4 := hide (HBr_3.out.later hb4)
  clear HBr_3
  have HB_4 := hide (HB_3.out.trans (hb4.mono HB_3.out.size))
  clear HB_3
  have HP1_4 := hide (HP1_3.out.later hb4 (Nat.le_refl _))
  clear HP1_3
  have HR1_4 := hide (HR1_3.out.later hb4)
  clear HR1_3
  have HP2_4 := hide (HP2_3.out.later hb4 (Nat.le_refl _))
  clear HP2_3
  have HR2_4 := hide (HR2_3.out.later hb4)
  clear HR2_3
  have HP3_4 := hide (HP3_3.out.later hb4 (Nat.le_refl _))
  clear HP3_3
  have HR3_4 := hide (HR3_3.out.later hb4)
  clear HR3_3
  obtain ⟨ro, rc, rfl, hrow⟩ : ∃ ro rc, e = .returned (.tuple #[.slice ro 1 rc, .bool true]) ∧ RowAt [vb] (.slice ro 1 rc) z4 := by
    rcases hat with ⟨r, ro, rc, h1, h2, h3⟩ | ⟨h1, _⟩
    · rw [HE2.out, kat4 va_good vb_good] at h1
      obtain rfl := Option.some.inj h1
      exact ⟨ro, rc, h2, h3⟩
    · rw [HE2.out, kat4 va_good vb_good] at h1; cases h1
  have HW_4 := hide (hrow)
  clear hat hb4 hrow
  go_wp2_with fail
  refine (mat_any HP2_4.out HR2_4.out HS2.out 9).mono ?_
  rintro e z5 ⟨hat, hb5⟩
  have HA_5 := hide (HA_4.out.later hb5)
  clear HA_4
  have HBr_5 := hide (HBr_4.out.later hb5)
  clear HBr_4
  have HB_5 := hide (HB_4.out.trans (hb5.mono HB_4.out.size))
  clear HB_4
  have HP1_5 := hide (HP1_4.out.later hb5 (Nat.le_refl _))
  clear HP1_4
  have HR1_5 := hide (HR1_4.out.later hb5)
  clear HR1_4
  have HP2_5 := hide (HP2_4.out.later hb5 (Nat.le_refl _))
  clear HP2_4
  have HR2_5 := hide (HR2_4.out.later hb5)
  clear HR2_4
  have HP3_5 := hide (HP3_4.out.later hb5 (Nat.le_refl _))
  clear HP3_4
  have HR3_5 := hide (HR3_4.out.later hb5)
  clear HR3_4
  have HW_5 := hide (HW_4.out.later hb5)
  clear HW_4
  obtain rfl : e = .returned (.tuple #[.slice none 0 0, .bool false]) := by
    rcases hat with ⟨r, ro, rc, h1, h2, h3⟩ | ⟨_, h2⟩
    · rw [HE2.out, kat9 va_good vb_good] at h1; cases h1
    · exact h2
  clear hat hb5
  go_wp2_with fail
  refine (diffp_any HP1_5.out HR1_5.out HS1.out HP2_5.out HR2_5.out HS2.out).mono ?_
  rintro e z6 ⟨m6, n6, v6, y6, rfl, hp6, hq6, _, _, he6, hf6, hb6⟩
  have HA_6 := hide (HA_5.out.later hb6)
  clear HA_5
  have HBr_6 := hide (HBr_5.out.later hb6)
  clear HBr_5
  have HB_6 := hide (HB_5.out.trans (hb6.mono HB_5.out.size))
  clear HB_5
  have HP1_6 := hide (HP1_5.out.later hb6 (Nat.le_refl _))
  clear HP1_5
  have HR1_6 := hide (HR1_5.out.later hb6)
  clear HR1_5
  have HP2_6 := hide (HP2_5.out.later hb6 (Nat.le_refl _))
  clear HP2_5
  have HR2_6 := hide (HR2_5.out.later hb6)
  clear HR2_5
  have HP3_6 := hide (HP3_5.out.later hb6 (Nat.le_refl _))
  clear HP3_5
  have HR3_6 := hide (HR3_5.out.later hb6)
  clear HR3_5
  have HW_6 := hide (HW_5.out.later hb6)
  clear HW_5
  have h61 : m6.length = 1 := by have h9 := congrArg List.length he6; rw [pcs_len, HE1.out, HE2.out, kgo1 va_good vb_good] at h9; exact h9
  have h63 : n6.length = 3 := by have h9 := congrArg List.length hf6; rw [pcs_len, HE1.out, HE2.out, kgo3 va_good vb_good] at h9; exact h9
  obtain ⟨o6, c6, rfl, _, _⟩ := hp6.form
  obtain ⟨o6', c6', rfl, _, _⟩ := hq6.form
  rw [h61, h63]
  clear hp6 hq6 he6 hf6 hb6 h61 h63
  go_wp2_with fail
  refine (drop_any HP2_6.out HR2_6.out HS2.out 0 4).mono ?_
  rintro e z7 ⟨m7, v7, rfl, ho7, he7, hb7⟩
  have HA_7 := hide (HA_6.out.later hb7)
  clear HA_6
  have HBr_7 := hide (HBr_6.out.later hb7)
  clear HBr_6
  have HB_7 := hide (HB_6.out.trans (hb7.mono HB_6.out.size))
  clear HB_6
  have HP1_7 := hide (HP1_6.out.later hb7 (Nat.le_refl _))
  clear HP1_6
  have HR1_7 := hide (HR1_6.out.later hb7)
  clear HR1_6
  have HP2_7 := hide (HP2_6.out.later hb7 (Nat.le_refl _))
  clear HP2_6
  have HR2_7 := hide (HR2_6.out.later hb7)
  clear HR2_6
  have HP3_7 := hide (HP3_6.out.later hb7 (Nat.le_refl _))
  clear HP3_6
  have HR3_7 := hide (HR3_6.out.later hb7)
  clear HR3_6
  have HW_7 := hide (HW_6.out.later hb7)
  clear HW_6
  have HE7 := hide (show pcs m7 = [((4, 5), [vb]), ((5, 9), [va])] from he7.trans (by rw [HE2.out]; exact kdrop va_good vb_good))
  have HL7 := hide (show m7.length = 2 from by have h9 := congrArg List.length HE7.out; rw [pcs_len] at h9; exact h9)
  have hp7 := ho7.o.pieces
  obtain ⟨o7, c7, rfl, _, _⟩ := hp7.form
  rw [HL7.out] at hp7 ⊢
  have HP7_7 := hide (hp7)
  clear hp7 ho7 he7 hb7
  obtain ⟨q0, q1, q4, q5, hQ⟩ : ∃ (b off : Nat) (x0 x2 : Pm), o2 = some ⟨b, off, none⟩ ∧ z7.cell? ⟨b, off, none⟩ = some (.int .i64 1) ∧ z7.cell? ⟨b, off + 1, none⟩ = some (.int .i64 3) ∧ z7.cell? ⟨b, off + 6, none⟩ = some (.int .i64 5) ∧ z7.cell? ⟨b, off + 7, none⟩ = some (.int .i64 9) := by
    have h1 := HP2_7.out
    obtain ⟨x0, x1, x2, rfl⟩ := len_three HL2.out
    have h2 := HE2.out
    simp only [pcs, List.map_cons, List.map_nil, Pm.pc, List.cons.injEq, Prod.mk.injEq, and_true] at h2
    obtain ⟨⟨s0, _⟩, _, s2, _⟩ := h2
    obtain ⟨b, off, cap, he, _⟩ := h1.at 0 (by simp)
    simp only [Value.slice.injEq] at he
    obtain ⟨rfl, _, _⟩ := he
    have a0 := (h1.got 0 (by simp)).2
    have a2 := (h1.got 2 (by simp)).2
    simp only [List.getElem_cons_zero, List.getElem_cons_succ, s0, s2] at a0 a2
    exact ⟨b, off, x0, x2, rfl, by simpa using a0.1, by simpa using a0.2.1, by simpa using a2.1, by simpa using a2.2.1⟩
  obtain ⟨rfl, d0, d1, d6, d7⟩ := hQ
  go_wp2_with fail
  refine (Cod.rows_any [vb] [vb] _ _ (by simp) (by simp) _ HW_7.out HBr_7.out).mono ?_
  rw [decide_eq_true rfl]
  rintro e z8 ⟨rfl, hb8⟩
  have HA_8 := hide (HA_7.out.later hb8)
  clear HA_7
  have HBr_8 := hide (HBr_7.out.later hb8)
  clear HBr_7
  have HB_8 := hide (HB_7.out.trans (hb8.mono HB_7.out.size))
  clear HB_7
  have HP1_8 := hide (HP1_7.out.later hb8 (Nat.le_refl _))
  clear HP1_7
  have HR1_8 := hide (HR1_7.out.later hb8)
  clear HR1_7
  have HP2_8 := hide (HP2_7.out.later hb8 (Nat.le_refl _))
  clear HP2_7
  have HR2_8 := hide (HR2_7.out.later hb8)
  clear HR2_7
  have HP3_8 := hide (HP3_7.out.later hb8 (Nat.le_refl _))
  clear HP3_7
  have HR3_8 := hide (HR3_7.out.later hb8)
  clear HR3_7
  have HW_8 := hide (HW_7.out.later hb8)
  clear HW_7
  have HP7_8 := hide (HP7_7.out.later hb8 (Nat.le_refl _))
  clear HP7_7
  clear hb8 d0 d1 d6 d7
  go_wp2_with fail
  refine (coal_any HP3_8.out HR3_8.out HS3.out).mono ?_
  rintro e z9 ⟨m9, v9, rfl, ho9, he9, hb9⟩
  have HA_9 := hide (HA_8.out.later hb9)
  clear HA_8
  have HBr_9 := hide (HBr_8.out.later hb9)
  clear HBr_8
  have HB_9 := hide (HB_8.out.trans (hb9.mono HB_8.out.size))
  clear HB_8
  have HP1_9 := hide (HP1_8.out.later hb9 (Nat.le_refl _))
  clear HP1_8
  have HR1_9 := hide (HR1_8.out.later hb9)
  clear HR1_8
  have HP2_9 := hide (HP2_8.out.later hb9 (Nat.le_refl _))
  clear HP2_8
  have HR2_9 := hide (HR2_8.out.later hb9)
  clear HR2_8
  have HP3_9 := hide (HP3_8.out.later hb9 (Nat.le_refl _))
  clear HP3_8
  have HR3_9 := hide (HR3_8.out.later hb9)
  clear HR3_8
  have HW_9 := hide (HW_8.out.later hb9)
  clear HW_8
  have HP7_9 := hide (HP7_8.out.later hb9 (Nat.le_refl _))
  clear HP7_8
  have HE9 := hide (show pcs m9 = [((1, 9), [va])] from he9.trans (by rw [HE3.out]; exact kco va_good))
  have HL9 := hide (show m9.length = 1 from by have h9 := congrArg List.length HE9.out; rw [pcs_len] at h9; exact h9)
  have HS9 := hide (small_known (m := m9) (by rw [HL9.out]; omega) (by rw [HE9.out]; simp))
  have C9 := hide (same_any ho9.o.pieces ho9.r HS9.out HP1_9.out HR1_9.out HS1.out)
  rw [decide_eq_true (show pcs m9 = pcs m1 from by rw [HE9.out, HE1.out])] at C9
  clear ho9 he9 hb9
  go_wp2_with fail
  refine C9.out.mono ?_
  rintro e z10 ⟨rfl, hb10⟩
  have HA_10 := hide (HA_9.out.later hb10)
  clear HA_9
  have HBr_10 := hide (HBr_9.out.later hb10)
  clear HBr_9
  have HB_10 := hide (HB_9.out.trans (hb10.mono HB_9.out.size))
  clear HB_9
  have HP1_10 := hide (HP1_9.out.later hb10 (Nat.le_refl _))
  clear HP1_9
  have HR1_10 := hide (HR1_9.out.later hb10)
  clear HR1_9
  have HP2_10 := hide (HP2_9.out.later hb10 (Nat.le_refl _))
  clear HP2_9
  have HR2_10 := hide (HR2_9.out.later hb10)
  clear HR2_9
  have HP3_10 := hide (HP3_9.out.later hb10 (Nat.le_refl _))
  clear HP3_9
  have HR3_10 := hide (HR3_9.out.later hb10)
  clear HR3_9
  have HW_10 := hide (HW_9.out.later hb10)
  clear HW_9
  have HP7_10 := hide (HP7_9.out.later hb10 (Nat.le_refl _))
  clear HP7_9
  clear hb10 C9
  obtain ⟨q0', q1', hQ'⟩ : ∃ (b off : Nat), o7 = some ⟨b, off, none⟩ ∧ z10.cell? ⟨b, off, none⟩ = some (.int .i64 4) ∧ z10.cell? ⟨b, off + 1, none⟩ = some (.int .i64 5) := by
    have h1 := HP7_10.out
    obtain ⟨x0, x1, rfl⟩ := len_two HL7.out
    have h2 := HE7.out
    simp only [pcs, List.map_cons, List.map_nil, Pm.pc, List.cons.injEq, Prod.mk.injEq, and_true] at h2
    obtain ⟨⟨s0, _⟩, _⟩ := h2
    obtain ⟨b, off, cap, he, _⟩ := h1.at 0 (by simp)
    simp only [Value.slice.injEq] at he
    obtain ⟨rfl, _, _⟩ := he
    have a0 := (h1.got 0 (by simp)).2
    simp only [List.getElem_cons_zero, s0] at a0
    exact ⟨b, off, rfl, by simpa using a0.1, by simpa using a0.2.1⟩
  obtain ⟨rfl, d0, d1⟩ := hQ'
  have C10 := hide (right_any HP2_10.out HR2_10.out HS2.out)
  rw [decide_eq_true (show Ok Good (pcs m2) from by rw [HE2.out]; exact kok3 va_good vb_good va_good)] at C10
  go_wp2_with fail
  refine C10.out.mono ?_
  rintro e z11 ⟨rfl, hb11⟩
  have HA_11 := hide (HA_10.out.later hb11)
  clear HA_10
  have HBr_11 := hide (HBr_10.out.later hb11)
  clear HBr_10
  have HB_11 := hide (HB_10.out.trans (hb11.mono HB_10.out.size))
  clear HB_10
  have HP1_11 := hide (HP1_10.out.later hb11 (Nat.le_refl _))
  clear HP1_10
  have HR1_11 := hide (HR1_10.out.later hb11)
  clear HR1_10
  have HP2_11 := hide (HP2_10.out.later hb11 (Nat.le_refl _))
  clear HP2_10
  have HR2_11 := hide (HR2_10.out.later hb11)
  clear HR2_10
  have HP3_11 := hide (HP3_10.out.later hb11 (Nat.le_refl _))
  clear HP3_10
  have HR3_11 := hide (HR3_10.out.later hb11)
  clear HR3_10
  have HW_11 := hide (HW_10.out.later hb11)
  clear HW_10
  have HP7_11 := hide (HP7_10.out.later hb11 (Nat.le_refl _))
  clear HP7_10
  clear hb11 C10 d0 d1
  have HZ := hide (show PcsAt [⟨(0, 0), [], none, 0⟩] (.slice (some ⟨z11.heap.size, 0, none⟩) 1 1) (z11.alloc (.cells #[.int .i64 0, .int .i64 0, .slice none 0 0] 56)) from one3_at z11 ⟨(0, 0), [], none, 0⟩ _ rfl)
  have hbz := below_alloc z11 (.cells #[.int .i64 0, .int .i64 0, .slice none 0 0] 56)
  have HA_12 := hide (HA_11.out.later hbz)
  clear HA_11
  have HBr_12 := hide (HBr_11.out.later hbz)
  clear HBr_11
  have HB_12 := hide (HB_11.out.trans (hbz.mono HB_11.out.size))
  clear HB_11
  have HP1_12 := hide (HP1_11.out.later hbz (Nat.le_refl _))
  clear HP1_11
  have HR1_12 := hide (HR1_11.out.later hbz)
  clear HR1_11
  have HP2_12 := hide (HP2_11.out.later hbz (Nat.le_refl _))
  clear HP2_11
  have HR2_12 := hide (HR2_11.out.later hbz)
  clear HR2_11
  have HP3_12 := hide (HP3_11.out.later hbz (Nat.le_refl _))
  clear HP3_11
  have HR3_12 := hide (HR3_11.out.later hbz)
  clear HR3_11
  have HW_12 := hide (HW_11.out.later hbz)
  clear HW_11
  have HP7_12 := hide (HP7_11.out.later hbz (Nat.le_refl _))
  clear HP7_11
  have C11 := hide (right_any HZ.out (fun x hx => by rw [List.mem_singleton.1 hx]; exact ⟨none, 0, rfl, fun h => absurd rfl h⟩) (show Small [⟨(0, 0), [], none, 0⟩] from ⟨by simp, by simp, by simp⟩))
  rw [decide_eq_false (show ¬ Ok Good (pcs [⟨(0, 0), [], none, 0⟩]) from knot)] at C11
  clear hbz
  go_wp2_with fail
  refine C11.out.mono ?_
  rintro e z12 ⟨rfl, hb12⟩
  have HA_13 := hide (HA_12.out.later hb12)
  clear HA_12
  have HBr_13 := hide (HBr_12.out.later hb12)
  clear HBr_12
  have HB_13 := hide (HB_12.out.trans (hb12.mono HB_12.out.size))
  clear HB_12
  have HP1_13 := hide (HP1_12.out.later hb12 (Nat.le_refl _))
  clear HP1_12
  have HR1_13 := hide (HR1_12.out.later hb12)
  clear HR1_12
  have HP2_13 := hide (HP2_12.out.later hb12 (Nat.le_refl _))
  clear HP2_12
  have HR2_13 := hide (HR2_12.out.later hb12)
  clear HR2_12
  have HP3_13 := hide (HP3_12.out.later hb12 (Nat.le_refl _))
  clear HP3_12
  have HR3_13 := hide (HR3_12.out.later hb12)
  clear HR3_12
  have HW_13 := hide (HW_12.out.later hb12)
  clear HW_12
  have HP7_13 := hide (HP7_12.out.later hb12 (Nat.le_refl _))
  clear HP7_12
  clear hb12 C11
  go_wp2_with fail
  go_ret
  exact ⟨rfl, HB_13.out⟩
theorem knownC : KnownC := known_any
end Prd
end Go.Proofs.Ytoacombaddknfaa
