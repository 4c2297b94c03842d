/- IndexMax's walk, under what the program's index keeps to. -/
import Derived.Test.YtapdhelioecneaaU11
namespace Go.Proofs.Ytapdhelioecneaa
open Go.RowKit
namespace Idx
theorem mem_right {M : List It} (h : Ok M) {i : It} (hi : i ∈ M) : 0 < i.e ∧ i.e ≤ 1099511627776 := by
  have := h.one i hi
  unfold RightI at this
  omega
theorem maxE_le {M : List It} (h : Ok M) : maxE M ≤ 1099511627776 := by
  by_cases hM : M = []
  · subst hM; decide
  · obtain ⟨i, hi, he⟩ := maxE_is hM (fun i hi => (mem_right h hi).1)
    have := (mem_right h hi).2; omega
theorem stab_past (M : List It) (lo hi : List UInt8) {t : Int} (ht : maxE M ≤ t) : stab M lo hi t = [] := by
  unfold stab
  rw [List.filter_eq_nil_iff]
  intro i hi9 hs
  have h1 := maxE_ge hi9
  unfold stabB at hs
  rw [decide_eq_false (show ¬ t < i.e by omega)] at hs
  simp at hs
/-- Whether there is one with the greatest end among these. -/
def someE (M : List It) (i : Nat) : Bool := decide (M = []) || (M.take i).any (fun x => decide (x.e = maxE M))
theorem someE_all {M : List It} (h : Ok M) : someE M M.length = true := by
  unfold someE
  by_cases hM : M = []
  · rw [decide_eq_true hM]; rfl
  · obtain ⟨i, hi, he⟩ := maxE_is hM (fun i hi => (mem_right h hi).1)
    rw [List.take_length, Bool.or_eq_true, List.any_eq_true]
    exact .inr ⟨i, hi, decide_eq_true he⟩
theorem someE_step {M : List It} {i : Nat} (hi : i < M.length) : someE M (i + 1) = (someE M i || decide ((M[i]).e = maxE M)) := by
  unfold someE
  rw [List.take_succ_eq_append_getElem hi, List.any_append, ← Bool.or_assoc]
  simp
set_option maxHeartbeats 8000000 in
set_option maxRecDepth 100000 in
theorem walk_max {PX : Nat → Int → (Nat → Prop) → List It → World → Prop} (K : Con PX) {l : List Opv} {sl : Value} {w : World} (h : OpsAt l sl w) (hin : ∀ o ∈ l, o.inn) (b : Int) (hb0 : 0 ≤ b) (hb1 : b ≤ 255) :
    Calls Try.prog 9 #[sl, .int .u8 b] w fun e w' => e = .returned (.bool true) ∧ Below w.heap.size w w' := by
  have HA := hide h
  have HIN := hide hin
  clear h hin
  go_enter Try.func9, Try.ntmps9
  go_wp2_with fail
  refine (K.new 3 _ (by kernel_rfl)).mono ?_
  rintro e w1 ⟨R, F1, rfl, hp, hf, hb⟩
  have P1 := hide hp
  have G1 := hide hf
  have B1 := hide hb
  clear hp hf hb
  go_wp2_with fail
  refine (build_any K HA.out HIN.out B1.out P1.out G1.out (fit_nil _)).mono ?_
  rintro e w2 ⟨rfl, F2, hp, ht⟩
  have P2 := hide hp
  have B2 := hide (B1.out.trans (ht.1.below G1.out B1.out.size))
  have HFM := hide (show Fit 998 (buildL [] l) from (((fit_nil 700).steps (l.take 200) (fun o ho => HIN.out o (List.mem_of_mem_take ho))).mono (by rw [List.length_take]; omega)))
  clear hp ht P1 B1
  obtain ⟨M, hM⟩ : ∃ M, M = buildL [] l := ⟨_, rfl⟩
  rw [← hM] at P2 HFM
  clear hM
  go_wp2_with fail
  refine (K.all P2.out HFM.out).mono ?_
  rintro e w3 ⟨va, rfl, ha, _, hb⟩
  obtain ⟨so, sc, rfl, _, _⟩ := ha.form
  have P3 := hide (K.later P2.out hb (Nat.le_refl _))
  have B3 := hide (B2.out.trans (hb.mono B2.out.size))
  have A3 := hide ha
  clear ha hb P2 B2
  obtain ⟨n, hn⟩ : ∃ n, n = M.length := ⟨_, rfl⟩
  rw [← hn]
  have HN := hide hn
  clear hn
  go_wp2_with fail
  refine (K.max P3.out HFM.out).mono ?_
  rintro e w4 ⟨rfl, hb⟩
  have P4 := hide (K.later P3.out hb (Nat.le_refl _))
  have B4 := hide (B3.out.trans (hb.mono B3.out.size))
  have A4 := hide (A3.out.later hb (Nat.le_refl _))
  clear hb P3 B3 A3
  obtain ⟨m, hm⟩ : ∃ m, m = maxE M := ⟨_, rfl⟩
  rw [← hm]
  have hm0 : 0 ≤ m := by rw [hm]; exact maxE_pos M
  have hm1 : m ≤ 1099511627776 := by rw [hm]; exact maxE_le HFM.out.ok
  have HM := hide hm
  have HS0 := hide (show someE M 0 = decide (n = 0) from by
    unfold someE
    rw [HN.out]
    cases M <;> simp)
  have HZ := hide (show n = 0 → m = 0 from fun h9 => by
    have : M = [] := List.eq_nil_of_length_eq_zero (by rw [← HN.out]; exact h9)
    rw [hm, this]; rfl)
  have HW : Hid (Below w.heap.size w w4) := B4
  clear hm
  have k0 : ∀ i : Nat, i < n → ∃ b0 off, so = some ⟨b0, off, none⟩ ∧ w4.cell? ⟨b0, off + i * 4 + 2, none⟩ = some (.int .i64 ((M[i]?).getD noIt).e) := fun i hi => by
    have hil : i < M.length := by rw [← HN.out]; exact hi
    obtain ⟨b0, off, cap, he, _, _, _, k2, _⟩ := A4.out.at i hil
    simp only [Value.slice.injEq] at he
    exact ⟨b0, off, he.1, by rw [List.getElem?_eq_getElem hil]; exact k2⟩
  have HK := hide k0
  clear k0
  by_cases hz : n = 0
  · have g0 : ((n : Int) == 0) = true := by rw [hz]; rfl
    have q1 : (m == 0) = true := by rw [HZ.out hz]; rfl
    have HS1 := hide (show true = someE M 0 from by rw [HS0.out, decide_eq_true hz])
    clear hz
    go_wp2_with fail
    go_loopw [9, 10] (fun sv ii wr => ∃ i : Nat, ii = .int .i64 i ∧ i ≤ n ∧ sv = .bool (someE M i) ∧ wr = w4) (fun _ ii _ => (n - (intOf ii).toNat))
    case atStart => exact ⟨0, rfl, by omega, by rw [HS1.out], rfl⟩
    case round =>
      obtain ⟨i, rfl, hi, rfl, rfl⟩ := hrel
      rcases Nat.lt_or_ge i n with hlt | hge
      · have g1 : (i : Int) < (n : Int) := by omega
        have hil : i < M.length := by rw [← HN.out]; exact hlt
        obtain ⟨b0, off, rfl, k2⟩ := HK.out i hlt
        rw [List.getElem?_eq_getElem hil, Option.getD_some] at k2
        have HST := hide (someE_step hil)
        have hle : (M[i]).e ≤ m := by rw [HM.out]; exact maxE_ge (List.getElem_mem hil)
        obtain ⟨x, hx⟩ : ∃ x, x = M[i] := ⟨_, rfl⟩
        rw [← hx] at k2 HST hle
        clear hx
        have g3 : ¬ m < x.e := by omega
        rw [← HM.out] at HST
        obtain ⟨sb, hsb⟩ : ∃ sb, sb = someE M i := ⟨_, rfl⟩
        rw [← hsb] at HST ⊢
        clear hsb
        cases sb with
        | true =>
          have HE := hide (show true = someE M (i + 1) from by rw [HST.out]; rfl)
          go_wp2_with fail
          go_roundw
          case rel => exact ⟨i + 1, by go_num, by omega, by rw [HE.out], trivial⟩
          case measure => simp [intOf]; omega
        | false =>
          by_cases h9 : x.e = m
          · have g4 : (x.e == m) = true := by rw [h9]; simp
            have HE := hide (show true = someE M (i + 1) from by rw [HST.out, decide_eq_true h9]; rfl)
            clear h9
            go_wp2_with fail
            go_roundw
            case rel => exact ⟨i + 1, by go_num, by omega, by rw [HE.out], trivial⟩
            case measure => simp [intOf]; omega
          · have g4 : (x.e == m) = false := by rw [beq_eq_false_iff_ne]; exact h9
            have HE := hide (show false = someE M (i + 1) from by rw [HST.out, decide_eq_false h9]; rfl)
            clear h9
            go_wp2_with fail
            go_roundw
            case rel => exact ⟨i + 1, by go_num, by omega, by rw [HE.out], trivial⟩
            case measure => simp [intOf]; omega
      · obtain rfl : i = n := by omega
        have g1 : ¬ (i : Int) < (i : Int) := by omega
        have hse : someE M i = true := by rw [HN.out]; exact someE_all HFM.out.ok
        rw [hse]
        clear hse g0
        go_wp2_with fail
        refine (K.len P4.out HFM.out).mono ?_
        rintro e w5 ⟨rfl, hb⟩
        rw [← HN.out]
        have P5 := hide (K.later P4.out hb (Nat.le_refl _))
        have B5 := hide (B4.out.trans (hb.mono B4.out.size))
        clear hb P4 B4
        go_wp2_with fail
        refine (K.stab P5.out HFM.out [] [] (m + b) (by decide) (by decide) (by unfold In64; omega)).mono ?_
        intro e w6 hc
        rw [stab_past M [] [] (by rw [← HM.out]; omega)] at hc
        obtain ⟨vb, rfl, ha, _, hb⟩ := hc
        obtain ⟨ro, rc, rfl, _, _⟩ := ha.form
        have B6 := hide (B5.out.trans (hb.mono B5.out.size))
        clear ha hb P5 B5
        go_wp2_with fail
        refine (known_any K w6).mono ?_
        rintro e w7 ⟨rfl, hb⟩
        have B7 := hide (B6.out.trans (hb.mono B6.out.size))
        clear hb B6
        go_wp2_with fail
        go_ret
        exact ⟨rfl, B7.out⟩
  · have g0 : ((n : Int) == 0) = false := by rw [beq_eq_false_iff_ne]; omega
    have HS1 := hide (show false = someE M 0 from by rw [HS0.out, decide_eq_false hz])
    clear hz
    go_wp2_with fail
    go_loopw [9, 10] (fun sv ii wr => ∃ i : Nat, ii = .int .i64 i ∧ i ≤ n ∧ sv = .bool (someE M i) ∧ wr = w4) (fun _ ii _ => (n - (intOf ii).toNat))
    case atStart => exact ⟨0, rfl, by omega, by rw [HS1.out], rfl⟩
    case round =>
      obtain ⟨i, rfl, hi, rfl, rfl⟩ := hrel
      rcases Nat.lt_or_ge i n with hlt | hge
      · have g1 : (i : Int) < (n : Int) := by omega
        have hil : i < M.length := by rw [← HN.out]; exact hlt
        obtain ⟨b0, off, rfl, k2⟩ := HK.out i hlt
        rw [List.getElem?_eq_getElem hil, Option.getD_some] at k2
        have HST := hide (someE_step hil)
        have hle : (M[i]).e ≤ m := by rw [HM.out]; exact maxE_ge (List.getElem_mem hil)
        obtain ⟨x, hx⟩ : ∃ x, x = M[i] := ⟨_, rfl⟩
        rw [← hx] at k2 HST hle
        clear hx
        have g3 : ¬ m < x.e := by omega
        rw [← HM.out] at HST
        obtain ⟨sb, hsb⟩ : ∃ sb, sb = someE M i := ⟨_, rfl⟩
        rw [← hsb] at HST ⊢
        clear hsb
        cases sb with
        | true =>
          have HE := hide (show true = someE M (i + 1) from by rw [HST.out]; rfl)
          go_wp2_with fail
          go_roundw
          case rel => exact ⟨i + 1, by go_num, by omega, by rw [HE.out], trivial⟩
          case measure => simp [intOf]; omega
        | false =>
          by_cases h9 : x.e = m
          · have g4 : (x.e == m) = true := by rw [h9]; simp
            have HE := hide (show true = someE M (i + 1) from by rw [HST.out, decide_eq_true h9]; rfl)
            clear h9
            go_wp2_with fail
            go_roundw
            case rel => exact ⟨i + 1, by go_num, by omega, by rw [HE.out], trivial⟩
            case measure => simp [intOf]; omega
          · have g4 : (x.e == m) = false := by rw [beq_eq_false_iff_ne]; exact h9
            have HE := hide (show false = someE M (i + 1) from by rw [HST.out, decide_eq_false h9]; rfl)
            clear h9
            go_wp2_with fail
            go_roundw
            case rel => exact ⟨i + 1, by go_num, by omega, by rw [HE.out], trivial⟩
            case measure => simp [intOf]; omega
      · obtain rfl : i = n := by omega
        have g1 : ¬ (i : Int) < (i : Int) := by omega
        have hse : someE M i = true := by rw [HN.out]; exact someE_all HFM.out.ok
        rw [hse]
        clear hse g0
        go_wp2_with fail
        refine (K.len P4.out HFM.out).mono ?_
        rintro e w5 ⟨rfl, hb⟩
        rw [← HN.out]
        have P5 := hide (K.later P4.out hb (Nat.le_refl _))
        have B5 := hide (B4.out.trans (hb.mono B4.out.size))
        clear hb P4 B4
        go_wp2_with fail
        refine (K.stab P5.out HFM.out [] [] (m + b) (by decide) (by decide) (by unfold In64; omega)).mono ?_
        intro e w6 hc
        rw [stab_past M [] [] (by rw [← HM.out]; omega)] at hc
        obtain ⟨vb, rfl, ha, _, hb⟩ := hc
        obtain ⟨ro, rc, rfl, _, _⟩ := ha.form
        have B6 := hide (B5.out.trans (hb.mono B5.out.size))
        clear ha hb P5 B5
        go_wp2_with fail
        refine (known_any K w6).mono ?_
        rintro e w7 ⟨rfl, hb⟩
        have B7 := hide (B6.out.trans (hb.mono B6.out.size))
        clear hb B6
        go_wp2_with fail
        go_ret
        exact ⟨rfl, B7.out⟩
end Idx
end Go.Proofs.Ytapdhelioecneaa
