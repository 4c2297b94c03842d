/- The document's Norm, Covers. Condition: no more than 1000 intervals. -/
import Derived.Test.YtjlejfjkigohhaaIl
namespace Go.Proofs.Ytjlejfjkigohhaa
open Go.RowKit
namespace Spn
theorem norm_take {l : List Sp} {i : Nat} (hi : i < l.length) : norm (l.take (i + 1)) = if Right l[i] then add (norm (l.take i)) l[i] else norm (l.take i) := by
  rw [List.take_succ_eq_append_getElem hi, norm_snoc]
set_option maxHeartbeats 4000000 in
set_option maxRecDepth 100000 in
theorem rnorm_any {l : List Sp} {sl : Value} {w : World} (h : SpansAt l sl w) (hl : l.length ≤ 1000) :
    Calls Try.prog 23 #[sl] w fun e w' => ∃ v : Value, e = .returned v ∧ Row w.heap.size (norm l) v w' ∧ Below w.heap.size w w' := by
  obtain ⟨so, sc, rfl, _, _⟩ := h.form
  have HA := hide h
  obtain ⟨n, hn⟩ : ∃ n, n = l.length := ⟨_, rfl⟩
  rw [← hn] at hl ⊢
  have HN := hide hn
  clear h hn
  go_enter Try.func23, Try.ntmps23
  go_wp2_with fail
  go_loopw [3, 4] (fun rv ii wr => ∃ i : Nat, ii = .int .i64 i ∧ i ≤ n ∧ Hid (Row w.heap.size (norm (l.take i)) rv wr) ∧ Hid (Below w.heap.size w wr)) (fun _ ii _ => (n - (intOf ii).toNat))
  case atStart => exact ⟨0, rfl, by omega, hide (Row.nil _ _), hide (Below.refl _ _)⟩
  case round =>
    rename World => wr
    obtain ⟨i, rfl, hi, HR, HB⟩ := hrel
    rcases Nat.lt_or_ge i n with hlt | hge
    · have g1 : (i : Int) < (n : Int) := by omega
      have hil : i < l.length := by rw [← HN.out]; exact hlt
      obtain ⟨b0, off, cap, he, hbw, k0, k1⟩ := (HA.out.later HB.out (Nat.le_refl _)).at i hil
      rw [← HN.out] at he
      simp only [Value.slice.injEq] at he
      obtain ⟨rfl, _, rfl⟩ := he
      have HAT := hide (show ∀ z : World, Below w.heap.size w z → z.cell? ⟨b0, off + i * 2, none⟩ = some (.int .i64 (l[i]).1) ∧ z.cell? ⟨b0, off + i * 2 + 1, none⟩ = some (.int .i64 (l[i]).2) from fun z hz => ((HA.out.later hz (Nat.le_refl _)).get i hil).2)
      have HLA := hide (show (norm (l.take i)).length ≤ 1000 from by
        have := norm_len (l.take i)
        rw [List.length_take] at this
        omega)
      have HX := hide (norm_take hil)
      obtain ⟨x, hx⟩ : ∃ x, x = l[i] := ⟨_, rfl⟩
      rw [← hx] at k0 k1 HAT HX
      obtain ⟨m, hm⟩ : ∃ m, m = norm (l.take i) := ⟨_, rfl⟩
      rw [← hm] at HR HX HLA
      clear hx hm
      by_cases hr : Right (x.1, x.2)
      · have C1 := fun w => rright_yes hr w
        have HX2 := hide (show norm (l.take (i + 1)) = add m (x.1, x.2) from by rw [HX.out, if_pos hr])
        clear hr HX
        go_wp2_with fail
        refine (C1 _).mono ?_
        rintro e w2 ⟨rfl, hb2⟩
        have HB2 := hide (HB.out.trans (hb2.mono HB.out.size))
        have CA := hide (add_any (HR.out.later hb2 (Nat.le_refl _)).spans HLA.out x.1 x.2)
        clear hb2 k0 k1
        obtain ⟨k0, k1⟩ := HAT.out w2 HB2.out
        go_wp2_with fail
        refine CA.out.mono ?_
        rintro e w3 ⟨v, rfl, hrow, hb3⟩
        have HR3 := hide (show Row w.heap.size (norm (l.take (i + 1))) v w3 from by rw [HX2.out]; exact hrow.mono HB2.out.size)
        have HB3 := hide (HB2.out.trans (hb3.mono HB2.out.size))
        clear hrow hb3
        go_wp2_with fail
        go_roundw
        case rel => exact ⟨i + 1, by go_num, by omega, HR3, HB3⟩
        case measure => simp [intOf]; omega
      · have C1 := fun w => rright_no hr w
        have HX2 := hide (show norm (l.take (i + 1)) = m from by rw [HX.out, if_neg hr])
        clear hr HX
        go_wp2_with fail
        refine (C1 _).mono ?_
        rintro e w2 ⟨rfl, hb2⟩
        have HR3 := hide (show Row w.heap.size (norm (l.take (i + 1))) u3 w2 from by rw [HX2.out]; exact HR.out.later hb2 (Nat.le_refl _))
        have HB3 := hide (HB.out.trans (hb2.mono HB.out.size))
        clear hb2 k0 k1
        go_wp2_with fail
        go_roundw
        case rel => exact ⟨i + 1, by go_num, by omega, HR3, HB3⟩
        case measure => simp [intOf]; omega
    · obtain rfl : i = n := by omega
      have g1 : ¬ (i : Int) < (i : Int) := by omega
      have HF := hide (show Row w.heap.size (norm l) u3 wr ∧ Below w.heap.size w wr from ⟨by
        have := HR.out
        rwa [HN.out, List.take_length] at this, HB.out⟩)
      go_wp2_with fail
      go_ret
      exact ⟨u3, rfl, HF.out⟩
set_option maxHeartbeats 4000000 in
set_option maxRecDepth 100000 in
theorem rcovers_any {l : List Sp} {sl : Value} {w : World} (h : SpansAt l sl w) (hl : l.length ≤ 1000) (a b : Int) :
    Calls Try.prog 25 #[sl, .agg #[.int .i64 a, .int .i64 b]] w fun e w' => e = .returned (.bool (covB l (a, b))) ∧ Below w.heap.size w w' := by
  have HL := hide hl
  have HA := hide h
  clear h hl
  by_cases hr : Right (a, b)
  · have C1 := fun w => rright_yes hr w
    have HRT := hide hr
    clear hr
    go_enter Try.func25, Try.ntmps25
    go_wp2_with fail
    refine (C1 _).mono ?_
    rintro e w1 ⟨rfl, hb⟩
    obtain ⟨hA1, hb1⟩ := box1 hb
    have CN := hide (rnorm_any (HA.out.later hb1 (Nat.le_refl _)) HL.out)
    have HA1 := hide hA1
    have HB1 := hide hb1
    clear hb hb1 hA1
    go_wp2_with fail
    refine CN.out.mono ?_
    rintro e w2 ⟨v, rfl, hrow, hb⟩
    obtain ⟨ao, c, rfl, _, _⟩ := hrow.form
    have HS := hide hrow.spans
    have HA2 := hide (HA1.out.both hb)
    have HB2 := hide (HB1.out.trans (hb.mono HB1.out.size))
    obtain ⟨m, hm⟩ : ∃ m, m = norm l := ⟨_, rfl⟩
    rw [← hm] at HS ⊢
    have HM := hide hm
    obtain ⟨n, hn⟩ : ∃ n, n = m.length := ⟨_, rfl⟩
    rw [← hn]
    have HN := hide hn
    have hn2 : n ≤ 1000 := by rw [hn, hm]; have := norm_len l; have := HL.out; omega
    clear hrow hb hm hn CN
    go_wp2_with fail
    go_loopw [6] (fun ii wr => ∃ i : Nat, ii = .int .i64 i ∧ i ≤ n ∧ Hid (At (a, b) w.heap.size wr) ∧ Hid (Below w2.heap.size w2 wr) ∧ Hid (∀ (j : Nat) (hj : j < m.length), j < i → ¬ ((m[j]).1 ≤ a ∧ b ≤ (m[j]).2))) (fun ii _ => (n - (intOf ii).toNat))
    case atStart => exact ⟨0, rfl, by omega, HA2, hide (Below.refl _ _), hide (fun j hj h0 => by omega)⟩
    case round =>
      rename World => wr
      obtain ⟨i, rfl, hi, HA3, HB, HF⟩ := hrel
      rcases Nat.lt_or_ge i n with hlt | hge
      · have g1 : (i : Int) < (n : Int) := by omega
        have hil : i < m.length := by rw [← HN.out]; exact hlt
        obtain ⟨b0, off, cap, he, hbw, k0, k1⟩ := (HS.out.later HB.out (Nat.le_refl _)).at i hil
        rw [← HN.out] at he
        simp only [Value.slice.injEq] at he
        obtain ⟨rfl, _, rfl⟩ := he
        obtain ⟨x, hx⟩ : ∃ x, x = m[i] := ⟨_, rfl⟩
        rw [← hx] at k0 k1
        have HX := hide hx
        obtain ⟨a0, a1, _, _, al⟩ := HA3.out
        have HA4 := hide (HA3.out.both (Below.refl _ _).drew)
        have HB4 := hide HB.out.drew
        clear hx
        by_cases h1 : x.1 ≤ a
        · by_cases h2 : b ≤ x.2
          · have HC := hide (show covB l (a, b) = true from covB_yes i (by rw [← HM.out]; exact hil) (by simp only [← HM.out]; rw [← HX.out]; exact h1) (by simp only [← HM.out]; rw [← HX.out]; exact h2))
            have HB5 := hide (HB2.out.trans (HB4.out.mono HB2.out.size))
            go_wp2_with fail
            go_region
            go_wp2_with fail
            go_ret
            exact ⟨ret_bool HC.out.symm, HB5.out⟩
          · have HF2 := hide (show ∀ (j : Nat) (hj : j < m.length), j < i + 1 → ¬ ((m[j]).1 ≤ a ∧ b ≤ (m[j]).2) from fun j hj hji hh => by
              rcases Nat.lt_or_ge j i with h9 | h9
              · exact HF.out j hj h9 hh
              · obtain rfl : j = i := by omega
                rw [← HX.out] at hh
                exact h2 hh.2)
            go_wp2_with fail
            go_region
            go_wp2_with fail
            go_roundw
            case rel => exact ⟨i + 1, by go_num, by omega, HA4, HB4, HF2⟩
            case measure => simp [intOf]; omega
        · have HF2 := hide (show ∀ (j : Nat) (hj : j < m.length), j < i + 1 → ¬ ((m[j]).1 ≤ a ∧ b ≤ (m[j]).2) from fun j hj hji hh => by
            rcases Nat.lt_or_ge j i with h9 | h9
            · exact HF.out j hj h9 hh
            · obtain rfl : j = i := by omega
              rw [← HX.out] at hh
              exact h1 hh.1)
          have g4 : decide (x.1 ≤ a) = false := decide_eq_false h1
          go_wp2_with fail
          go_region
          go_wp2_with fail
          go_roundw
          case rel => exact ⟨i + 1, by go_num, by omega, HA4, HB4, HF2⟩
          case measure => simp [intOf]; omega
      · obtain rfl : i = n := by omega
        have g1 : ¬ (i : Int) < (i : Int) := by omega
        have HC := hide (show covB l (a, b) = false from covB_else HRT.out (fun j hj => by
          have h9 := HF.out
          rw [HM.out] at h9
          have hj2 := HN.out
          rw [HM.out] at hj2
          exact h9 j hj (by rw [hj2]; exact hj)))
        have HB5 := hide (HB2.out.trans (HB.out.mono HB2.out.size))
        go_wp2_with fail
        go_ret
        exact ⟨ret_bool HC.out.symm, HB5.out⟩
  · have C1 := fun w => rright_no hr w
    have HC := hide (show covB l (a, b) = true from covB_no hr)
    clear hr
    go_enter Try.func25, Try.ntmps25
    go_wp2_with fail
    refine (C1 _).mono ?_
    rintro e w1 ⟨rfl, hb⟩
    obtain ⟨_, hb1⟩ := box1 hb
    clear hb
    go_wp2_with fail
    go_ret
    exact ⟨ret_bool HC.out.symm, hb1⟩
end Spn
end Go.Proofs.Ytjlejfjkigohhaa
