/- span.Covers. Condition: no more than 1000 intervals. -/
import Derived.Test.YtjlejfjkigohhaaIh
namespace Go.Proofs.Ytjlejfjkigohhaa
open Go.RowKit
namespace Spn
/-- Two boxes at once: where an interval lies, and a world behind. -/
theorem At.both {s : Sp} {k : Nat} {w w' : World} (h : At s k w) (hb : Below w.heap.size w w') : At s k w' := h.later hb h.lt
set_option maxHeartbeats 4000000 in
set_option maxRecDepth 100000 in
theorem covers_any {l : List Sp} {sl : Value} {w : World} (h : SpansAt l sl w) (hl : l.length ≤ 1000) (a b : Int) :
    Calls Try.prog 24 #[sl, .agg #[.int .i64 a, .int .i64 b]] w fun e w' => e = .returned (.bool (covB l (a, b))) ∧ Below w.heap.size w w' := by
  have HL := hide hl
  have HA := hide h
  clear h hl
  by_cases hr : Right (a, b)
  · have C1 := fun w => right_yes hr w
    have HRT := hide hr
    clear hr
    go_enter Try.func24, Try.ntmps24
    go_wp2_with fail
    refine (C1 _).mono ?_
    rintro e w1 ⟨rfl, hb⟩
    obtain ⟨hA1, hb1⟩ := box1 hb
    have CN := hide (norm_any (HA.out.later hb1 (Nat.le_refl _)) HL.out)
    have HA1 := hide hA1
    have HB1 := hide hb1
    clear hb hb1 hA1
    go_wp2_with fail
    refine CN.out.mono ?_
    rintro e w2 ⟨v, rfl, hrow, hb⟩
    obtain ⟨ao, c, rfl, _, _⟩ := hrow.form
    have HS := hide hrow.spans
    have HA2 := hide (HA1.out.both hb)
    have HB2 := hide (HB1.out.trans (hb.mono HB1.out.size))
    obtain ⟨m, hm⟩ : ∃ m, m = norm l := ⟨_, rfl⟩
    rw [← hm] at HS ⊢
    have HM := hide hm
    obtain ⟨n, hn⟩ : ∃ n, n = m.length := ⟨_, rfl⟩
    rw [← hn]
    have HN := hide hn
    have hn2 : n ≤ 1000 := by rw [hn, hm]; have := norm_len l; have := HL.out; omega
    clear hrow hb hm hn CN
    go_wp2_with fail
    go_loopw [13] (fun ii wr => ∃ i : Nat, ii = .int .i64 i ∧ i ≤ n ∧ Hid (At (a, b) w.heap.size wr) ∧ Hid (Below w2.heap.size w2 wr) ∧ Hid (∀ (j : Nat) (hj : j < m.length), j < i → ¬ ((m[j]).1 ≤ a ∧ b ≤ (m[j]).2))) (fun ii _ => (n - (intOf ii).toNat))
    case atStart => exact ⟨0, rfl, by omega, HA2, hide (Below.refl _ _), hide (fun j hj h0 => by omega)⟩
    case round =>
      rename World => wr
      obtain ⟨i, rfl, hi, HA3, HB, HF⟩ := hrel
      rcases Nat.lt_or_ge i n with hlt | hge
      · have g1 : (i : Int) < (n : Int) := by omega
        have hil : i < m.length := by rw [← HN.out]; exact hlt
        obtain ⟨b0, off, cap, he, hbw, k0, k1⟩ := (HS.out.later HB.out (Nat.le_refl _)).at i hil
        rw [← HN.out] at he
        simp only [Value.slice.injEq] at he
        obtain ⟨rfl, _, rfl⟩ := he
        obtain ⟨x, hx⟩ : ∃ x, x = m[i] := ⟨_, rfl⟩
        rw [← hx] at k0 k1
        have HX := hide hx
        obtain ⟨a0, a1, _, _, al⟩ := HA3.out
        have HA4 := hide (HA3.out.both (below_alloc wr (.cells #[.int .i64 x.1, .int .i64 x.2] 23)))
        have HB4 := hide (HB.out.trans ((below_alloc wr (.cells #[.int .i64 x.1, .int .i64 x.2] 23)).mono HB.out.size))
        clear hx
        by_cases h1 : x.1 ≤ a
        · by_cases h2 : b ≤ x.2
          · have HC := hide (show covB l (a, b) = true from covB_yes i (by rw [← HM.out]; exact hil) (by simp only [← HM.out]; rw [← HX.out]; exact h1) (by simp only [← HM.out]; rw [← HX.out]; exact h2))
            have HB5 := hide (HB2.out.trans (HB4.out.mono HB2.out.size))
            go_wp2_with fail
            go_ret
            exact ⟨ret_bool HC.out.symm, HB5.out⟩
          · have HF2 := hide (show ∀ (j : Nat) (hj : j < m.length), j < i + 1 → ¬ ((m[j]).1 ≤ a ∧ b ≤ (m[j]).2) from fun j hj hji hh => by
              rcases Nat.lt_or_ge j i with h9 | h9
              · exact HF.out j hj h9 hh
              · obtain rfl : j = i := by omega
                rw [← HX.out] at hh
                exact h2 hh.2)
            go_wp2_with fail
            go_roundw
            case rel => exact ⟨i + 1, by go_num, by omega, HA4, HB4, HF2⟩
            case measure => simp [intOf]; omega
        · have HF2 := hide (show ∀ (j : Nat) (hj : j < m.length), j < i + 1 → ¬ ((m[j]).1 ≤ a ∧ b ≤ (m[j]).2) from fun j hj hji hh => by
            rcases Nat.lt_or_ge j i with h9 | h9
            · exact HF.out j hj h9 hh
            · obtain rfl : j = i := by omega
              rw [← HX.out] at hh
              exact h1 hh.1)
          go_wp2_with fail
          go_roundw
          case rel => exact ⟨i + 1, by go_num, by omega, HA4, HB4, HF2⟩
          case measure => simp [intOf]; omega
      · obtain rfl : i = n := by omega
        have g1 : ¬ (i : Int) < (i : Int) := by omega
        have HC := hide (show covB l (a, b) = false from covB_else HRT.out (fun j hj => by
          have h9 := HF.out
          rw [HM.out] at h9
          have hj2 := HN.out
          rw [HM.out] at hj2
          exact h9 j hj (by rw [hj2]; exact hj)))
        have HB5 := hide (HB2.out.trans (HB.out.mono HB2.out.size))
        go_wp2_with fail
        go_ret
        exact ⟨ret_bool HC.out.symm, HB5.out⟩
  · have C1 := fun w => right_no hr w
    have HC := hide (show covB l (a, b) = true from covB_no hr)
    clear hr
    go_enter Try.func24, Try.ntmps24
    go_wp2_with fail
    refine (C1 _).mono ?_
    rintro e w1 ⟨rfl, hb⟩
    obtain ⟨_, hb1⟩ := box1 hb
    clear hb
    go_wp2_with fail
    go_ret
    exact ⟨ret_bool HC.out.symm, hb1⟩
end Spn
end Go.Proofs.Ytjlejfjkigohhaa
