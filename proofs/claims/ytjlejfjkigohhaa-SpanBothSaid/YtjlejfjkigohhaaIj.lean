/- The document's Same of two rows of intervals: are they the same? Condition: no more than 1000 of them. -/
import Derived.Test.YtjlejfjkigohhaaIi
namespace Go.Proofs.Ytjlejfjkigohhaa
open Go.RowKit
namespace Spn
/-- '!=' between two intervals. -/
def neS (a b c d : Int) : Bool := !(a == c && b == d)
theorem neS_no (x : Sp) : neS x.1 x.2 x.1 x.2 = false := by simp [neS]
theorem neS_yes {x y : Sp} (h : x ≠ y) : neS x.1 x.2 y.1 y.2 = true := by
  unfold neS
  rw [Bool.not_eq_true', Bool.and_eq_false_iff]
  by_cases h1 : x.1 = y.1
  · by_cases h2 : x.2 = y.2
    · exact absurd (Prod.ext h1 h2) h
    · exact .inr (by simp [h2])
  · exact .inl (by simp [h1])
set_option maxHeartbeats 1000000 in
theorem run_neS (a b c d : Int) (w : World) :
    (binOp .neq 23 (.agg #[.int .i64 a, .int .i64 b]) (.agg #[.int .i64 c, .int .i64 d])).run Try.prog w = .ok (.bool (neS a b c d)) w := by
  unfold neS
  by_cases h1 : a = c <;> by_cases h2 : b = d <;> go_simp
set_option maxHeartbeats 1000000 in
theorem run_eqS (a b c d : Int) (w : World) :
    (binOp .eql 23 (.agg #[.int .i64 a, .int .i64 b]) (.agg #[.int .i64 c, .int .i64 d])).run Try.prog w = .ok (.bool (!neS a b c d)) w := by
  unfold neS
  by_cases h1 : a = c <;> by_cases h2 : b = d <;> go_simp
attribute [go_sem ↓] run_neS run_eqS
set_option maxHeartbeats 4000000 in
set_option maxRecDepth 100000 in
theorem same_any {l m : List Sp} {sl sm : Value} {w : World} (h : SpansAt l sl w) (h' : SpansAt m sm w) (hl : l.length ≤ 1000) :
    Calls Try.prog 18 #[sl, sm] w fun e w' => e = .returned (.bool (decide (l = m))) ∧ Below w.heap.size w w' := by
  obtain ⟨so, sc, rfl, _, _⟩ := h.form
  obtain ⟨mo, mc, rfl, _, _⟩ := h'.form
  have HA := hide h
  have HA' := hide h'
  obtain ⟨n, hn⟩ : ∃ n, n = l.length := ⟨_, rfl⟩
  obtain ⟨k, hk⟩ : ∃ k, k = m.length := ⟨_, rfl⟩
  rw [← hn] at hl ⊢
  rw [← hk]
  have HN := hide hn
  have HK := hide hk
  clear h h' hn hk
  by_cases hnk : n = k
  · subst hnk
    have HNM := hide (show l.length = m.length from HN.out.symm.trans HK.out)
    have g0 : ((n : Int) != (n : Int)) = false := by simp
    go_enter Try.func18, Try.ntmps18
    go_wp2_with fail
    go_loopw [5] (fun ii wr => ∃ i : Nat, ii = .int .i64 i ∧ i ≤ n ∧ Hid (Below w.heap.size w wr) ∧ Hid (∀ (j : Nat) (hj : j < l.length), j < i → l[j] = m[j]'(by rw [← HNM.out]; exact hj))) (fun ii _ => (n - (intOf ii).toNat))
    case atStart => exact ⟨0, rfl, by omega, hide (Below.refl _ _), hide (fun j hj h0 => by omega)⟩
    case round =>
      rename World => wr
      obtain ⟨i, rfl, hi, HB, HF⟩ := hrel
      rcases Nat.lt_or_ge i n with hlt | hge
      · have g1 : (i : Int) < (n : Int) := by omega
        have hil : i < l.length := by rw [← HN.out]; exact hlt
        have him : i < m.length := by rw [← HK.out]; exact hlt
        obtain ⟨b0, off, cap, he, hbw, k0, k1⟩ := (HA.out.later HB.out (Nat.le_refl _)).at i hil
        rw [← HN.out] at he
        simp only [Value.slice.injEq] at he
        obtain ⟨rfl, _, rfl⟩ := he
        obtain ⟨b1, off1, cap1, he1, hbw1, j0, j1⟩ := (HA'.out.later HB.out (Nat.le_refl _)).at i him
        rw [← HK.out] at he1
        simp only [Value.slice.injEq] at he1
        obtain ⟨rfl, _, rfl⟩ := he1
        obtain ⟨x, hx⟩ : ∃ x, x = l[i] := ⟨_, rfl⟩
        obtain ⟨y, hy⟩ : ∃ y, y = m[i] := ⟨_, rfl⟩
        rw [← hx] at k0 k1
        rw [← hy] at j0 j1
        have HX := hide hx
        have HY := hide hy
        have HB2 := hide HB.out.drew
        clear hx hy
        by_cases hxy : x = y
        · have g2 : neS x.1 x.2 y.1 y.2 = false := by rw [hxy]; exact neS_no y
          have HF2 := hide (show ∀ (j : Nat) (hj : j < l.length), j < i + 1 → l[j] = m[j]'(by rw [← HNM.out]; exact hj) from fun j hj hji => by
            rcases Nat.lt_or_ge j i with h9 | h9
            · exact HF.out j hj h9
            · obtain rfl : j = i := by omega
              rw [← HX.out, ← HY.out]; exact hxy)
          clear hxy
          go_wp2_with fail
          go_region
          go_wp2_with fail
          go_roundw
          case rel => exact ⟨i + 1, by go_num, by omega, HB2, HF2⟩
          case measure => simp [intOf]; omega
        · have g2 : neS x.1 x.2 y.1 y.2 = true := neS_yes hxy
          have HC := hide (show decide (l = m) = false from decide_eq_false (fun e => hxy (by rw [HX.out, HY.out]; simp only [e])))
          clear hxy
          go_wp2_with fail
          go_region
          go_wp2_with fail
          go_ret
          exact ⟨ret_bool HC.out.symm, HB2.out⟩
      · obtain rfl : i = n := by omega
        have g1 : ¬ (i : Int) < (i : Int) := by omega
        have HC := hide (show decide (l = m) = true from decide_eq_true (List.ext_getElem HNM.out (fun j h1 h2 => HF.out j h1 (by rw [HN.out]; exact h1))))
        go_wp2_with fail
        go_ret
        exact ⟨ret_bool HC.out.symm, HB.out⟩
  · have HC := hide (show decide (l = m) = false from decide_eq_false (fun e => hnk (by rw [HN.out, HK.out, e])))
    have g0 : ((n : Int) != (k : Int)) = true := by simp; omega
    clear hnk
    go_enter Try.func18, Try.ntmps18
    go_wp2_with fail
    go_ret
    exact ⟨ret_bool HC.out.symm, Below.refl _ _⟩
end Spn
end Go.Proofs.Ytjlejfjkigohhaa
