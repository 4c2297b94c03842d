/- The contracts of the document's own less, Compare (layer 1). Conditions: words below 2^64, texts at most 2^45. -/
import Derived.Test.YtppdebhcaodcnaaDoorTa
namespace Go.Proofs.YtppdebhcaodcnaaDoor
open Go.RowKit
namespace Ref
theorem bits_high (b : Nat) (h : b < 18446744073709551616) : bits .and .u64 (b : Int) 9223372036854775808 = ((if 9223372036854775808 ≤ b then 9223372036854775808 else 0 : Nat) : Int) := by
  have g := bits_and_u64_nat b 9223372036854775808 h (by decide)
  have e : b &&& 9223372036854775808 = if 9223372036854775808 ≤ b then 9223372036854775808 else 0 := by
    have e2 : (9223372036854775808 : Nat) = 2 ^ 63 := by decide
    rw [e2]
    apply Nat.eq_of_testBit_eq
    intro i
    rw [Nat.testBit_and, Nat.testBit_two_pow]
    by_cases hi : 63 = i
    · subst hi
      rw [Nat.testBit_eq_decide_div_mod_eq]
      split
      · rw [show b / 2 ^ 63 = 1 by omega]; decide
      · rw [show b / 2 ^ 63 = 0 by omega]; simp
    · split
      · rw [Nat.testBit_two_pow]; simp [hi]
      · simp [hi]
  rw [e] at g
  exact g
/-- Is a float below another one, by canonical words? -/
def lessB (a b : Nat) : Bool :=
  if a = 9221120237041090560 ∨ b = 9221120237041090560 then (!decide (a = 9221120237041090560) && decide (b = 9221120237041090560))
  else if (9223372036854775808 ≤ a) ∧ ¬ (9223372036854775808 ≤ b) then true
  else if ¬ (9223372036854775808 ≤ a) ∧ (9223372036854775808 ≤ b) then false
  else if 9223372036854775808 ≤ a then decide (b < a) else decide (a < b)
set_option maxHeartbeats 2000000 in
set_option maxRecDepth 100000 in
theorem less_any (a b : Nat) (ha : a < 18446744073709551616) (hb : b < 18446744073709551616) (w : World) :
    Calls Tryd.prog 75 #[.int .u64 a, .int .u64 b] w fun e w' => e = .returned (.bool (lessB a b)) ∧ w = w' := by
  have ba := bits_high a ha
  have bb := bits_high b hb
  obtain ⟨F, hF⟩ : ∃ F, F = lessB a b := ⟨_, rfl⟩
  rw [← hF]
  unfold lessB at hF
  by_cases h1 : a = 9221120237041090560
  · have g1 : ((a : Int) == 9221120237041090560) = true := by simp; omega
    have g1' : ((a : Int) != 9221120237041090560) = false := by simp; omega
    rw [if_pos (Or.inl h1)] at hF
    have e : F = false := by rw [hF]; simp [h1]
    subst e
    clear h1 ba bb hF ha hb
    go_enter Tryd.func75, Tryd.ntmps75
    go_wp2_with fail
    go_ret
    exact ⟨rfl, rfl⟩
  · have g1 : ((a : Int) == 9221120237041090560) = false := by simp; omega
    have g1' : ((a : Int) != 9221120237041090560) = true := by simp; omega
    by_cases h2 : b = 9221120237041090560
    · have g2 : ((b : Int) == 9221120237041090560) = true := by simp; omega
      rw [if_pos (Or.inr h2)] at hF
      have e : F = true := by rw [hF]; simp [h1, h2]
      subst e
      clear h1 h2 ba bb hF ha hb
      go_enter Tryd.func75, Tryd.ntmps75
      go_wp2_with fail
      go_ret
      exact ⟨rfl, rfl⟩
    · have g2 : ((b : Int) == 9221120237041090560) = false := by simp; omega
      rw [if_neg (by omega)] at hF
      by_cases h3 : 9223372036854775808 ≤ a
      · rw [if_pos h3] at ba
        have ba' : bits .and .u64 (a : Int) 9223372036854775808 = 9223372036854775808 := ba
        by_cases h4 : 9223372036854775808 ≤ b
        · rw [if_pos h4] at bb
          have bb' : bits .and .u64 (b : Int) 9223372036854775808 = 9223372036854775808 := bb
          rw [if_neg (by omega), if_neg (by omega), if_pos h3] at hF
          by_cases h5 : b < a
          · have e : F = true := by rw [hF]; exact decide_eq_true h5
            have g5 : (b : Int) < (a : Int) := by omega
            subst e
            clear h1 h2 h3 h4 h5 ba bb hF ha hb
            go_enter Tryd.func75, Tryd.ntmps75
            go_wp2_with fail
            go_ret
            exact ⟨rfl, rfl⟩
          · have e : F = false := by rw [hF]; exact decide_eq_false h5
            have g5 : ¬ (b : Int) < (a : Int) := by omega
            subst e
            clear h1 h2 h3 h4 h5 ba bb hF ha hb
            go_enter Tryd.func75, Tryd.ntmps75
            go_wp2_with fail
            go_ret
            exact ⟨rfl, rfl⟩
        · rw [if_neg h4] at bb
          have bb' : bits .and .u64 (b : Int) 9223372036854775808 = 0 := bb
          rw [if_pos (by omega)] at hF
          subst hF
          clear h1 h2 h3 h4 ba bb ha hb
          go_enter Tryd.func75, Tryd.ntmps75
          go_wp2_with fail
          go_ret
          exact ⟨rfl, rfl⟩
      · rw [if_neg h3] at ba
        have ba' : bits .and .u64 (a : Int) 9223372036854775808 = 0 := ba
        by_cases h4 : 9223372036854775808 ≤ b
        · rw [if_pos h4] at bb
          have bb' : bits .and .u64 (b : Int) 9223372036854775808 = 9223372036854775808 := bb
          rw [if_neg (by omega), if_pos (by omega)] at hF
          subst hF
          clear h1 h2 h3 h4 ba bb ha hb
          go_enter Tryd.func75, Tryd.ntmps75
          go_wp2_with fail
          go_ret
          exact ⟨rfl, rfl⟩
        · rw [if_neg h4] at bb
          have bb' : bits .and .u64 (b : Int) 9223372036854775808 = 0 := bb
          rw [if_neg (by omega), if_neg (by omega), if_neg h3] at hF
          by_cases h5 : a < b
          · have e : F = true := by rw [hF]; exact decide_eq_true h5
            have g5 : (a : Int) < (b : Int) := by omega
            subst e
            clear h1 h2 h3 h4 h5 ba bb hF ha hb
            go_enter Tryd.func75, Tryd.ntmps75
            go_wp2_with fail
            go_ret
            exact ⟨rfl, rfl⟩
          · have e : F = false := by rw [hF]; exact decide_eq_false h5
            have g5 : ¬ (a : Int) < (b : Int) := by omega
            subst e
            clear h1 h2 h3 h4 h5 ba bb hF ha hb
            go_enter Tryd.func75, Tryd.ntmps75
            go_wp2_with fail
            go_ret
            exact ⟨rfl, rfl⟩
theorem canon_form {a : Nat} (h : Flo.canon a = a) : (a = 9221120237041090560 ∧ Flo.nanB a = true) ∨ (a ≠ 9221120237041090560 ∧ Flo.nanB a = false ∧ a ≠ 9223372036854775808) := by
  cases hn : Flo.nanB a
  · right
    refine ⟨?_, rfl, ?_⟩
    · intro e; subst e; revert hn; decide
    · intro e
      subst e
      have : Flo.canon 9223372036854775808 = 0 := by decide
      omega
  · left
    rw [Flo.canon_nan hn] at h
    exact ⟨h.symm, rfl⟩
/-- The order of floats, by the document's less. -/
theorem cmpF_less {a b : Nat} (ha : a < 18446744073709551616) (hb : b < 18446744073709551616) (ca : Flo.canon a = a) (cb : Flo.canon b = b) :
    Val.cmpF a b = if lessB a b = true then -1 else if lessB b a = true then 1 else 0 := by
  unfold Val.cmpF
  rcases canon_form ca with ⟨rfl, na⟩ | ⟨ea, na, za⟩
  · rw [if_pos na]
    rcases canon_form cb with ⟨rfl, nb⟩ | ⟨eb, nb, zb⟩
    · rw [if_pos nb]; decide
    · rw [if_neg (by rw [nb]; simp), if_neg (by unfold lessB; simp), if_pos (by unfold lessB; simp [eb])]
  · rw [if_neg (by rw [na]; simp)]
    rcases canon_form cb with ⟨rfl, nb⟩ | ⟨eb, nb, zb⟩
    · rw [if_pos nb, if_pos (by unfold lessB; simp [ea])]
    · rw [if_neg (by rw [nb]; simp)]
      unfold Val.cmpI Flo.key Flo.isNeg Flo.rung lessB
      simp only [show Flo.sgn = 9223372036854775808 from rfl]
      by_cases h3 : 9223372036854775808 ≤ a <;> by_cases h4 : 9223372036854775808 ≤ b
      · rw [show a / 9223372036854775808 = 1 by omega, show b / 9223372036854775808 = 1 by omega]
        simp only [ea, eb, h3, h4, or_self, if_false, not_true_eq_false, and_false, false_and, if_true, decide_eq_true_eq]
        simp
        split <;> split <;> (try split) <;> (try split) <;> omega
      · rw [show a / 9223372036854775808 = 1 by omega, show b / 9223372036854775808 = 0 by omega]
        simp only [ea, eb, h3, h4, or_self, if_false, not_false_eq_true, and_self, if_true]
        simp
        omega
      · rw [show a / 9223372036854775808 = 0 by omega, show b / 9223372036854775808 = 1 by omega]
        simp only [ea, eb, h3, h4, or_self, if_false, not_false_eq_true, and_self, if_true, not_true_eq_false]
        simp
        split <;> (try split) <;> omega
      · rw [show a / 9223372036854775808 = 0 by omega, show b / 9223372036854775808 = 0 by omega]
        simp only [ea, eb, h3, h4, or_self, if_false, not_false_eq_true, and_false, false_and, decide_eq_true_eq]
        simp
        split <;> split <;> (try split) <;> (try split) <;> omega
theorem right_float {n : Int} {b : Nat} {s : ByteArray} (h : Val.rightB 3 n b s = true) : Flo.canon b = b := by
  unfold Val.rightB Val.eqV at h
  simp at h
  omega
theorem bcellT {W w1 : World} (hb : Below W.heap.size W w1) : (∀ b o, b < W.heap.size → w1.cell? ⟨b, o, none⟩ = W.cell? ⟨b, o, none⟩) ∧ (∀ b o, b < W.heap.size → w1.frozen? ⟨b, o, none⟩ = W.frozen? ⟨b, o, none⟩) :=
  ⟨fun b o h => hb.cell (p := ⟨b, o, none⟩) h, fun b o h => hb.frozen (p := ⟨b, o, none⟩) h⟩
end Ref
end Go.Proofs.YtppdebhcaodcnaaDoor
