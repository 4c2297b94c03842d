/- A right value's text is read as it: plain lemmas on lists of bytes. Condition: the numbers fit their kinds. -/
import Derived.Test.YtppdebhcaodcnaaDoorRj
namespace Go.Proofs.YtppdebhcaodcnaaDoor
open Go.RowKit
namespace Rd
theorem hexv_hexd (k : Nat) (h : k < 16) : Pu.hexv (Txt.hexd k) = some k := by
  have key : ∀ f : Fin 16, Pu.hexv (Txt.hexd f.val) = some f.val := by decide
  exact key ⟨k, h⟩
theorem pu_hex2 (mx acc : Nat) (c : UInt8) (r : List UInt8) (ha : acc < 72057594037927936) (hm : acc * 256 + c.toNat ≤ mx) : Pu.pu mx acc (Txt.hex2 c ++ r) = Pu.pu mx (acc * 256 + c.toNat) r := by
  have hc := c.toNat_lt
  unfold Txt.hex2
  have h1 := hexv_hexd (c.toNat / 16) (by omega)
  have h2 := hexv_hexd (c.toNat % 16) (by omega)
  show Pu.pu mx acc (Txt.hexd (c.toNat / 16) :: Txt.hexd (c.toNat % 16) :: r) = _
  rw [Pu.pu_step h1 (by omega) (by omega), Pu.pu_step h2 (by omega) (by omega)]
  congr 1
  omega
theorem rdHex_hex2 (c : UInt8) (r : List UInt8) : rdHex (Txt.hex2 c ++ r) = some c := by
  have hc := c.toNat_lt
  unfold rdHex
  rw [if_neg (by simp [Txt.hex2])]
  have ht : (Txt.hex2 c ++ r).take 2 = Txt.hex2 c ++ [] := by simp [Txt.hex2]
  rw [ht]
  have hp : puAll 255 (Txt.hex2 c ++ []) = some (some c.toNat) := by
    unfold puAll
    rw [if_neg (by simp [Txt.hex2]), pu_hex2 255 0 c [] (by omega) (by omega)]
    simp [Pu.pu]
  rw [hp]
  simp
theorem rdBytes_show (s : List UInt8) : rdBytes (s.flatMap Txt.hex2) = some s := by
  induction s with
  | nil => rfl
  | cons c s ih =>
    rw [List.flatMap_cons]
    show rdBytes (Txt.hexd (c.toNat / 16) :: Txt.hexd (c.toNat % 16) :: s.flatMap Txt.hex2) = _
    simp only [rdBytes]
    have h := rdHex_hex2 c []
    rw [List.append_nil] at h
    have h' : rdHex [Txt.hexd (c.toNat / 16), Txt.hexd (c.toNat % 16)] = some c := h
    rw [h', ih]
theorem pu_bits (n : Nat) (hn : n < 18446744073709551616) (r : List UInt8) : ∀ i, i ≤ 8 → Pu.pu 18446744073709551615 0 (((List.range i).flatMap fun j => Txt.hex2 (Txt.byteAt n j)) ++ r) = Pu.pu 18446744073709551615 (n / 2 ^ (64 - 8 * i)) r := by
  intro i
  induction i generalizing r with
  | zero => intro _; simp; rw [Nat.div_eq_of_lt hn]
  | succ i ih =>
    intro hi
    rw [List.range_succ, List.flatMap_append, List.append_assoc, ih _ (by omega)]
    simp only [List.flatMap_cons, List.flatMap_nil, List.append_nil]
    have hb : (Txt.byteAt n i).toNat = n / 2 ^ (56 - 8 * i) % 256 := by unfold Txt.byteAt; simp
    have hs : n / 2 ^ (64 - 8 * i) = n / 2 ^ (56 - 8 * i) / 256 := by
      rw [Nat.div_div_eq_div_mul, show (256 : Nat) = 2 ^ 8 from rfl, ← Nat.pow_add]
      congr 2; omega
    have hle : n / 2 ^ (56 - 8 * i) ≤ n := Nat.div_le_self _ _
    have e : n / 2 ^ (64 - 8 * i) * 256 + (Txt.byteAt n i).toNat = n / 2 ^ (56 - 8 * i) := by rw [hb, hs]; omega
    rw [pu_hex2 _ _ _ _ (by omega) (by omega), e]
    congr 2; congr 1; omega
theorem rdBits (n : Nat) (hn : n < 18446744073709551616) : puAll 18446744073709551615 ((List.range 8).flatMap fun j => Txt.hex2 (Txt.byteAt n j)) = some (some n) := by
  unfold puAll
  rw [if_neg (by simp [List.range, List.range.loop, Txt.hex2])]
  have h := pu_bits n hn [] 8 (Nat.le_refl _)
  rw [List.append_nil] at h
  rw [h]
  simp [Pu.pu]
theorem rdLet_letter (c : UInt8) (r : List UInt8) : rdLet (Txt.letter c ++ r) = some (c, (Txt.letter c).length) := by
  unfold Txt.letter
  split
  · rename_i h
    have h2 : c ≠ 120 := by rintro rfl; rcases h with h | h <;> exact absurd h (by decide)
    simp [rdLet, h2]
  · rename_i h
    split
    · simp only [List.cons_append, List.nil_append, rdLet]
      rw [if_neg (by simp), if_pos trivial, rdHex_hex2]
      simp [Txt.hex2]
    · have h2 : c ≠ 92 := fun e => h (Or.inr e)
      simp [rdLet, h2]
theorem rdText_show (s : List UInt8) : ∀ f, (s.flatMap Txt.letter).length ≤ f → rdText f (s.flatMap Txt.letter) = some s := by
  induction s with
  | nil => intro f _; cases f <;> rfl
  | cons c s ih =>
    intro f hf
    have hl := rdLet_letter c (s.flatMap Txt.letter)
    rw [List.flatMap_cons] at hf ⊢
    have hs := rdLet_step hl
    rcases hq : Txt.letter c ++ s.flatMap Txt.letter with _ | ⟨a, q⟩
    · have := hs.2.2; rw [hq] at this; simp only [List.length_nil] at this; omega
    · rcases f with _ | f
      · rw [hq] at hf; simp at hf
      · rw [hq] at hl
        simp only [rdText, hl]
        rw [← hq, List.drop_left, ih f (by rw [List.length_append] at hf; omega)]
theorem dec_parse (u : Nat) : ∀ r : List UInt8, u < 18446744073709551616 → Lib.parseUint10 0 (Lib.decDigits u ++ r) = Lib.parseUint10 u r := by
  induction u using Nat.strongRecOn with
  | _ u ih =>
    intro r hu
    rw [Lib.decDigits]
    by_cases h : u < 10
    · rw [dif_pos h]
      have e : (UInt8.ofNat (48 + u)).toNat = 48 + u := by simp; omega
      simp only [List.cons_append, List.nil_append, Lib.parseUint10, e]
      rw [if_pos (by omega), if_neg (by omega), if_neg (by omega)]
      congr 1; omega
    · rw [dif_neg h, List.append_assoc, ih (u / 10) (by omega) _ (by omega)]
      have e : (UInt8.ofNat (48 + u % 10)).toNat = 48 + u % 10 := by simp; omega
      simp only [List.cons_append, List.nil_append, Lib.parseUint10, e]
      rw [if_pos (by omega), if_neg (by omega), if_neg (by omega)]
      congr 1; omega
theorem dec_head (u : Nat) : ∃ c r, Lib.decDigits u = c :: r ∧ 48 ≤ c.toNat ∧ c.toNat ≤ 57 := by
  induction u using Nat.strongRecOn with
  | _ u ih =>
    rw [Lib.decDigits]
    by_cases h : u < 10
    · rw [dif_pos h]
      exact ⟨_, _, rfl, by simp; omega, by simp; omega⟩
    · rw [dif_neg h]
      obtain ⟨c, r, e, h1, h2⟩ := ih (u / 10) (by omega)
      exact ⟨c, _, by rw [e]; rfl, h1, h2⟩
theorem mag_dec (u : Nat) (hu : u < 18446744073709551616) : Lib.parseMag (Lib.decDigits u) = .ok u := by
  obtain ⟨c, r, e, _⟩ := dec_head u
  unfold Lib.parseMag
  rw [if_neg (by rw [e]; simp)]
  have h := dec_parse u [] hu
  rw [List.append_nil] at h
  rw [h]; rfl
theorem atoi_itoa (n : Int) (h0 : -9223372036854775808 ≤ n) (h1 : n ≤ 9223372036854775807) : Lib.atoiAll (Lib.itoa n) = .ok n := by
  unfold Lib.itoa
  by_cases h : n < 0
  · rw [if_pos h]
    simp only [Lib.atoiAll]
    have e : (45 : UInt8).toNat = 45 := rfl
    rw [if_pos (Or.inr e), mag_dec _ (by omega)]
    simp only [e]
    rw [if_neg (by simp), if_neg (by simp; omega)]
    simp
    omega
  · rw [if_neg h]
    obtain ⟨c, r, e, hc0, hc1⟩ := dec_head n.toNat
    have hm := mag_dec n.toNat (by omega)
    rw [e] at hm ⊢
    simp only [Lib.atoiAll]
    rw [if_neg (by omega), hm]
    have hne : ¬ c.toNat = 45 := by omega
    simp only [hne]
    rw [if_neg (by simp; omega), if_neg (by simp)]
    simp
    omega
theorem itoa_head (n : Int) : ∃ c r, Lib.itoa n = c :: r ∧ 45 ≤ c.toNat ∧ c.toNat ≤ 57 := by
  unfold Lib.itoa
  by_cases h : n < 0
  · rw [if_pos h]; exact ⟨45, _, rfl, by decide, by decide⟩
  · rw [if_neg h]
    obtain ⟨c, r, e, h1, h2⟩ := dec_head n.toNat
    exact ⟨c, r, e, by omega, h2⟩
end Rd
end Go.Proofs.YtppdebhcaodcnaaDoor
