/- The bytes of numbers, texts, values and rows, written and read: plain functions and lemmas, of no program. -/
import Derived.Lib.UnsafeStr
namespace Go.Proofs.YtmccnlffikegfaaGreatDoor
namespace Cod
/-- A number's bytes. -/
def uB (n : Nat) : List UInt8 := if n < 128 then [n.toUInt8] else (128 + n % 128).toUInt8 :: uB (n / 128)
termination_by n
decreasing_by omega
theorem uB_lt {n : Nat} (h : n < 128) : uB n = [n.toUInt8] := by rw [uB, if_pos h]
theorem uB_ge {n : Nat} (h : 128 ≤ n) : uB n = (128 + n % 128).toUInt8 :: uB (n / 128) := by rw [uB, if_neg (by omega)]
theorem toNat_lt {n : Nat} (h : n < 256) : n.toUInt8.toNat = n := by
  show n % 256 = n
  omega
/-- The number that the bytes from the k-th one on read as. -/
def num : Nat → Nat → List UInt8 → Except Nat (Nat × List UInt8)
  | _, _, [] => .error 8
  | k, n, c :: l =>
    if (k = 9 ∧ 1 < c.toNat) ∨ (0 < k ∧ c.toNat = 0) then .error 7
    else if c.toNat < 128 then .ok (n + c.toNat % 128 * 128 ^ k, l)
    else num (k + 1) (n + c.toNat % 128 * 128 ^ k) l
theorem num_cons (k n : Nat) (c : UInt8) (l : List UInt8) : num k n (c :: l) = if (k = 9 ∧ 1 < c.toNat) ∨ (0 < k ∧ c.toNat = 0) then .error 7 else if c.toNat < 128 then .ok (n + c.toNat % 128 * 128 ^ k, l) else num (k + 1) (n + c.toNat % 128 * 128 ^ k) l := rfl
theorem nine : (128 : Nat) ^ 9 = 9223372036854775808 := by decide
/-- The bounds of one step. -/
theorem step_le {k m : Nat} (hk : k ≤ 9) (hm : m * 128 ^ k < 18446744073709551616) (h : 128 ≤ m) : k ≤ 8 ∧ m / 128 * 128 ^ (k + 1) < 18446744073709551616 := by
  constructor
  · rcases Nat.lt_or_ge k 9 with h9 | h9
    · omega
    · have : k = 9 := by omega
      subst this
      rw [nine] at hm; omega
  · have : m / 128 * 128 ^ (k + 1) = (m / 128 * 128) * 128 ^ k := by rw [Nat.pow_succ, Nat.mul_comm (128 ^ k) 128, ← Nat.mul_assoc]
    rw [this]
    exact Nat.lt_of_le_of_lt (Nat.mul_le_mul_right _ (by omega)) hm
theorem step_sum (n m k : Nat) : n + m % 128 * 128 ^ k + m / 128 * 128 ^ (k + 1) = n + m * 128 ^ k := by
  have : m / 128 * 128 ^ (k + 1) = (m / 128 * 128) * 128 ^ k := by rw [Nat.pow_succ, Nat.mul_comm (128 ^ k) 128, ← Nat.mul_assoc]
  rw [this, Nat.add_assoc, ← Nat.add_mul]
  congr 2
  omega
theorem one_at_nine {k m : Nat} (hm : m * 128 ^ k < 18446744073709551616) (h : k = 9) : m ≤ 1 := by
  subst h; rw [nine] at hm; omega
/-- What is written is read. -/
theorem num_uB (m : Nat) : ∀ (k n : Nat) (t : List UInt8), k ≤ 9 → m * 128 ^ k < 18446744073709551616 → (0 < k → 0 < m) → num k n (uB m ++ t) = .ok (n + m * 128 ^ k, t) := by
  induction m using Nat.strongRecOn with
  | _ m ih =>
    intro k n t hk hm hp
    rcases Nat.lt_or_ge m 128 with h | h
    · rw [uB_lt h, List.singleton_append, num_cons, toNat_lt (by omega), if_neg, if_pos h, Nat.mod_eq_of_lt h]
      intro hc
      rcases hc with ⟨h9, h1⟩ | ⟨h0, h1⟩
      · have := one_at_nine hm h9; omega
      · have := hp h0; omega
    · obtain ⟨h8, hm2⟩ := step_le hk hm h
      rw [uB_ge h, List.cons_append, num_cons, toNat_lt (by omega), if_neg (by omega), if_neg (by omega), ih (m / 128) (by omega) _ _ _ (by omega) hm2 (by omega)]
      have : (128 + m % 128) % 128 = m % 128 := by omega
      rw [this, step_sum]
theorem read_uB (m : Nat) (t : List UInt8) (hm : m < 18446744073709551616) : num 0 0 (uB m ++ t) = .ok (m, t) := by
  rw [num_uB m 0 0 t (by omega) (by simpa using hm) (by omega)]; simp
/-- What is cut off is short. -/
theorem num_cut (m : Nat) : ∀ (k n j : Nat), k ≤ 9 → m * 128 ^ k < 18446744073709551616 → (0 < k → 0 < m) → j < (uB m).length → num k n ((uB m).take j) = .error 8 := by
  induction m using Nat.strongRecOn with
  | _ m ih =>
    intro k n j hk hm hp hj
    cases j with
    | zero => rw [List.take_zero]; rfl
    | succ j =>
      rcases Nat.lt_or_ge m 128 with h | h
      · rw [uB_lt h] at hj; simp at hj
      · obtain ⟨h8, hm2⟩ := step_le hk hm h
        rw [uB_ge h] at hj ⊢
        rw [List.take_succ_cons, num_cons, toNat_lt (by omega), if_neg (by omega), if_neg (by omega), ih (m / 128) (by omega) _ _ _ (by omega) hm2 (by omega) (by simpa using hj)]
/-- What is read is written so. -/
theorem num_ok (l : List UInt8) : ∀ (k n v : Nat) (t : List UInt8), k ≤ 9 → num k n l = .ok (v, t) → ∃ m, l = uB m ++ t ∧ v = n + m * 128 ^ k ∧ m * 128 ^ k < 18446744073709551616 ∧ (0 < k → 0 < m) := by
  induction l with
  | nil => intro k n v t _ h; cases h
  | cons c l ih =>
    intro k n v t hk h
    rw [num_cons] at h
    have hc := c.toNat_lt
    split at h
    · cases h
    · rename_i h1
      split at h
      · rename_i h2
        simp only [Except.ok.injEq, Prod.mk.injEq] at h
        obtain ⟨rfl, rfl⟩ := h
        refine ⟨c.toNat, ?_, by rw [Nat.mod_eq_of_lt h2], ?_, by omega⟩
        · rw [uB_lt h2]; simp
        · rcases Nat.lt_or_ge k 9 with h9 | h9
          · have : 128 ^ k ≤ 128 ^ 8 := Nat.pow_le_pow_right (by omega) (by omega)
            have h3 : c.toNat * 128 ^ k ≤ 127 * 128 ^ 8 := Nat.mul_le_mul (by omega) this
            have : (127 : Nat) * 128 ^ 8 < 18446744073709551616 := by decide
            omega
          · have : k = 9 := by omega
            subst this
            rw [nine]; omega
      · rename_i h2
        have hk8 : k ≤ 8 := by omega
        obtain ⟨m, hl, hv, hm, hp⟩ := ih (k + 1) _ _ _ (by omega) h
        have hm0 := hp (by omega)
        have e1 : (128 * m + c.toNat % 128) / 128 = m := by omega
        have e2 : (128 * m + c.toNat % 128) % 128 = c.toNat % 128 := by omega
        refine ⟨128 * m + c.toNat % 128, ?_, ?_, ?_, by omega⟩
        · rw [uB_ge (by omega), e1, e2, hl, List.cons_append]
          congr 1
          have : 128 + c.toNat % 128 = c.toNat := by omega
          rw [this]; simp
        · rw [hv, ← step_sum n (128 * m + c.toNat % 128), e1, e2]
        · have h5 : (128 * m + c.toNat % 128) * 128 ^ k = m * 128 ^ (k + 1) + c.toNat % 128 * 128 ^ k := by
            rw [Nat.add_mul, Nat.pow_succ]; congr 1; rw [Nat.mul_comm 128 m, Nat.mul_assoc, Nat.mul_comm 128]
          rw [h5]
          have h6 : m * 128 ^ (k + 1) + 128 ^ (k + 1) ≤ 18446744073709551616 := by
            have h7 : m * 128 ^ (k + 1) + 128 ^ (k + 1) = (m + 1) * 128 ^ (k + 1) := by rw [Nat.add_mul, Nat.one_mul]
            rw [h7]
            have hd : 128 ^ (k + 1) * 2 ^ (64 - 7 * (k + 1)) = 18446744073709551616 := by
              have e3 : (128 : Nat) = 2 ^ 7 := by decide
              rw [e3, ← Nat.pow_mul, ← Nat.pow_add]
              have : 7 * (k + 1) + (64 - 7 * (k + 1)) = 64 := by omega
              rw [this]
            have hlt : m < 2 ^ (64 - 7 * (k + 1)) := by
              rcases Nat.lt_or_ge m (2 ^ (64 - 7 * (k + 1))) with h8 | h8
              · exact h8
              · have := Nat.mul_le_mul_right (128 ^ (k + 1)) h8
                rw [Nat.mul_comm (2 ^ _)] at this
                omega
            rw [← hd, Nat.mul_comm (128 ^ (k + 1))]
            exact Nat.mul_le_mul_right _ hlt
          have h7 : c.toNat % 128 * 128 ^ k < 128 ^ (k + 1) := by
            rw [Nat.pow_succ, Nat.mul_comm]
            exact (Nat.mul_lt_mul_left (Nat.pow_pos (by omega))).mpr (by omega)
          omega
theorem read_ok {l t : List UInt8} {v : Nat} (h : num 0 0 l = .ok (v, t)) : l = uB v ++ t ∧ v < 18446744073709551616 := by
  obtain ⟨m, hl, hv, hm, _⟩ := num_ok l 0 0 v t (by omega) h
  simp at hv hm
  subst hv
  exact ⟨hl, hm⟩
/-- The errors that a number can come to. -/
theorem num_err (l : List UInt8) : ∀ (k n e : Nat), num k n l = .error e → e = 7 ∨ e = 8 := by
  induction l with
  | nil => intro k n e h; cases h; exact Or.inr rfl
  | cons c l ih =>
    intro k n e h
    rw [num_cons] at h
    split at h
    · cases h; exact Or.inl rfl
    · split at h
      · cases h
      · exact ih _ _ _ h
theorem uB_pos (n : Nat) : 0 < (uB n).length := by
  rcases Nat.lt_or_ge n 128 with h | h
  · rw [uB_lt h]; simp
  · rw [uB_ge h]; simp
theorem uB_mono (m : Nat) : ∀ n, m ≤ n → (uB m).length ≤ (uB n).length := by
  induction m using Nat.strongRecOn with
  | _ m ih =>
    intro n h
    rcases Nat.lt_or_ge m 128 with h1 | h1
    · rw [uB_lt h1]; exact uB_pos n
    · rw [uB_ge h1, uB_ge (show 128 ≤ n by omega)]
      simpa using ih (m / 128) (by omega) (n / 128) (by omega)
theorem uB_len (m : Nat) : ∀ k, 0 < k → m < 128 ^ k → (uB m).length ≤ k := by
  induction m using Nat.strongRecOn with
  | _ m ih =>
    intro k hk h
    rcases Nat.lt_or_ge m 128 with h1 | h1
    · rw [uB_lt h1]; exact hk
    · rw [uB_ge h1]
      cases k with
      | zero => omega
      | succ k =>
        have hk0 : 0 < k := by
          rcases Nat.eq_zero_or_pos k with h0 | h0
          · subst h0; simp at h; omega
          · exact h0
        have := ih (m / 128) (by omega) k hk0 (by rw [Nat.pow_succ] at h; exact Nat.div_lt_of_lt_mul (by rw [Nat.mul_comm]; exact h))
        simpa using this
theorem uB_ten (n : Nat) (h : n < 18446744073709551616) : (uB n).length ≤ 10 := uB_len n 10 (by omega) (Nat.lt_trans h (by decide))
theorem uB_inj {a b : Nat} (ha : a < 18446744073709551616) (hb : b < 18446744073709551616) (h : uB a = uB b) : a = b := by
  have h1 := read_uB a [] ha
  rw [h, read_uB b [] hb] at h1
  simpa using h1.symm
/-- A number as one that is not below 0, and back. -/
def zig (n : Int) : Nat := if 0 ≤ n then (2 * n).toNat else (-2 * n - 1).toNat
def zag (n : Nat) : Int := if n % 2 = 1 then -(n / 2 : Nat) - 1 else (n / 2 : Nat)
theorem zag_zig (n : Int) : zag (zig n) = n := by
  unfold zag zig; split <;> split <;> omega
theorem zig_zag (n : Nat) : zig (zag n) = n := by
  unfold zag zig; split <;> split <;> omega
theorem zig_lt {n : Int} (h : -9223372036854775808 ≤ n) (h2 : n ≤ 9223372036854775807) : zig n < 18446744073709551616 := by
  unfold zig; split <;> omega
theorem zag_in {n : Nat} (h : n < 18446744073709551616) : -9223372036854775808 ≤ zag n ∧ zag n ≤ 9223372036854775807 := by
  unfold zag; split <;> omega
def iB (n : Int) : List UInt8 := uB (zig n)
def tB (s : List UInt8) : List UInt8 := uB s.length ++ s
end Cod
end Go.Proofs.YtmccnlffikegfaaGreatDoor
