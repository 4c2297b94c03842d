/- Keys as bytes: the order of bytes, eight bytes of a number, a text's bytes with its end; plain lemmas, of no program. -/
import Derived.Lib.ReplaceLaws
namespace Go.Proofs.YtppdebhcaodcnaaDoor
open Go
namespace Ky
/-- Which of two rows of bytes is ahead. -/
def lx : List UInt8 → List UInt8 → Int
  | [], [] => 0
  | [], _ :: _ => -1
  | _ :: _, [] => 1
  | a :: l, b :: m => if a.toNat < b.toNat then -1 else if b.toNat < a.toNat then 1 else lx l m
theorem lx_self : ∀ l : List UInt8, lx l l = 0
  | [] => rfl
  | a :: l => by simp only [lx, Nat.lt_irrefl, if_false]; exact lx_self l
theorem lx_app : ∀ p l m : List UInt8, lx (p ++ l) (p ++ m) = lx l m
  | [], _, _ => rfl
  | a :: p, l, m => by simp only [List.cons_append, lx, Nat.lt_irrefl, if_false]; exact lx_app p l m
theorem lx_zero : ∀ l m : List UInt8, lx l m = 0 → l = m
  | [], [], _ => rfl
  | [], _ :: _, h => by simp [lx] at h
  | _ :: _, [], h => by simp [lx] at h
  | a :: l, b :: m, h => by
    simp only [lx] at h
    split at h
    · omega
    · split at h
      · omega
      · have e : a = b := UInt8.toNat_inj.1 (by omega)
        rw [e, lx_zero l m h]
theorem lx_swap : ∀ l m : List UInt8, lx l m = -lx m l
  | [], [] => rfl
  | [], _ :: _ => rfl
  | _ :: _, [] => rfl
  | a :: l, b :: m => by
    simp only [lx]
    by_cases h1 : a.toNat < b.toNat
    · rw [if_pos h1, if_neg (by omega), if_pos h1]
    · rw [if_neg h1]
      by_cases h2 : b.toNat < a.toNat
      · rw [if_pos h2, if_pos h2]; rfl
      · rw [if_neg h2, if_neg h2, if_neg h1]; exact lx_swap l m
theorem lx_rng : ∀ l m : List UInt8, lx l m = -1 ∨ lx l m = 0 ∨ lx l m = 1
  | [], [] => .inr (.inl rfl)
  | [], _ :: _ => .inl rfl
  | _ :: _, [] => .inr (.inr rfl)
  | a :: l, b :: m => by
    simp only [lx]
    split
    · exact .inl rfl
    · split
      · exact .inr (.inr rfl)
      · exact lx_rng l m
/-- A number's k lowest bytes, the highest first. -/
def be : Nat → Nat → List UInt8
  | 0, _ => []
  | k + 1, n => (n / 256 ^ k).toUInt8 :: be k n
theorem be_len : ∀ k n, (be k n).length = k
  | 0, _ => rfl
  | k + 1, n => by simp [be, be_len k n]
theorem u8_toNat (m : Nat) : m.toUInt8.toNat = m % 256 := rfl
theorem two_digits (p q u v M : Nat) (hu : u < M) (hv : v < M) (z : Int) : (if p < q then -1 else if q < p then 1 else if u < v then -1 else if v < u then 1 else z) = if p * M + u < q * M + v then -1 else if q * M + v < p * M + u then 1 else z := by
  have key : ∀ p q u v : Nat, p < q → u < M → p * M + u < q * M + v := by
    intro p q u v h hu
    have := Nat.mul_le_mul_right M (show p + 1 ≤ q from h)
    rw [Nat.add_mul] at this
    omega
  rcases Nat.lt_trichotomy p q with h | h | h
  · have h1 := key p q u v h hu
    rw [if_pos h, if_pos h1]
  · subst h
    rw [if_neg (Nat.lt_irrefl _), if_neg (Nat.lt_irrefl _)]
    by_cases h1 : u < v
    · rw [if_pos h1, if_pos (by omega)]
    · rw [if_neg h1]
      by_cases h2 : v < u
      · rw [if_pos h2, if_neg (by omega), if_pos (by omega)]
      · rw [if_neg h2, if_neg (by omega), if_neg (by omega)]
  · have h1 := key q p v u h hv
    rw [if_neg (by omega), if_pos h, if_neg (by omega), if_pos h1]
theorem be_lx (X Y : List UInt8) : ∀ k a b : Nat, lx (be k a ++ X) (be k b ++ Y) = if a % 256 ^ k < b % 256 ^ k then -1 else if b % 256 ^ k < a % 256 ^ k then 1 else lx X Y
  | 0, a, b => by simp [be, Nat.mod_one]
  | k + 1, a, b => by
    have hd : ∀ n : Nat, n % 256 ^ (k + 1) = n / 256 ^ k % 256 * 256 ^ k + n % 256 ^ k := by
      intro n
      rw [Nat.pow_succ, Nat.mod_mul, Nat.add_comm, Nat.mul_comm]
    have hp : 0 < 256 ^ k := Nat.pow_pos (by decide)
    have ha := Nat.mod_lt a hp
    have hb := Nat.mod_lt b hp
    have ih := be_lx X Y k a b
    simp only [be, List.cons_append, lx, u8_toNat]
    rw [ih, hd a, hd b]
    exact two_digits _ _ _ _ _ ha hb _
theorem be8_lx (X Y : List UInt8) (a b : Nat) (ha : a < 18446744073709551616) (hb : b < 18446744073709551616) : lx (be 8 a ++ X) (be 8 b ++ Y) = if a < b then -1 else if b < a then 1 else lx X Y := by
  have h := be_lx X Y 8 a b
  have e : (256 : Nat) ^ 8 = 18446744073709551616 := by decide
  rw [e, Nat.mod_eq_of_lt ha, Nat.mod_eq_of_lt hb] at h
  exact h
/-- The number of bytes, the highest first. -/
def un (l : List UInt8) : Nat := l.foldl (fun a c => a * 256 + c.toNat) 0
theorem un_snoc (l : List UInt8) (c : UInt8) : un (l ++ [c]) = un l * 256 + c.toNat := by simp [un, List.foldl_append]
theorem un_lt (l : List UInt8) : un l < 256 ^ l.length := by
  have key : ∀ (l : List UInt8) (n p : Nat), n < 256 ^ p → l.foldl (fun a c => a * 256 + c.toNat) n < 256 ^ (p + l.length) := by
    intro l
    induction l with
    | nil => intro n p h; simpa using h
    | cons c l ih =>
      intro n p h
      have hc := c.toNat_lt
      have := ih (n * 256 + c.toNat) (p + 1) (by rw [Nat.pow_succ]; omega)
      simp only [List.foldl_cons, List.length_cons]
      rw [show p + (l.length + 1) = p + 1 + l.length by omega]; exact this
  have := key l 0 0 (by decide)
  simpa [un] using this
theorem un_be : ∀ k n : Nat, un (be k n) = n % 256 ^ k := by
  have key : ∀ k n a : Nat, (be k n).foldl (fun a c => a * 256 + c.toNat) a = a * 256 ^ k + n % 256 ^ k := by
    intro k
    induction k with
    | zero => intro n a; simp [be, Nat.mod_one]
    | succ k ih =>
      intro n a
      simp only [be, List.foldl_cons, u8_toNat]
      rw [ih, Nat.pow_succ, Nat.mod_mul, Nat.add_mul, Nat.mul_assoc, Nat.mul_comm 256 (256 ^ k), Nat.mul_comm (n / 256 ^ k % 256)]
      omega
  intro k n
  have := key k n 0
  simpa [un] using this
theorem un_be8 (n : Nat) (h : n < 18446744073709551616) : un (be 8 n) = n := by
  rw [un_be]
  have e : (256 : Nat) ^ 8 = 18446744073709551616 := by decide
  rw [e, Nat.mod_eq_of_lt h]
/-- A text's bytes, with a byte 255 behind each byte 0. -/
def esc : List UInt8 → List UInt8
  | [] => []
  | c :: l => if c = 0 then 0 :: 255 :: esc l else c :: esc l
theorem esc_zero (l : List UInt8) : esc (0 :: l) = 0 :: 255 :: esc l := by simp [esc]
theorem esc_other {c : UInt8} (h : c ≠ 0) (l : List UInt8) : esc (c :: l) = c :: esc l := by simp [esc, h]
theorem pos_of {c : UInt8} (h : c ≠ 0) : 0 < c.toNat := by
  rcases Nat.eq_zero_or_pos c.toNat with h0 | h0
  · exact absurd (UInt8.toNat_inj.1 (show c.toNat = (0 : UInt8).toNat from h0)) h
  · exact h0
theorem esc_lx (X Y : List UInt8) : ∀ s t : List UInt8, lx (esc s ++ 0 :: 1 :: X) (esc t ++ 0 :: 1 :: Y) = if lx s t = 0 then lx X Y else lx s t
  | [], [] => by simp [esc, lx]
  | [], c :: t => by
    have e : lx [] (c :: t) = -1 := rfl
    rw [e, if_neg (by decide)]
    by_cases h : c = 0
    · subst h; rw [esc_zero]; simp [esc, lx]
    · rw [esc_other h]; have := pos_of h; simp [esc, lx, this]
  | c :: s, [] => by
    have e : lx (c :: s) [] = 1 := rfl
    rw [e, if_neg (by decide)]
    by_cases h : c = 0
    · subst h; rw [esc_zero]; simp [esc, lx]
    · rw [esc_other h]; have := pos_of h; simp [esc, lx, this]
  | c :: s, d :: t => by
    have ih := esc_lx X Y s t
    by_cases h : c = 0
    · subst h
      by_cases g : d = 0
      · subst g
        rw [esc_zero, esc_zero]
        simp only [List.cons_append, lx, Nat.lt_irrefl, if_false]
        exact ih
      · have := pos_of g
        have z : (0 : UInt8).toNat = 0 := rfl
        rw [esc_zero, esc_other g]
        simp only [List.cons_append, lx, z]
        rw [if_pos this, if_pos this, if_neg (by decide)]
    · have hp := pos_of h
      by_cases g : d = 0
      · subst g
        have z : (0 : UInt8).toNat = 0 := rfl
        rw [esc_zero, esc_other h]
        simp only [List.cons_append, lx, z]
        have hn : ¬ c.toNat < 0 := by omega
        rw [if_neg hn, if_pos hp, if_neg hn, if_pos hp, if_neg (by decide)]
      · rw [esc_other h, esc_other g]
        simp only [List.cons_append, lx]
        by_cases h1 : c.toNat < d.toNat
        · simp only [if_pos h1]; rw [if_neg (by decide)]
        · simp only [if_neg h1]
          by_cases h2 : d.toNat < c.toNat
          · simp only [if_pos h2]; rw [if_neg (by decide)]
          · simp only [if_neg h2]; exact ih
/-! the library's searches at these texts -/
theorem repl_esc (k : Nat) : ∀ s : List UInt8, Lib.count s [0] ≤ k → Lib.replaceK [0] [0, 255] k s = esc s := by
  intro s
  induction s generalizing k with
  | nil =>
    intro _
    cases k with
    | zero => rfl
    | succ k => simp [Lib.replaceK, Lib.index, esc]
  | cons c s ih =>
    intro h
    by_cases hc : c = 0
    · subst hc
      rw [Lib.count_cons_eq] at h
      obtain ⟨j, rfl⟩ : ∃ j, k = j + 1 := ⟨k - 1, by omega⟩
      have hi : Lib.index (0 :: s) [0] = (0 : Nat) := by simp [Lib.index]
      rw [Lib.replaceK_hit _ _ _ _ 0 hi, esc_zero]
      simp only [List.take_zero, List.nil_append, Nat.zero_add, List.length_singleton, List.drop_succ_cons, List.drop_zero, List.cons_append]
      rw [ih j (by omega)]
    · rw [Lib.count_cons_ne _ _ _ hc] at h
      rw [esc_other hc, ← ih k h]
      cases k with
      | zero => rfl
      | succ k =>
        have hix : Lib.index (c :: s) [0] = if Lib.index s [0] == -1 then -1 else Lib.index s [0] + 1 := by
          have : ([0] : List UInt8).isPrefixOf (c :: s) = false := by simp [List.isPrefixOf, Ne.symm hc]
          rw [Lib.index, this]; simp
        by_cases hm : (Lib.index s [0] == -1) = true
        · rw [if_pos hm] at hix
          simp only [Lib.replaceK]
          rw [hix, if_pos (by decide), if_pos hm]
        · rw [if_neg hm] at hix
          have hge := Lib.index_ge s [0]
          have hne : Lib.index s [0] ≠ -1 := fun e => hm (by rw [e]; rfl)
          obtain ⟨i, hi⟩ : ∃ i : Nat, Lib.index s [0] = i := ⟨(Lib.index s [0]).toNat, by omega⟩
          rw [hi] at hix
          rw [Lib.replaceK_hit _ _ _ _ i hi, Lib.replaceK_hit _ _ _ _ (i + 1) (by rw [hix]; simp)]
          simp [List.take_succ_cons]
theorem esc_of_repl (s : List UInt8) : Lib.replaceAll s [0] [0, 255] = esc s := by
  unfold Lib.replaceAll Lib.replace Lib.replaceNum
  rw [if_neg (by decide), if_pos (.inl (by decide))]
  exact repl_esc _ s (Nat.le_refl _)
theorem noOcc_esc (d : UInt8) (hd : d ≠ 255) (X : List UInt8) : ∀ s : List UInt8, Lib.index (esc s ++ 0 :: d :: X) [0, d] = ((esc s).length : Int) := by
  intro s
  induction s with
  | nil => simp [esc, Lib.index, List.isPrefixOf]
  | cons c s ih =>
    have step : ∀ (a : UInt8) (l : List UInt8) (n : Nat), ([0, d] : List UInt8).isPrefixOf (a :: l) = false → Lib.index l [0, d] = n → Lib.index (a :: l) [0, d] = ((n + 1 : Nat) : Int) := by
      intro a l n h1 h2
      rw [Lib.index, h1, h2]
      simp
    by_cases hc : c = 0
    · subst hc
      rw [esc_zero]
      simp only [List.cons_append, List.length_cons]
      exact step _ _ _ (by simp [List.isPrefixOf, hd]) (step _ _ _ (by simp [List.isPrefixOf]) ih)
    · rw [esc_other hc]
      simp only [List.cons_append, List.length_cons]
      exact step _ _ _ (by simp [List.isPrefixOf, Ne.symm hc]) ih
theorem un_repl (k : Nat) : ∀ s : List UInt8, Lib.count (esc s) [0, 255] ≤ k → Lib.replaceK [0, 255] [0] k (esc s) = s := by
  have step : ∀ (a : UInt8) (l : List UInt8), ([0, 255] : List UInt8).isPrefixOf (a :: l) = false → Lib.index (a :: l) [0, 255] = if Lib.index l [0, 255] == -1 then -1 else Lib.index l [0, 255] + 1 := by
    intro a l h1
    rw [Lib.index, h1]; simp
  intro s
  induction s generalizing k with
  | nil =>
    intro _
    cases k with
    | zero => rfl
    | succ k => simp [Lib.replaceK, Lib.index, esc]
  | cons c s ih =>
    intro h
    by_cases hc : c = 0
    · subst hc
      rw [esc_zero] at h ⊢
      have hi : Lib.index (0 :: 255 :: esc s) [0, 255] = (0 : Nat) := by simp [Lib.index, List.isPrefixOf]
      rw [Lib.count_hit (by simp) hi] at h
      obtain ⟨j, rfl⟩ : ∃ j, k = j + 1 := ⟨k - 1, by omega⟩
      rw [Lib.replaceK_hit _ _ _ _ 0 hi]
      simp only [List.take_zero, List.nil_append, Nat.zero_add, List.length_cons, List.length_nil, List.drop_succ_cons, List.drop_zero, List.cons_append] at h ⊢
      rw [ih j (by simpa using (by omega : Lib.count (esc s) [0, 255] ≤ j))]
    · rw [esc_other hc] at h ⊢
      have hix := step c (esc s) (by simp [List.isPrefixOf, Ne.symm hc])
      have hge := Lib.index_ge (esc s) [0, 255]
      by_cases hm : Lib.index (esc s) [0, 255] = -1
      · rw [hm] at hix
        have hs := ih k (by rw [Lib.count_miss hm]; omega)
        cases k with
        | zero => simpa [Lib.replaceK] using hs
        | succ k =>
          simp only [Lib.replaceK, hm] at hs
          simp only [Lib.replaceK, hix]
          simpa using hs
      · obtain ⟨i, hi⟩ : ∃ i : Nat, Lib.index (esc s) [0, 255] = i := ⟨(Lib.index (esc s) [0, 255]).toNat, by omega⟩
        rw [hi] at hix
        have hix2 : Lib.index (c :: esc s) [0, 255] = ((i + 1 : Nat) : Int) := by rw [hix]; simp
        have hcnt : Lib.count (esc s) [0, 255] = Lib.count (c :: esc s) [0, 255] := by
          rw [Lib.count_hit (by simp) hi, Lib.count_hit (by simp) hix2]
          simp
        have hs := ih k (by omega)
        have h0 : 0 < Lib.count (esc s) [0, 255] := by rw [Lib.count_hit (by simp) hi]; omega
        obtain ⟨j, rfl⟩ : ∃ j, k = j + 1 := ⟨k - 1, by omega⟩
        rw [Lib.replaceK_hit _ _ _ _ i hi] at hs
        rw [Lib.replaceK_hit _ _ _ _ (i + 1) hix2]
        conv => rhs; rw [← hs]
        simp [List.take_succ_cons]
theorem un_of_repl (s : List UInt8) : Lib.replaceAll (esc s) [0, 255] [0] = s := by
  unfold Lib.replaceAll Lib.replace Lib.replaceNum
  rw [if_neg (by decide), if_pos (.inl (by decide))]
  exact un_repl _ s (Nat.le_refl _)
end Ky
end Go.Proofs.YtppdebhcaodcnaaDoor
