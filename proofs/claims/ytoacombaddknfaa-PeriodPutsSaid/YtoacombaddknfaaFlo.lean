/- Doubles by their words: which are no numbers, the canonical word, and that the order of two words is that of their signed rungs. No condition. -/
import Ieee.Arith
import GoSem.Core.Float
namespace Go.Proofs.Ytoacombaddknfaa
namespace Flo
open Ieee

def sgn : Nat := 9223372036854775808
def inf : Nat := 9218868437227405312
def rung (x : Nat) : Nat := x % sgn
def isNeg (x : Nat) : Bool := x / sgn % 2 == 1
/-- no number -/
def nanB (x : Nat) : Bool := decide (inf < rung x)
/-- either zero -/
def zeroB (x : Nat) : Bool := rung x == 0
def key (x : Nat) : Int := if isNeg x then -(rung x : Int) else rung x
def canon (x : Nat) : Nat := if nanB x then 9221120237041090560 else if zeroB x then 0 else x

def val (r : Nat) : Nat := if r < 4503599627370496 then r else (4503599627370496 + r % 4503599627370496) * 2 ^ (r / 4503599627370496 - 1)

theorem val_succ (r : Nat) : val r < val (r + 1) := by
  unfold val
  by_cases h1 : r + 1 < 4503599627370496
  · rw [if_pos (by omega), if_pos h1]; omega
  · rw [if_neg h1]
    by_cases h2 : r < 4503599627370496
    · rw [if_pos h2]
      have e : r = 4503599627370495 := by omega
      subst e; decide
    · rw [if_neg h2]
      generalize hq : r / 4503599627370496 = q
      have q1 : 1 ≤ q := by omega
      by_cases h3 : r % 4503599627370496 = 4503599627370495
      · have a : (r + 1) % 4503599627370496 = 0 := by omega
        have b : (r + 1) / 4503599627370496 = q + 1 := by omega
        rw [a, b, h3]
        obtain ⟨p, rfl⟩ : ∃ p, q = p + 1 := ⟨q - 1, by omega⟩
        simp only [Nat.add_sub_cancel]
        rw [Nat.pow_succ]
        have := Nat.two_pow_pos p
        omega
      · have a : (r + 1) % 4503599627370496 = r % 4503599627370496 + 1 := by omega
        have b : (r + 1) / 4503599627370496 = q := by omega
        rw [a, b]
        exact Nat.mul_lt_mul_of_pos_right (by omega) (Nat.two_pow_pos _)

theorem val_mono {r t : Nat} (h : r < t) : val r < val t := by
  induction t with
  | zero => omega
  | succ t ih =>
    by_cases e : r = t
    · subst e; exact val_succ _
    · exact Nat.lt_trans (ih (by omega)) (val_succ _)

theorem val_zero : val 0 = 0 := rfl

def sv (neg : Bool) (v : Nat) : Int := if neg then -(v : Int) else v

theorem compare_sv (a b : Bool) (r t : Nat) : compare (sv a (val r)) (sv b (val t)) = compare (sv a r) (sv b t) := by
  have m1 : r < t → val r < val t := val_mono
  have m2 : t < r → val t < val r := val_mono
  have z1 : 0 < r → 0 < val r := fun h => by have := val_mono h; rwa [val_zero] at this
  have z2 : 0 < t → 0 < val t := fun h => by have := val_mono h; rwa [val_zero] at this
  have y1 : r = 0 → val r = 0 := fun h => by rw [h, val_zero]
  have y2 : t = 0 → val t = 0 := fun h => by rw [h, val_zero]
  have y3 : r = t → val r = val t := fun h => by rw [h]
  unfold sv
  generalize val r = x at *
  generalize val t = y at *
  have key : ∀ p q p' q' : Int, (p < q ↔ p' < q') → (p = q ↔ p' = q') → compare p q = compare p' q' := by
    intro p q p' q' h1 h2
    show compareOfLessAndEq p q = compareOfLessAndEq p' q'
    unfold compareOfLessAndEq
    simp only [h1, h2]
  cases a <;> cases b <;> simp only [Bool.false_eq_true, if_true, if_false] <;> apply key <;> omega

theorem compare_scale (p q : Int) (k : Nat) : compare (p * 2 ^ k) (q * 2 ^ k) = compare p q := by
  have h : (0 : Int) < 2 ^ k := by exact_mod_cast Nat.two_pow_pos k
  show compareOfLessAndEq _ _ = compareOfLessAndEq _ _
  unfold compareOfLessAndEq
  have h1 : (p * 2 ^ k < q * 2 ^ k) ↔ p < q := ⟨fun g => Int.lt_of_mul_lt_mul_right g (Int.le_of_lt h), fun g => Int.mul_lt_mul_of_pos_right g h⟩
  have h2 : (p * 2 ^ k = q * 2 ^ k) ↔ p = q := ⟨fun g => Int.eq_of_mul_eq_mul_right (by omega) g, fun g => by rw [g]⟩
  simp only [h1, h2]

theorem signed_eq (neg : Bool) (m up : Nat) : signed neg m up = sv neg (m * 2 ^ up) := by
  unfold signed sv; rw [Nat.shiftLeft_eq]

theorem sv_mul (neg : Bool) (m k : Nat) : sv neg (m * 2 ^ k) = sv neg m * 2 ^ k := by
  unfold sv; cases neg <;> simp [Int.neg_mul]

theorem order_num (s t : Bool) (m n a b : Nat) (l : Int) :
    Datum.order (.number s m (l + a)) (.number t n (l + b)) = some (compare (sv s (m * 2 ^ a)) (sv t (n * 2 ^ b))) := by
  unfold Datum.order
  simp only [signed_eq]
  congr 1
  by_cases h : a ≤ b
  · have e : min (l + (a : Int)) (l + b) = l + a := by omega
    rw [e, show (l + (a : Int) - (l + a)).toNat = 0 by omega, show (l + (b : Int) - (l + a)).toNat = b - a by omega]
    rw [← compare_scale _ _ a, ← sv_mul, ← sv_mul, Nat.pow_zero, Nat.mul_one, Nat.mul_assoc, ← Nat.pow_add, show b - a + a = b by omega]
  · have e : min (l + (a : Int)) (l + b) = l + b := by omega
    rw [e, show (l + (b : Int) - (l + b)).toNat = 0 by omega, show (l + (a : Int) - (l + b)).toNat = a - b by omega]
    rw [← compare_scale _ _ b, ← sv_mul, ← sv_mul, Nat.pow_zero, Nat.mul_one, Nat.mul_assoc, ← Nat.pow_add, show a - b + b = a by omega]

theorem sw : double.signWeight = sgn := by decide
theorem bn : double.binade = 4503599627370496 := by decide
theorem ir : double.infRung = inf := by decide

/-- what a word reads as -/
theorem read_fin (x : Nat) (h : rung x < inf) : ∃ m a : Nat, double.read x = .number (isNeg x) m (double.leastPlace + a) ∧ m * 2 ^ a = val (rung x) := by
  unfold Format.read
  simp only [sw, bn, ir]
  show ∃ m a : Nat, (if rung x < 4503599627370496 then Datum.number (isNeg x) (rung x) double.leastPlace else if rung x < inf then _ else _) = _ ∧ _
  by_cases h1 : rung x < 4503599627370496
  · rw [if_pos h1]; exact ⟨rung x, 0, by simp, by simp [val, h1]⟩
  · rw [if_neg h1, if_pos h]; exact ⟨_, _, rfl, by unfold val; rw [if_neg h1]; rfl⟩
theorem read_inf (x : Nat) (h : rung x = inf) : double.read x = .infinity (isNeg x) := by
  unfold Format.read
  simp only [sw, bn, ir]
  show (if rung x < 4503599627370496 then Datum.number (isNeg x) (rung x) double.leastPlace else if rung x < inf then _ else if rung x = inf then _ else _) = _
  rw [h, if_neg (by decide), if_neg (by decide), if_pos rfl]; rfl
theorem read_nan (x : Nat) (h : inf < rung x) : double.read x = .nan (isNeg x) (rung x - inf) := by
  unfold Format.read
  simp only [sw, bn, ir]
  show (if rung x < 4503599627370496 then Datum.number (isNeg x) (rung x) double.leastPlace else if rung x < inf then _ else if rung x = inf then _ else _) = _
  have hi : 4503599627370496 < inf := by decide
  rw [if_neg (by omega), if_neg (by omega), if_neg (by omega)]; rfl

theorem key_sv (x : Nat) : key x = sv (isNeg x) (rung x) := rfl

/-- THE ORDER OF TWO WORDS. -/
theorem order_eq (x y : Nat) : double.order x y = if nanB x || nanB y then none else some (compare (key x) (key y)) := by
  unfold Format.order nanB
  have hlt : ∀ p q : Int, p < q → compare p q = .lt := fun p q h => by
    show compareOfLessAndEq p q = _; unfold compareOfLessAndEq; rw [if_pos h]
  have hgt : ∀ p q : Int, q < p → compare p q = .gt := fun p q h => by
    show compareOfLessAndEq p q = _; unfold compareOfLessAndEq; rw [if_neg (by omega), if_neg (by omega)]
  have hin : (0 : Nat) < inf := by decide
  rcases Nat.lt_trichotomy (rung x) inf with hx | hx | hx
  · obtain ⟨m, a, ex, vx⟩ := read_fin x hx
    rcases Nat.lt_trichotomy (rung y) inf with hy | hy | hy
    · obtain ⟨n, b, ey, vy⟩ := read_fin y hy
      rw [ex, ey, order_num, vx, vy, compare_sv, ← key_sv, ← key_sv, if_neg (by simp; omega)]
    · rw [ex, read_inf y hy]
      rw [if_neg (by simp; omega)]
      simp only [Datum.order]
      unfold key; rw [hy]
      congr 1
      cases isNeg y <;> cases isNeg x <;> simp only [Bool.false_eq_true, if_true, if_false] <;> symm <;> first | (apply hlt; omega) | (apply hgt; omega)
    · rw [ex, read_nan y hy, if_pos (by simp; omega)]; rfl
  · rcases Nat.lt_trichotomy (rung y) inf with hy | hy | hy
    · obtain ⟨n, b, ey, vy⟩ := read_fin y hy
      rw [ey, read_inf x hx]
      rw [if_neg (by simp; omega)]
      simp only [Datum.order]
      unfold key; rw [hx]
      congr 1
      cases isNeg y <;> cases isNeg x <;> simp only [Bool.false_eq_true, if_true, if_false] <;> symm <;> first | (apply hlt; omega) | (apply hgt; omega)
    · rw [read_inf x hx, read_inf y hy]
      rw [if_neg (by simp; omega)]
      simp only [Datum.order]
      unfold key; rw [hx, hy]
      congr 1
      cases isNeg y <;> cases isNeg x <;> decide
    · rw [read_inf x hx, read_nan y hy, if_pos (by simp; omega)]; rfl
  · rw [read_nan x hx, if_pos (by simp; omega)]; rfl
theorem order_self (x : Nat) : double.order x x = if nanB x then none else some .eq := by
  rw [order_eq]
  cases nanB x
  · simp only [Bool.or_false, Bool.false_eq_true, if_false]
    congr 1
    show compareOfLessAndEq _ _ = _
    unfold compareOfLessAndEq
    rw [if_neg (by omega), if_pos rfl]
  · rfl
theorem nan_zero : nanB 0 = false := by decide
theorem key_zero : key 0 = 0 := by decide
theorem key_eq_zero (x : Nat) : key x = 0 ↔ zeroB x = true := by
  unfold key zeroB
  cases isNeg x <;> simp
theorem order_zero (x : Nat) : (double.order x 0 != some .eq) = !(!nanB x && zeroB x) := by
  rw [order_eq, nan_zero, key_zero]
  cases h : nanB x
  · simp only [Bool.or_false, Bool.false_eq_true, if_false]
    have k := key_eq_zero x
    show (some (compareOfLessAndEq _ _) != _) = _
    unfold compareOfLessAndEq
    cases hz : zeroB x
    · rw [hz] at k
      have : key x ≠ 0 := fun e => by cases k.1 e
      by_cases l : key x < 0
      · rw [if_pos l]; rfl
      · rw [if_neg l, if_neg this]; rfl
    · rw [k.2 hz]; rfl
  · simp
theorem canon_lt (x : Nat) (h : x < 18446744073709551616) : canon x < 18446744073709551616 := by
  unfold canon; split
  · omega
  · split <;> omega
theorem canon_nan {x : Nat} (h : nanB x = true) : canon x = 9221120237041090560 := by unfold canon; rw [if_pos h]
theorem canon_zero {x : Nat} (h : nanB x = false) (z : zeroB x = true) : canon x = 0 := by unfold canon; rw [if_neg (by simp [h]), if_pos z]
theorem canon_else {x : Nat} (h : nanB x = false) (z : zeroB x = false) : canon x = x := by unfold canon; rw [if_neg (by simp [h]), if_neg (by simp [z])]
theorem canon_canon (x : Nat) : canon (canon x) = canon x := by
  cases h : nanB x
  · cases z : zeroB x
    · rw [canon_else h z, canon_else h z]
    · rw [canon_zero h z]; decide
  · rw [canon_nan h]; decide
theorem nan_canon (x : Nat) : nanB (canon x) = nanB x := by
  cases h : nanB x
  · cases z : zeroB x
    · rw [canon_else h z, h]
    · rw [canon_zero h z]; decide
  · rw [canon_nan h]; decide
theorem key_canon (x : Nat) (h : nanB x = false) : key (canon x) = key x := by
  cases z : zeroB x
  · rw [canon_else h z]
  · rw [canon_zero h z, (key_eq_zero x).2 z]; decide
end Flo
end Go.Proofs.Ytoacombaddknfaa
