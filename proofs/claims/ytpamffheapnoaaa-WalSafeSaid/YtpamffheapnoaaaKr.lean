/- The sum of bytes, plain: one halving, one byte, all bytes; its laws. No condition, and nothing of the program. -/
import Derived.Laws.BitsAllLaws
namespace Go.Proofs.Ytpamffheapnoaaa
namespace Crc
def hv (n : Nat) : Nat := if n % 2 = 1 then (n / 2) ^^^ 3988292384 else n / 2
def hvs : Nat → Nat → Nat
  | 0, n => n
  | k + 1, n => hvs k (hv n)
theorem hv_lt {n : Nat} (h : n < 4294967296) : hv n < 4294967296 := by
  unfold hv
  split
  · exact Nat.xor_lt_two_pow (n := 32) (by omega) (by omega)
  · omega
theorem hvs_lt {k n : Nat} (h : n < 4294967296) : hvs k n < 4294967296 := by
  induction k generalizing n with
  | zero => exact h
  | succ k ih => exact ih (hv_lt h)
theorem xor_half (a b : Nat) : (a ^^^ b) / 2 = (a / 2) ^^^ (b / 2) := by
  have := Nat.xor_div_two_pow (a := a) (b := b) (n := 1)
  simpa using this
theorem xor_odd (a b : Nat) : (a ^^^ b) % 2 = (a % 2 + b % 2) % 2 := by
  have h := Nat.xor_mod_two_pow (a := a) (b := b) (n := 1)
  simp only [Nat.pow_one] at h
  rw [h]
  rcases Nat.mod_two_eq_zero_or_one a with x | x <;> rcases Nat.mod_two_eq_zero_or_one b with y | y <;> rw [x, y] <;> rfl
theorem hv_xor (a b : Nat) : hv (a ^^^ b) = hv a ^^^ hv b := by
  unfold hv
  rw [xor_half, xor_odd]
  rcases Nat.mod_two_eq_zero_or_one a with x | x <;> rcases Nat.mod_two_eq_zero_or_one b with y | y <;> simp [x, y]
  · rw [Nat.xor_assoc]
  · rw [Nat.xor_assoc, Nat.xor_comm (b / 2), ← Nat.xor_assoc]
  · have : a / 2 ^^^ 3988292384 ^^^ (b / 2 ^^^ 3988292384) = a / 2 ^^^ b / 2 ^^^ (3988292384 ^^^ 3988292384) := by
      ac_rfl
    rw [this, Nat.xor_self, Nat.xor_zero]
theorem hvs_xor (k a b : Nat) : hvs k (a ^^^ b) = hvs k a ^^^ hvs k b := by
  induction k generalizing a b with
  | zero => rfl
  | succ k ih => show hvs k (hv (a ^^^ b)) = _; rw [hv_xor, ih]; rfl
theorem hv_two (a : Nat) : hv (2 * a) = a := by unfold hv; rw [if_neg (by omega)]; omega
theorem hvs_pow (k a : Nat) : hvs k (2 ^ k * a) = a := by
  induction k with
  | zero => simp [hvs]
  | succ k ih => show hvs k (hv (2 ^ (k + 1) * a)) = a; rw [show 2 ^ (k + 1) * a = 2 * (2 ^ k * a) by rw [Nat.pow_succ]; ac_rfl, hv_two, ih]
theorem hv_inj {a b : Nat} (ha : a < 4294967296) (hb : b < 4294967296) (h : hv a = hv b) : a = b := by
  have key : ∀ n, n < 4294967296 → (hv n).testBit 31 = decide (n % 2 = 1) := by
    intro n hn
    have h2 : (n / 2).testBit 31 = false := Nat.testBit_lt_two_pow (by omega)
    unfold hv
    split
    · rename_i h; rw [Nat.testBit_xor, h2]; simp [h]; decide
    · rename_i h; rw [h2]; simp [h]
  have e := key a ha
  rw [h, key b hb] at e
  have e' : (b % 2 = 1) ↔ (a % 2 = 1) := by simpa using e
  unfold hv at h
  by_cases h1 : a % 2 = 1
  · rw [if_pos h1, if_pos (e'.2 h1)] at h
    have : a / 2 = b / 2 := by
      have := congrArg (· ^^^ 3988292384) h
      simpa [Nat.xor_assoc] using this
    have := e'.2 h1
    omega
  · have h2 : ¬ b % 2 = 1 := fun x => h1 (e'.1 x)
    rw [if_neg h1, if_neg h2] at h
    omega
theorem hvs_inj {k a b : Nat} (ha : a < 4294967296) (hb : b < 4294967296) (h : hvs k a = hvs k b) : a = b := by
  induction k generalizing a b with
  | zero => exact h
  | succ k ih => exact hv_inj ha hb (ih (hv_lt ha) (hv_lt hb) h)
/-- What the program makes of a byte: its array's entry. -/
def tab (b : Nat) : Nat := hvs 8 b
def stp (n : Nat) (c : UInt8) : Nat := hvs 8 (n ^^^ c.toNat)
theorem u8lt (c : UInt8) : c.toNat < 256 := c.toNat_lt
theorem stp_lt {n : Nat} (h : n < 4294967296) (c : UInt8) : stp n c < 4294967296 :=
  hvs_lt (Nat.xor_lt_two_pow (n := 32) h (by have := u8lt c; omega))
theorem split_low (n : Nat) (c : Nat) : n ^^^ c = (2 ^ 8 * (n / 256)) ^^^ ((n % 256) ^^^ c) := by
  rw [← Nat.xor_assoc]
  congr 1
  apply Nat.eq_of_testBit_eq
  intro i
  rw [Nat.testBit_xor, Nat.testBit_two_pow_mul, show n % 256 = n % 2 ^ 8 from rfl, Nat.testBit_mod_two_pow, show n / 256 = n / 2 ^ 8 from rfl, Nat.testBit_div_two_pow]
  by_cases h : i < 8
  · have : ¬ 8 ≤ i := by omega
    simp [h, this]
  · have : 8 ≤ i := by omega
    simp [h, this, Nat.sub_add_cancel this]
theorem stp_eq (n : Nat) (c : UInt8) : stp n c = (n / 256) ^^^ tab ((n % 256) ^^^ c.toNat) := by
  unfold stp tab
  rw [split_low n c.toNat, hvs_xor, hvs_pow]
def run (n : Nat) (l : List UInt8) : Nat := l.foldl stp n
theorem run_lt {n : Nat} (h : n < 4294967296) (l : List UInt8) : run n l < 4294967296 := by
  unfold run
  induction l generalizing n with
  | nil => exact h
  | cons c l ih => exact ih (stp_lt h c)
theorem run_app (n : Nat) (a b : List UInt8) : run n (a ++ b) = run (run n a) b := List.foldl_append
theorem run_snoc (n : Nat) (a : List UInt8) (c : UInt8) : run n (a ++ [c]) = stp (run n a) c := by rw [run_app]; rfl
/-- The sum of more bytes. -/
def more (n : Nat) (l : List UInt8) : Nat := 4294967295 - run (4294967295 - n) l
theorem more_lt (n : Nat) (l : List UInt8) : more n l < 4294967296 := by unfold more; omega
theorem more_app (n : Nat) (a b : List UInt8) : more (more n a) b = more n (a ++ b) := by
  unfold more
  have := run_lt (n := 4294967295 - n) (by omega) a
  rw [run_app, show 4294967295 - (4294967295 - run (4294967295 - n) a) = run (4294967295 - n) a by omega]
theorem stp_inj {n m : Nat} (hn : n < 4294967296) (hm : m < 4294967296) {c : UInt8} (h : stp n c = stp m c) : n = m := by
  have hc := u8lt c
  have := hvs_inj (Nat.xor_lt_two_pow (n := 32) hn (by omega)) (Nat.xor_lt_two_pow (n := 32) hm (by omega)) h
  have := congrArg (· ^^^ c.toNat) this
  simpa [Nat.xor_assoc] using this
theorem stp_inj2 {n : Nat} (hn : n < 4294967296) {c d : UInt8} (h : stp n c = stp n d) : c = d := by
  have hc := u8lt c
  have hd := u8lt d
  have := hvs_inj (Nat.xor_lt_two_pow (n := 32) hn (by omega)) (Nat.xor_lt_two_pow (n := 32) hn (by omega)) h
  have := congrArg (n ^^^ ·) this
  simp only [← Nat.xor_assoc, Nat.xor_self, Nat.zero_xor] at this
  exact UInt8.toNat_inj.1 this
theorem run_inj {n m : Nat} (hn : n < 4294967296) (hm : m < 4294967296) (l : List UInt8) (h : run n l = run m l) : n = m := by
  unfold run at h
  induction l generalizing n m with
  | nil => exact h
  | cons c l ih => exact stp_inj hn hm (ih (stp_lt hn c) (stp_lt hm c) h)
theorem more_eq_iff (n : Nat) (a b : List UInt8) : more n a = more n b ↔ run (4294967295 - n) a = run (4294967295 - n) b := by
  have := run_lt (n := 4294967295 - n) (by omega) a
  have := run_lt (n := 4294967295 - n) (by omega) b
  unfold more; omega
/-- One byte that is another one is told. -/
theorem more_one (n : Nat) (a : List UInt8) (c d : UInt8) (b : List UInt8) (h : more n (a ++ c :: b) = more n (a ++ d :: b)) : c = d := by
  rw [more_eq_iff, run_app, run_app] at h
  have hl := run_lt (n := 4294967295 - n) (by omega) a
  exact stp_inj2 hl (run_inj (stp_lt hl c) (stp_lt hl d) b h)
theorem more_last (n : Nat) (a : List UInt8) (c d : UInt8) : (more n (a ++ [c]) = more n (a ++ [d])) ↔ c = d :=
  ⟨fun h => more_one n a c d [] h, fun h => by rw [h]⟩
theorem run_xor (n m : Nat) (a b : List UInt8) (h : a.length = b.length) : run (n ^^^ m) (List.zipWith (· ^^^ ·) a b) = run n a ^^^ run m b := by
  unfold run
  induction a generalizing n m b with
  | nil => cases b <;> simp_all
  | cons c a ih =>
    cases b with
    | nil => simp at h
    | cons d b =>
      simp only [List.zipWith_cons_cons, List.foldl_cons]
      rw [← ih _ _ _ (by simpa using h)]
      congr 1
      unfold stp
      rw [UInt8.toNat_xor, ← hvs_xor]
      congr 1
      ac_rfl
theorem not_xor {x : Nat} (h : x < 4294967296) : 4294967295 - x = 4294967295 ^^^ x := by
  apply Nat.eq_of_testBit_eq
  intro i
  have h1 := Nat.testBit_two_pow_sub_succ (n := 32) (x := x) (by omega) i
  have h2 := Nat.testBit_two_pow_sub_one 32 i
  rw [show (2 : Nat) ^ 32 - (x + 1) = 4294967295 - x by omega] at h1
  rw [show (2 : Nat) ^ 32 - 1 = 4294967295 by decide] at h2
  rw [Nat.testBit_xor, h1, h2]
  by_cases hi : i < 32
  · simp [hi]
  · have : x.testBit i = false := Nat.testBit_lt_two_pow (Nat.lt_of_lt_of_le h (by have := Nat.pow_le_pow_right (n := 2) (by decide) (show 32 ≤ i by omega); omega))
    simp [hi, this]
theorem zip_zero (a : List UInt8) : List.zipWith (· ^^^ ·) a (List.replicate a.length 0) = a := by
  induction a with
  | nil => rfl
  | cons c a ih => simp [List.replicate_succ, ih]
/-- Bytes laid over one another. -/
theorem more_mix (a b : List UInt8) (h : a.length = b.length) :
    more 0 (List.zipWith (· ^^^ ·) a b) = more 0 a ^^^ more 0 b ^^^ more 0 (List.replicate a.length 0) := by
  unfold more
  have l0 : (4294967295 : Nat) - 0 < 4294967296 := by omega
  rw [not_xor (run_lt l0 _), not_xor (run_lt l0 _), not_xor (run_lt l0 _), not_xor (run_lt l0 _)]
  have e : run (4294967295 - 0) (List.zipWith (· ^^^ ·) a b) = run (4294967295 - 0) a ^^^ run (4294967295 - 0) b ^^^ run (4294967295 - 0) (List.replicate a.length 0) := by
    rw [← run_xor _ _ _ _ h, ← run_xor _ _ _ _ (by simp [h]), show (List.replicate a.length (0 : UInt8)) = List.replicate (List.zipWith (· ^^^ ·) a b).length 0 by simp [h], zip_zero]
    rfl
  rw [e]
  have : ∀ x y z : Nat, 4294967295 ^^^ x ^^^ (4294967295 ^^^ y) ^^^ (4294967295 ^^^ z) = (4294967295 ^^^ 4294967295) ^^^ (4294967295 ^^^ (x ^^^ y ^^^ z)) := by
    intro x y z; ac_rfl
  rw [this]; simp
/-- A sum's bytes, the lowest first. -/
def four (n : Nat) : List UInt8 := [UInt8.ofNat n, UInt8.ofNat (n / 256), UInt8.ofNat (n / 65536), UInt8.ofNat (n / 16777216)]
theorem four_len (n : Nat) : (four n).length = 4 := rfl
theorem four_inj {n m : Nat} (hn : n < 4294967296) (hm : m < 4294967296) (h : four n = four m) : n = m := by
  unfold four at h
  simp only [List.cons.injEq, and_true, ← UInt8.toNat_inj, UInt8.toNat_ofNat'] at h
  omega
def put (l : List UInt8) : List UInt8 := l ++ four (more 0 l)
theorem put_len (l : List UInt8) : (put l).length = l.length + 4 := by simp [put, four_len]
def good (l : List UInt8) : Bool := decide (4 ≤ l.length) && (l.drop (l.length - 4) == four (more 0 (l.take (l.length - 4))))
def took (l : List UInt8) : List UInt8 := if good l then l.take (l.length - 4) else []
theorem good_put (l : List UInt8) : good (put l) = true := by
  unfold good
  rw [put_len, show l.length + 4 - 4 = l.length by omega]
  simp [put]
theorem took_put (l : List UInt8) : took (put l) = l := by
  unfold took
  rw [if_pos (good_put l), put_len, show l.length + 4 - 4 = l.length by omega]
  simp [put]
theorem good_iff (l : List UInt8) (h : 4 ≤ l.length) : good l = true ↔ put (l.take (l.length - 4)) = l := by
  unfold good put
  simp only [h, decide_true, Bool.true_and, beq_iff_eq]
  constructor
  · intro e; rw [← e, List.take_append_drop]
  · intro e
    have e2 := List.take_append_drop (l.length - 4) l
    rw [← e2] at e
    conv at e => lhs; rw [e2]
    exact (List.append_cancel_left e).symm
theorem good_short {l : List UInt8} (h : l.length < 4) : good l = false := by unfold good; simp; omega
theorem good_len {l : List UInt8} (h : good l = true) : 4 ≤ l.length := by
  rcases Nat.lt_or_ge l.length 4 with x | x
  · rw [good_short x] at h; simp at h
  · exact x
theorem took_zero {l : List UInt8} (h : good l = true) : (took l).length = l.length - 4 ∧ put (took l) = l := by
  have hl := good_len h
  unfold took
  rw [if_pos h]
  exact ⟨by simp, (good_iff l hl).1 h⟩
/-- One byte that is another one is told. -/
theorem good_set (s : List UInt8) (k : Nat) (x : UInt8) (hk : k < (put s).length) (hx : x ≠ (put s)[k]) : good ((put s).set k x) = false := by
  rw [Bool.eq_false_iff]
  intro hg
  unfold good at hg
  simp only [List.length_set, put_len, show s.length + 4 - 4 = s.length by omega, Bool.and_eq_true, beq_iff_eq] at hg
  have hg := hg.2
  rw [put_len] at hk
  rcases Nat.lt_or_ge k s.length with h | h
  · have e : (put s).set k x = s.set k x ++ four (more 0 s) := by unfold put; rw [List.set_append_left _ _ h]
    rw [e, List.drop_append_of_le_length (by simp), List.take_append_of_le_length (by simp), List.drop_of_length_le (by simp), List.take_of_length_le (by simp), List.nil_append] at hg
    have hm := four_inj (more_lt _ _) (more_lt _ _) hg
    have e1 : s = s.take k ++ s[k] :: s.drop (k + 1) := by rw [List.getElem_cons_drop, List.take_append_drop]
    rw [List.set_eq_take_append_cons_drop, if_pos h] at hm
    conv at hm => lhs; rw [e1]
    have := more_one _ _ _ _ _ hm
    apply hx
    rw [← this]
    simp [put, List.getElem_append_left h]
  · have e : (put s).set k x = s ++ (four (more 0 s)).set (k - s.length) x := by unfold put; rw [List.set_append_right _ _ h]
    rw [e, List.drop_append_of_le_length (by simp), List.take_append_of_le_length (by simp), List.drop_of_length_le (by simp), List.take_of_length_le (by simp), List.nil_append] at hg
    apply hx
    have hk4 : k - s.length < (four (more 0 s)).length := by rw [four_len]; omega
    have := congrArg (fun l => l[k - s.length]?) hg
    simp only [List.getElem?_set, hk4, ↓reduceIte, List.getElem?_eq_getElem hk4] at this
    have := Option.some.inj this
    rw [this]
    simp only [put]
    rw [List.getElem_append_right h]
theorem put_last (s : List UInt8) (a b : UInt8) : put (s ++ [a]) = put (s ++ [b]) ↔ a = b := by
  constructor
  · intro h
    unfold put at h
    have := (List.append_inj h (by simp)).1
    simpa using this
  · intro h; rw [h]
/-- How the program makes its array: the entries of one round, of all rounds. -/
def inner (bit one : Nat) : Nat → List Nat → List Nat
  | 0, t => t
  | j + 1, t => (inner bit one j t).set (bit * (2 * j + 1)) ((inner bit one j t).getD (bit * (2 * j)) 0 ^^^ one)
def ones : Nat → Nat
  | 0 => 1
  | k + 1 => hv (ones k)
def tabs : Nat → List Nat
  | 0 => List.replicate 256 0
  | k + 1 => inner (128 / 2 ^ k) (ones (k + 1)) (2 ^ k) (tabs k)
set_option maxRecDepth 100000 in
theorem tabs_all : tabs 8 = (List.range 256).map tab := by decide +kernel
end Crc
end Go.Proofs.Ytpamffheapnoaaa
