/- Contracts of AsFloat, Truth, Same, Compare and what they call. No condition. -/
import Derived.Test.YtppdebhcaodcnaaDoorValA
namespace Go.Proofs.YtppdebhcaodcnaaDoor
open Go.RowKit
namespace Val
/-- A value's number, by its word. -/
def asF (k n : Int) (b : Nat) (s : ByteArray) : Nat := if k = 3 ∧ rightB k n b s = true then b else 0
set_option maxRecDepth 100000 in
set_option maxHeartbeats 1000000 in
theorem asfloat_any (k n : Int) (b : Nat) (s : ByteArray) (w : World) :
    Calls Tryd.prog 36 #[.agg #[.int .i64 k, .int .i64 n, .int .u64 b, .string s]] w fun e w' => e = .returned (.float .f64 (asF k n b s)) ∧ Below w.heap.size w w' := by
  by_cases hk : k = 3
  · subst hk
    cases hr : rightB 3 n b s
    · have e : asF 3 n b s = 0 := by unfold asF; simp [hr]
      rw [e]; clear e
      go_enter Tryd.func36, Tryd.ntmps36
      go_wp2_with (go_at_call 34; refine (right_any _ _ _ _ _).mono ?_; rintro e w' ⟨rfl, hb⟩; obtain ⟨hc, hf⟩ := bcell hb)
      go_ret
      exact ⟨rfl, ((Below.refl _ _).alloc (Nat.le_refl _) _).trans (hb.mono (by simp))⟩
    · have e : asF 3 n b s = b := by unfold asF; simp [hr]
      rw [e]; clear e
      go_enter Tryd.func36, Tryd.ntmps36
      go_wp2_with (go_at_call 34; refine (right_any _ _ _ _ _).mono ?_; rintro e w' ⟨rfl, hb⟩; obtain ⟨hc, hf⟩ := bcell hb)
      go_ret
      exact ⟨rfl, ((Below.refl _ _).alloc (Nat.le_refl _) _).trans (hb.mono (by simp))⟩
  · have e : asF k n b s = 0 := by unfold asF; simp [hk]
    have hk' : (k != 3) = true := by simpa using hk
    rw [e]; clear e hk
    go_enter Tryd.func36, Tryd.ntmps36
    go_wp2_with fail
    go_ret
    exact ⟨rfl, (Below.refl _ _).alloc (Nat.le_refl _) _⟩
def truthI (k n : Int) (b : Nat) (s : ByteArray) : Int := if k = 1 ∧ rightB k n b s = true then n else -1
set_option maxRecDepth 100000 in
set_option maxHeartbeats 1000000 in
theorem truth_any (k n : Int) (b : Nat) (s : ByteArray) (w : World) :
    Calls Tryd.prog 35 #[.agg #[.int .i64 k, .int .i64 n, .int .u64 b, .string s]] w fun e w' => e = .returned (.int .i64 (truthI k n b s)) ∧ Below w.heap.size w w' := by
  by_cases hk : k = 1
  · subst hk
    cases hr : rightB 1 n b s
    · have e : truthI 1 n b s = -1 := by unfold truthI; simp [hr]
      rw [e]; clear e
      go_enter Tryd.func35, Tryd.ntmps35
      go_wp2_with (go_at_call 34; refine (right_any _ _ _ _ _).mono ?_; rintro e w' ⟨rfl, hb⟩; obtain ⟨hc, hf⟩ := bcell hb)
      go_ret
      exact ⟨rfl, ((Below.refl _ _).alloc (Nat.le_refl _) _).trans (hb.mono (by simp))⟩
    · have e : truthI 1 n b s = n := by unfold truthI; simp [hr]
      rw [e]; clear e
      go_enter Tryd.func35, Tryd.ntmps35
      go_wp2_with (go_at_call 34; refine (right_any _ _ _ _ _).mono ?_; rintro e w' ⟨rfl, hb⟩; obtain ⟨hc, hf⟩ := bcell hb)
      go_ret
      exact ⟨rfl, ((Below.refl _ _).alloc (Nat.le_refl _) _).trans (hb.mono (by simp))⟩
  · have e : truthI k n b s = -1 := by unfold truthI; simp [hk]
    have hk' : (k != 1) = true := by simpa using hk
    rw [e]; clear e hk
    go_enter Tryd.func35, Tryd.ntmps35
    go_wp2_with fail
    go_ret
    exact ⟨rfl, (Below.refl _ _).alloc (Nat.le_refl _) _⟩
def sameB (k n : Int) (b : Nat) (s : ByteArray) (k' n' : Int) (b' : Nat) (s' : ByteArray) : Bool := eqV k n b s k' n' b' s' && rightB k n b s
set_option maxRecDepth 100000 in
set_option maxHeartbeats 1000000 in
theorem same_any (k n : Int) (b : Nat) (s : ByteArray) (k' n' : Int) (b' : Nat) (s' : ByteArray) (w : World) :
    Calls Tryd.prog 33 #[.agg #[.int .i64 k, .int .i64 n, .int .u64 b, .string s], .agg #[.int .i64 k', .int .i64 n', .int .u64 b', .string s']] w fun e w' => e = .returned (.bool (sameB k n b s k' n' b' s')) ∧ Below w.heap.size w w' := by
  unfold sameB
  cases he : eqV k n b s k' n' b' s'
  · go_enter Tryd.func33, Tryd.ntmps33
    go_wp2_with fail
    go_ret
    exact ⟨rfl, ((Below.refl _ _).alloc (Nat.le_refl _) _).alloc (by simp) _⟩
  · go_enter Tryd.func33, Tryd.ntmps33
    go_wp2_with (go_at_call 34; refine (right_any _ _ _ _ _).mono ?_; rintro e w' ⟨rfl, hb⟩; obtain ⟨hc, hf⟩ := bcell hb)
    go_ret
    exact ⟨ret_bool (by simp), (((Below.refl _ _).alloc (Nat.le_refl _) _).alloc (by simp) _).trans (hb.mono (by simp; omega))⟩
/-- Go's order of two whole numbers. -/
def cmpI (a b : Int) : Int := if a < b then -1 else if b < a then 1 else 0
set_option maxHeartbeats 1000000 in
theorem cmpint_any (a b : Int) (w : World) :
    Calls Tryd.prog 59 #[.int .i64 a, .int .i64 b] w fun e w' => e = .returned (.int .i64 (cmpI a b)) ∧ w = w' := by
  rcases Int.lt_trichotomy a b with h | h | h
  · have e : cmpI a b = -1 := by unfold cmpI; rw [if_pos h]
    rw [e]; clear e
    go_enter Tryd.func59, Tryd.ntmps59
    go_wp2
    go_ret
    exact ⟨rfl, rfl⟩
  · have e : cmpI a b = 0 := by unfold cmpI; rw [if_neg (by omega), if_neg (by omega)]
    rw [e]; clear e
    subst h
    go_enter Tryd.func59, Tryd.ntmps59
    go_wp2
    go_ret
    exact ⟨rfl, rfl⟩
  · have e : cmpI a b = 1 := by unfold cmpI; rw [if_neg (by omega), if_pos h]
    have h' : ¬ a < b := by omega
    rw [e]; clear e
    go_enter Tryd.func59, Tryd.ntmps59
    go_wp2
    go_ret
    exact ⟨rfl, rfl⟩
/-- Go's order of two strings. -/
def cmpS (s t : ByteArray) : Int := if Op.bytesLess s.toList t.toList = true then -1 else if s.toList = t.toList then 0 else 1
set_option maxHeartbeats 1000000 in
theorem cmpstr_any (s t : ByteArray) (w : World) :
    Calls Tryd.prog 61 #[.string s, .string t] w fun e w' => e = .returned (.int .i64 (cmpS s t)) ∧ w = w' := by
  go_enter Tryd.func61, Tryd.ntmps61
  go_wp2
  all_goals
    go_ret
    refine ⟨ret_int ?_, rfl⟩
    simp_all [cmpS]
/-- The order of two doubles, what is no number above all. -/
def cmpF (n m : Nat) : Int := if Flo.nanB n = true then (if Flo.nanB m = true then 0 else 1) else if Flo.nanB m = true then -1 else cmpI (Flo.key n) (Flo.key m)
theorem order_num {n m : Nat} (hn : Flo.nanB n = false) (hm : Flo.nanB m = false) : FloatKind.f64.format.order n m = some (compare (Flo.key n) (Flo.key m)) := by
  show Ieee.double.order n m = _
  rw [Flo.order_eq, hn, hm]; rfl
set_option maxHeartbeats 1000000 in
theorem cmpfloat_any (n m : Nat) (w : World) :
    Calls Tryd.prog 60 #[.float .f64 n, .float .f64 m] w fun e w' => e = .returned (.int .i64 (cmpF n m)) ∧ w = w' := by
  cases hn : Flo.nanB n
  · cases hm : Flo.nanB m
    · have ho := order_num hn hm
      have hlt : ∀ p q : Int, p < q → compare p q = .lt := fun p q h => by
        show compareOfLessAndEq p q = _; unfold compareOfLessAndEq; rw [if_pos h]
      have hgt : ∀ p q : Int, q < p → compare p q = .gt := fun p q h => by
        show compareOfLessAndEq p q = _; unfold compareOfLessAndEq; rw [if_neg (by omega), if_neg (by omega)]
      have heq : ∀ p q : Int, p = q → compare p q = .eq := fun p q h => by
        show compareOfLessAndEq p q = _; unfold compareOfLessAndEq; rw [if_neg (by omega), if_pos h]
      have e : cmpF n m = cmpI (Flo.key n) (Flo.key m) := by unfold cmpF; simp [hn, hm]
      rw [e]; clear e
      unfold cmpI
      rcases Int.lt_trichotomy (Flo.key n) (Flo.key m) with h | h | h
      · rw [if_pos h]
        rw [hlt _ _ h] at ho
        have h1 : (FloatKind.f64.format.order n m == some Ordering.lt) = true := by rw [ho]; rfl
        clear ho hlt hgt heq h
        go_enter Tryd.func60, Tryd.ntmps60
        go_wp2_with (go_at_call 51; refine (isnan_any _ _).mono ?_; rintro e w' ⟨rfl, rfl⟩)
        go_ret
        exact ⟨rfl, rfl⟩
      · rw [if_neg (by omega), if_neg (by omega)]
        rw [heq _ _ h] at ho
        have h1 : (FloatKind.f64.format.order n m == some Ordering.lt) = false := by rw [ho]; rfl
        have h2 : (FloatKind.f64.format.order n m == some Ordering.gt) = false := by rw [ho]; rfl
        clear ho hlt hgt heq h
        go_enter Tryd.func60, Tryd.ntmps60
        go_wp2_with (go_at_call 51; refine (isnan_any _ _).mono ?_; rintro e w' ⟨rfl, rfl⟩)
        go_ret
        exact ⟨rfl, rfl⟩
      · rw [if_neg (by omega), if_pos h]
        rw [hgt _ _ h] at ho
        have h1 : (FloatKind.f64.format.order n m == some Ordering.lt) = false := by rw [ho]; rfl
        have h2 : (FloatKind.f64.format.order n m == some Ordering.gt) = true := by rw [ho]; rfl
        clear ho hlt hgt heq h
        go_enter Tryd.func60, Tryd.ntmps60
        go_wp2_with (go_at_call 51; refine (isnan_any _ _).mono ?_; rintro e w' ⟨rfl, rfl⟩)
        go_ret
        exact ⟨rfl, rfl⟩
    · have e : cmpF n m = -1 := by unfold cmpF; simp [hn, hm]
      rw [e]; clear e
      go_enter Tryd.func60, Tryd.ntmps60
      go_wp2_with (go_at_call 51; refine (isnan_any _ _).mono ?_; rintro e w' ⟨rfl, rfl⟩)
      go_ret
      exact ⟨rfl, rfl⟩
  · cases hm : Flo.nanB m
    · have e : cmpF n m = 1 := by unfold cmpF; simp [hn, hm]
      rw [e]; clear e
      go_enter Tryd.func60, Tryd.ntmps60
      go_wp2_with (go_at_call 51; refine (isnan_any _ _).mono ?_; rintro e w' ⟨rfl, rfl⟩)
      go_ret
      exact ⟨rfl, rfl⟩
    · have e : cmpF n m = 0 := by unfold cmpF; simp [hn, hm]
      rw [e]; clear e
      go_enter Tryd.func60, Tryd.ntmps60
      go_wp2_with (go_at_call 51; refine (isnan_any _ _).mono ?_; rintro e w' ⟨rfl, rfl⟩)
      go_ret
      exact ⟨rfl, rfl⟩
end Val
end Go.Proofs.YtppdebhcaodcnaaDoor
