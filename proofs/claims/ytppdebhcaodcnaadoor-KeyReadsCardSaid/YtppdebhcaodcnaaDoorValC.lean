/- The contract of Compare. No condition. -/
import Derived.Test.YtppdebhcaodcnaaDoorValB
namespace Go.Proofs.YtppdebhcaodcnaaDoor
open Go.RowKit
namespace Val
/-- What a region that loads two boxed values and makes memory keeps. -/
theorem box2_step {w w1 w' : World} {k n b : Int} {s : ByteArray} {k' n' b' : Int} {s' : ByteArray}
    (h : w1.cell? ⟨w.heap.size, 0, none⟩ = some (.int .i64 k) ∧ w1.cell? ⟨w.heap.size, 1, none⟩ = some (.int .i64 n) ∧ w1.cell? ⟨w.heap.size, 2, none⟩ = some (.int .u64 b) ∧ w1.cell? ⟨w.heap.size, 3, none⟩ = some (.string s) ∧
      w1.cell? ⟨w.heap.size + 1, 0, none⟩ = some (.int .i64 k') ∧ w1.cell? ⟨w.heap.size + 1, 1, none⟩ = some (.int .i64 n') ∧ w1.cell? ⟨w.heap.size + 1, 2, none⟩ = some (.int .u64 b') ∧ w1.cell? ⟨w.heap.size + 1, 3, none⟩ = some (.string s') ∧ Below w.heap.size w w1 ∧ w.heap.size + 1 < w1.heap.size)
    (hb : Below w1.heap.size w1 w') :
    w'.cell? ⟨w.heap.size, 0, none⟩ = some (.int .i64 k) ∧ w'.cell? ⟨w.heap.size, 1, none⟩ = some (.int .i64 n) ∧ w'.cell? ⟨w.heap.size, 2, none⟩ = some (.int .u64 b) ∧ w'.cell? ⟨w.heap.size, 3, none⟩ = some (.string s) ∧
      w'.cell? ⟨w.heap.size + 1, 0, none⟩ = some (.int .i64 k') ∧ w'.cell? ⟨w.heap.size + 1, 1, none⟩ = some (.int .i64 n') ∧ w'.cell? ⟨w.heap.size + 1, 2, none⟩ = some (.int .u64 b') ∧ w'.cell? ⟨w.heap.size + 1, 3, none⟩ = some (.string s') ∧ Below w.heap.size w w' ∧ w.heap.size + 1 < w'.heap.size := by
  obtain ⟨h0, h1, h2, h3, g0, g1, g2, g3, h4, h5⟩ := h
  have h6 : w.heap.size < w1.heap.size := by omega
  exact ⟨by rw [hb.cell h6]; exact h0, by rw [hb.cell h6]; exact h1, by rw [hb.cell h6]; exact h2, by rw [hb.cell h6]; exact h3,
    by rw [hb.cell h5]; exact g0, by rw [hb.cell h5]; exact g1, by rw [hb.cell h5]; exact g2, by rw [hb.cell h5]; exact g3, h4.trans (hb.mono (Nat.le_of_lt h6)), Nat.lt_of_lt_of_le h5 hb.size⟩
def cmpV (k n : Int) (b : Nat) (s : ByteArray) (k' n' : Int) (b' : Nat) (s' : ByteArray) : Int :=
  if rightB k n b s = false then 0 else if rightB k' n' b' s' = false then 0
  else if k ≠ k' then cmpI k k' else if k = 3 then cmpF b b' else if k = 4 ∨ k = 5 then cmpS s s' else cmpI n n'
theorem asF_right {n : Int} {b : Nat} {s : ByteArray} (h : rightB 3 n b s = true) : asF 3 n b s = b := by unfold asF; simp [h]
set_option maxRecDepth 100000 in
set_option maxHeartbeats 2000000 in
theorem compare_wrong (k n : Int) (b : Nat) (s : ByteArray) (k' n' : Int) (b' : Nat) (s' : ByteArray) (w : World) (h : rightB k n b s = false ∨ rightB k' n' b' s' = false) :
    Calls Tryd.prog 32 #[.agg #[.int .i64 k, .int .i64 n, .int .u64 b, .string s], .agg #[.int .i64 k', .int .i64 n', .int .u64 b', .string s']] w fun e w' => e = .returned (.int .i64 0) ∧ Below w.heap.size w w' := by
  cases h1 : rightB k n b s
  · go_enter Tryd.func32, Tryd.ntmps32
    go_wp2_with (go_at_call 34; refine (right_any _ _ _ _ _).mono ?_; rintro e w' ⟨rfl, hb⟩; obtain ⟨hc, hf⟩ := bcell hb)
    go_ret
    exact ⟨rfl, (((Below.refl _ _).alloc (Nat.le_refl _) _).alloc (by simp) _).trans (hb.mono (by simp; omega))⟩
  · have h2 : rightB k' n' b' s' = false := by rcases h with h | h <;> simp_all
    go_enter Tryd.func32, Tryd.ntmps32
    go_wp2_with fail
    refine (right_any _ _ _ _ _).mono ?_
    rintro e w1 ⟨rfl, hb⟩
    obtain ⟨hc, hf⟩ := bcell hb
    go_wp2_with fail
    refine (right_any _ _ _ _ _).mono ?_
    rintro e w2 ⟨rfl, hb2⟩
    go_wp2_with fail
    go_ret
    refine ⟨rfl, ((((Below.refl _ _).alloc (Nat.le_refl _) _).alloc (by simp) _).trans (hb.mono (by simp; omega))).trans (hb2.mono ?_)⟩
    have := hb.size; simp at this; omega
set_option maxRecDepth 100000 in
set_option maxHeartbeats 2000000 in
theorem compare_float (n : Int) (b : Nat) (s : ByteArray) (n' : Int) (b' : Nat) (s' : ByteArray) (w : World) (h1 : rightB 3 n b s = true) (h2 : rightB 3 n' b' s' = true) :
    Calls Tryd.prog 32 #[.agg #[.int .i64 3, .int .i64 n, .int .u64 b, .string s], .agg #[.int .i64 3, .int .i64 n', .int .u64 b', .string s']] w fun e w' => e = .returned (.int .i64 (cmpF b b')) ∧ Below w.heap.size w w' := by
  have e1 : asF 3 n b s = b := asF_right h1
  have e2 : asF 3 n' b' s' = b' := asF_right h2
  have E1 : Hid (asF 3 n b s = b) := e1
  have E2 : Hid (asF 3 n' b' s' = b') := e2
  clear e1 e2
  go_enter Tryd.func32, Tryd.ntmps32
  go_wp2_with fail
  refine (right_any _ _ _ _ _).mono ?_
  rintro e w1 ⟨rfl, hb⟩
  obtain ⟨hc, hf⟩ := bcell hb
  go_wp2_with fail
  refine (right_any _ _ _ _ _).mono ?_
  rintro e w2 ⟨rfl, hb2⟩
  have hz1 : w.heap.size + 1 < w1.heap.size := by have := hb.size; simp at this; omega
  have q : w2.cell? ⟨w.heap.size, 0, none⟩ = some (.int .i64 3) ∧ w2.cell? ⟨w.heap.size, 1, none⟩ = some (.int .i64 n) ∧ w2.cell? ⟨w.heap.size, 2, none⟩ = some (.int .u64 b) ∧ w2.cell? ⟨w.heap.size, 3, none⟩ = some (.string s) ∧
      w2.cell? ⟨w.heap.size + 1, 0, none⟩ = some (.int .i64 3) ∧ w2.cell? ⟨w.heap.size + 1, 1, none⟩ = some (.int .i64 n') ∧ w2.cell? ⟨w.heap.size + 1, 2, none⟩ = some (.int .u64 b') ∧ w2.cell? ⟨w.heap.size + 1, 3, none⟩ = some (.string s') ∧ Below w.heap.size w w2 ∧ w.heap.size + 1 < w2.heap.size := by
    refine box2_step ?_ hb2
    refine ⟨?_, ?_, ?_, ?_, ?_, ?_, ?_, ?_, (((Below.refl _ _).alloc (Nat.le_refl _) _).alloc (by simp) _).trans (hb.mono (by simp; omega)), hz1⟩
    all_goals (rw [hc _ _ (by simp <;> omega)]; go_simp)
  clear hb hc hf hb2 hz1
  obtain ⟨q0, q1, q2, q3, q4, q5, q6, q7, qb, qz⟩ := q
  go_wp2_with fail
  go_region_held3 (fun w' => w'.cell? ⟨w.heap.size, 0, none⟩ = some (.int .i64 3) ∧ w'.cell? ⟨w.heap.size, 1, none⟩ = some (.int .i64 n) ∧ w'.cell? ⟨w.heap.size, 2, none⟩ = some (.int .u64 b) ∧ w'.cell? ⟨w.heap.size, 3, none⟩ = some (.string s) ∧
      w'.cell? ⟨w.heap.size + 1, 0, none⟩ = some (.int .i64 3) ∧ w'.cell? ⟨w.heap.size + 1, 1, none⟩ = some (.int .i64 n') ∧ w'.cell? ⟨w.heap.size + 1, 2, none⟩ = some (.int .u64 b') ∧ w'.cell? ⟨w.heap.size + 1, 3, none⟩ = some (.string s') ∧ Below w.heap.size w w' ∧ w.heap.size + 1 < w'.heap.size)
    (first | (exact box2_step (by assumption) hb) | (exact ⟨q0, q1, q2, q3, q4, q5, q6, q7, qb.drew, qz⟩) | assumption)
    (first | (go_at_call 36; refine (asfloat_any _ _ _ _ _).mono ?_; rintro e w' ⟨rfl, hb⟩) | (go_at_call 60; refine (cmpfloat_any _ _ _).mono ?_; rintro e w' ⟨rfl, rfl⟩))
  go_wp2_with fail
  go_ret
  rename_i hq
  refine ⟨ret_int ?_, hq.2.2.2.2.2.2.2.2.1⟩
  rw [E1.out, E2.out]
set_option maxRecDepth 100000 in
set_option maxHeartbeats 2000000 in
theorem compare_kinds (k n : Int) (b : Nat) (s : ByteArray) (k' n' : Int) (b' : Nat) (s' : ByteArray) (w : World) (h1 : rightB k n b s = true) (h2 : rightB k' n' b' s' = true) (hk : (k != k') = true) :
    Calls Tryd.prog 32 #[.agg #[.int .i64 k, .int .i64 n, .int .u64 b, .string s], .agg #[.int .i64 k', .int .i64 n', .int .u64 b', .string s']] w fun e w' => e = .returned (.int .i64 (cmpI k k')) ∧ Below w.heap.size w w' := by
  go_enter Tryd.func32, Tryd.ntmps32
  go_wp2_with fail
  refine (right_any _ _ _ _ _).mono ?_
  rintro e w1 ⟨rfl, hb⟩
  obtain ⟨hc, hf⟩ := bcell hb
  have hz1 : w.heap.size + 1 < w1.heap.size := by have := hb.size; simp at this; omega
  go_wp2_with fail
  refine (right_any _ _ _ _ _).mono ?_
  rintro e w2 ⟨rfl, hb2⟩
  have q : Below w.heap.size w w2 := ((((Below.refl _ _).alloc (Nat.le_refl _) _).alloc (by simp) _).trans (hb.mono (by simp; omega))).trans (hb2.mono (by omega))
  obtain ⟨hc2, hf2⟩ := bcell hb2
  clear hb hb2 hf hf2
  have q0 : w2.cell? ⟨w.heap.size, 0, none⟩ = some (.int .i64 k) := by rw [hc2 _ _ (by omega), hc _ _ (by simp <;> omega)]; go_simp
  have q1 : w2.cell? ⟨w.heap.size + 1, 0, none⟩ = some (.int .i64 k') := by rw [hc2 _ _ (by omega), hc _ _ (by simp <;> omega)]; go_simp
  clear hc hc2
  go_wp2_with (go_at_call 59; refine (cmpint_any _ _ _).mono ?_; rintro e w' ⟨rfl, rfl⟩)
  go_ret
  exact ⟨rfl, q⟩
set_option maxRecDepth 100000 in
set_option maxHeartbeats 2000000 in
theorem compare_same (k n : Int) (b : Nat) (s : ByteArray) (n' : Int) (b' : Nat) (s' : ByteArray) (w : World) (h1 : rightB k n b s = true) (h2 : rightB k n' b' s' = true) (h3 : (k == 3) = false) :
    Calls Tryd.prog 32 #[.agg #[.int .i64 k, .int .i64 n, .int .u64 b, .string s], .agg #[.int .i64 k, .int .i64 n', .int .u64 b', .string s']] w fun e w' => e = .returned (.int .i64 (if (k == 4 || k == 5) = true then cmpS s s' else cmpI n n')) ∧ Below w.heap.size w w' := by
  cases h45 : (k == 4 || k == 5)
  · have h4 : (k == 4) = false := by cases g : (k == 4) <;> simp_all
    have h5 : (k == 5) = false := by cases g : (k == 5) <;> simp_all
    clear h45
    go_enter Tryd.func32, Tryd.ntmps32
    go_wp2_with fail
    refine (right_any _ _ _ _ _).mono ?_
    rintro e w1 ⟨rfl, hb⟩
    obtain ⟨hc, hf⟩ := bcell hb
    have hz1 : w.heap.size + 1 < w1.heap.size := by have := hb.size; simp at this; omega
    go_wp2_with fail
    refine (right_any _ _ _ _ _).mono ?_
    rintro e w2 ⟨rfl, hb2⟩
    have q : Below w.heap.size w w2 := ((((Below.refl _ _).alloc (Nat.le_refl _) _).alloc (by simp) _).trans (hb.mono (by simp; omega))).trans (hb2.mono (by omega))
    obtain ⟨hc2, hf2⟩ := bcell hb2
    clear hb hb2 hf hf2
    have q0 : w2.cell? ⟨w.heap.size, 0, none⟩ = some (.int .i64 k) := by rw [hc2 _ _ (by omega), hc _ _ (by simp <;> omega)]; go_simp
    have q1 : w2.cell? ⟨w.heap.size + 1, 0, none⟩ = some (.int .i64 k) := by rw [hc2 _ _ (by omega), hc _ _ (by simp <;> omega)]; go_simp
    have q2 : w2.cell? ⟨w.heap.size, 1, none⟩ = some (.int .i64 n) := by rw [hc2 _ _ (by omega), hc _ _ (by simp <;> omega)]; go_simp
    have q3 : w2.cell? ⟨w.heap.size + 1, 1, none⟩ = some (.int .i64 n') := by rw [hc2 _ _ (by omega), hc _ _ (by simp <;> omega)]; go_simp
    clear hc hc2
    go_wp2_with (go_at_call 59; refine (cmpint_any _ _ _).mono ?_; rintro e w' ⟨rfl, rfl⟩)
    go_ret
    exact ⟨rfl, q⟩
  · go_enter Tryd.func32, Tryd.ntmps32
    go_wp2_with fail
    refine (right_any _ _ _ _ _).mono ?_
    rintro e w1 ⟨rfl, hb⟩
    obtain ⟨hc, hf⟩ := bcell hb
    have hz1 : w.heap.size + 1 < w1.heap.size := by have := hb.size; simp at this; omega
    go_wp2_with fail
    refine (right_any _ _ _ _ _).mono ?_
    rintro e w2 ⟨rfl, hb2⟩
    have q : Below w.heap.size w w2 := ((((Below.refl _ _).alloc (Nat.le_refl _) _).alloc (by simp) _).trans (hb.mono (by simp; omega))).trans (hb2.mono (by omega))
    obtain ⟨hc2, hf2⟩ := bcell hb2
    clear hb hb2 hf hf2
    have q0 : w2.cell? ⟨w.heap.size, 0, none⟩ = some (.int .i64 k) := by rw [hc2 _ _ (by omega), hc _ _ (by simp <;> omega)]; go_simp
    have q1 : w2.cell? ⟨w.heap.size + 1, 0, none⟩ = some (.int .i64 k) := by rw [hc2 _ _ (by omega), hc _ _ (by simp <;> omega)]; go_simp
    have q2 : w2.cell? ⟨w.heap.size, 3, none⟩ = some (.string s) := by rw [hc2 _ _ (by omega), hc _ _ (by simp <;> omega)]; go_simp
    have q3 : w2.cell? ⟨w.heap.size + 1, 3, none⟩ = some (.string s') := by rw [hc2 _ _ (by omega), hc _ _ (by simp <;> omega)]; go_simp
    clear hc hc2
    cases h4 : (k == 4)
    · have h5 : (k == 5) = true := by cases g : (k == 5) <;> simp_all
      clear h45
      go_wp2_with (go_at_call 61; refine (cmpstr_any _ _ _).mono ?_; rintro e w' ⟨rfl, rfl⟩)
      go_ret
      exact ⟨rfl, q⟩
    · clear h45
      go_wp2_with (go_at_call 61; refine (cmpstr_any _ _ _).mono ?_; rintro e w' ⟨rfl, rfl⟩)
      go_ret
      exact ⟨rfl, q⟩
theorem compare_any (k n : Int) (b : Nat) (s : ByteArray) (k' n' : Int) (b' : Nat) (s' : ByteArray) (w : World) :
    Calls Tryd.prog 32 #[.agg #[.int .i64 k, .int .i64 n, .int .u64 b, .string s], .agg #[.int .i64 k', .int .i64 n', .int .u64 b', .string s']] w fun e w' => e = .returned (.int .i64 (cmpV k n b s k' n' b' s')) ∧ Below w.heap.size w w' := by
  cases h1 : rightB k n b s
  · have e : cmpV k n b s k' n' b' s' = 0 := by unfold cmpV; simp [h1]
    rw [e]; exact compare_wrong k n b s k' n' b' s' w (Or.inl h1)
  · cases h2 : rightB k' n' b' s'
    · have e : cmpV k n b s k' n' b' s' = 0 := by unfold cmpV; simp [h1, h2]
      rw [e]; exact compare_wrong k n b s k' n' b' s' w (Or.inr h2)
    · by_cases hk : k = k'
      · subst hk
        by_cases h3 : k = 3
        · subst h3
          have e : cmpV 3 n b s 3 n' b' s' = cmpF b b' := by unfold cmpV; simp [h1, h2]
          rw [e]; exact compare_float n b s n' b' s' w h1 h2
        · have e : cmpV k n b s k n' b' s' = (if (k == 4 || k == 5) = true then cmpS s s' else cmpI n n') := by unfold cmpV; simp [h1, h2, h3]
          rw [e]; exact compare_same k n b s n' b' s' w h1 h2 (by simpa using h3)
      · have e : cmpV k n b s k' n' b' s' = cmpI k k' := by unfold cmpV; simp [h1, h2, hk]
        rw [e]; exact compare_kinds k n b s k' n' b' s' w h1 h2 (by simpa using hk)
end Val
end Go.Proofs.YtppdebhcaodcnaaDoor
