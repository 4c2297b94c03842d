/- schema.holds, Fits. Conditions: names are at most 2^48 bytes; there are at most a million columns; a value's number is below 2^64. -/
import Derived.Test.YtopmbhpjdmcabaaJp
import Derived.Test.YtopmbhpjdmcabaaJf
namespace Go.Proofs.Ytopmbhpjdmcabaa
open Go.RowKit
namespace Sch
open Cod
theorem vright_is {v : V} {b : Bool} (h : v.right = b) (w : World) :
    Calls Try.prog 61 #[.agg #[.int .i64 v.k, .int .i64 v.n, .int .u64 v.b, .string (S v.s)]] w fun e w' => e = .returned (.bool b) ∧ Below w.heap.size w w' := h ▸ Val.right_any v.k v.n v.b (S v.s) w
set_option maxHeartbeats 4000000 in
set_option maxRecDepth 100000 in
theorem holds_any (nm : List UInt8) (k : Int) (nd : Bool) (v : V) (w : World) :
    Calls Try.prog 32 #[.agg #[.string (S nm), .int .i64 k, .bool nd], .agg #[.int .i64 v.k, .int .i64 v.n, .int .u64 v.b, .string (S v.s)]] w fun e w' => e = .returned (.bool (holdsB ⟨nm, k, nd⟩ v)) ∧ Below w.heap.size w w' := by
  have hb0 : Below w.heap.size w ((w.alloc (.cells #[.string (S nm), .int .i64 k, .bool nd] 58)).alloc (.cells #[.int .i64 v.k, .int .i64 v.n, .int .u64 v.b, .string (S v.s)] 33)) := ((Below.refl _ _).alloc (Nat.le_refl _) _).alloc (by simp) _
  obtain ⟨vk, hvk⟩ : ∃ k, k = v.k := ⟨_, rfl⟩
  obtain ⟨F, hF⟩ : ∃ F, F = holdsB ⟨nm, k, nd⟩ v := ⟨_, rfl⟩
  rw [← hF]
  unfold holdsB at hF
  rw [← hvk] at hF
  rcases hr : v.right with _ | _
  · have HC := hidm hr
    have HFF := hidm (show F = false from by rw [hF, hr]; rfl)
    clear hF hr hvk
    go_enter Try.func32, Try.ntmps32
    go_wp2_with (go_at_call 61; refine (vright_is HC.out _).mono ?_; rintro e w1 ⟨rfl, hb1⟩; obtain ⟨hc1, hf1⟩ := Val.bcell hb1)
    go_ret
    exact ⟨Val.ret_bool HFF.out.symm, hb0.trans (hb1.mono (by simp; omega))⟩
  · have HC := hidm hr
    rw [hr, Bool.true_and] at hF
    by_cases e1 : vk = k
    · have HFF := hidm (show F = true from by rw [hF, decide_eq_true e1]; rfl)
      have d1 : (v.k == k) = true := by rw [← hvk]; simpa using e1
      clear hF hr e1 hvk
      go_enter Try.func32, Try.ntmps32
      go_wp2_with (go_at_call 61; refine (vright_is HC.out _).mono ?_; rintro e w1 ⟨rfl, hb1⟩; obtain ⟨hc1, hf1⟩ := Val.bcell hb1)
      go_ret
      exact ⟨Val.ret_bool HFF.out.symm, hb0.trans (hb1.mono (by simp; omega))⟩
    · have d1 : (v.k == k) = false := by rw [← hvk]; simpa using e1
      by_cases e0 : vk = 0
      · have d0 : (v.k == 0) = true := by rw [← hvk]; simpa using e0
        rcases nd with _ | _
        · have HFF := hidm (show F = true from by rw [hF, decide_eq_true e0]; simp)
          clear hF hr e1 e0 hvk
          go_enter Try.func32, Try.ntmps32
          go_wp2_with (go_at_call 61; refine (vright_is HC.out _).mono ?_; rintro e w1 ⟨rfl, hb1⟩; obtain ⟨hc1, hf1⟩ := Val.bcell hb1)
          go_ret
          exact ⟨Val.ret_bool HFF.out.symm, hb0.trans (hb1.mono (by simp; omega))⟩
        · have HFF := hidm (show F = false from by rw [hF, decide_eq_false e1]; simp)
          clear hF hr e1 e0 hvk
          go_enter Try.func32, Try.ntmps32
          go_wp2_with (go_at_call 61; refine (vright_is HC.out _).mono ?_; rintro e w1 ⟨rfl, hb1⟩; obtain ⟨hc1, hf1⟩ := Val.bcell hb1)
          go_ret
          exact ⟨Val.ret_bool HFF.out.symm, hb0.trans (hb1.mono (by simp; omega))⟩
      · have d0 : (v.k == 0) = false := by rw [← hvk]; simpa using e0
        have HFF := hidm (show F = false from by rw [hF, decide_eq_false e1, decide_eq_false e0]; rfl)
        clear hF hr e1 e0 hvk
        go_enter Try.func32, Try.ntmps32
        go_wp2_with (go_at_call 61; refine (vright_is HC.out _).mono ?_; rintro e w1 ⟨rfl, hb1⟩; obtain ⟨hc1, hf1⟩ := Val.bcell hb1)
        go_ret
        exact ⟨Val.ret_bool HFF.out.symm, hb0.trans (hb1.mono (by simp; omega))⟩
theorem holds_is {nm : List UInt8} {k : Int} {nd : Bool} {v : V} {b : Bool} (h : holdsB ⟨nm, k, nd⟩ v = b) (w : World) :
    Calls Try.prog 32 #[.agg #[.string (S nm), .int .i64 k, .bool nd], .agg #[.int .i64 v.k, .int .i64 v.n, .int .u64 v.b, .string (S v.s)]] w fun e w' => e = .returned (.bool b) ∧ Below w.heap.size w w' := h ▸ holds_any nm k nd v w
end Sch
end Go.Proofs.Ytopmbhpjdmcabaa
