/- Some column of a slice, by a function: slices.IndexFunc, ContainsFunc; hasName; slices.Equal of columns; schema.Same. Condition: a slice has at most 2^48 columns. -/
import Derived.Test.YtopmbhpjdmcabaaJc
namespace Go.Proofs.Ytopmbhpjdmcabaa
open Go.RowKit
namespace Sch
open Cod
def IdxP (b : Bool) (w : World) (e : Ending) (w' : World) : Prop := ∃ r : Int, e = .returned (.int .i64 r) ∧ decide (0 ≤ r) = b ∧ Below w.heap.size w w'
theorem any_take_succ {cs : List C} {p : C → Bool} {i : Nat} (hi : i < cs.length) : (cs.take (i + 1)).any p = ((cs.take i).any p || p cs[i]) := by
  rw [List.take_succ_eq_append_getElem hi, List.any_append]; simp
theorem any_at {cs : List C} {p : C → Bool} {i : Nat} (hi : i < cs.length) (h : p cs[i] = true) : cs.any p = true := List.any_eq_true.2 ⟨_, List.getElem_mem hi, h⟩
theorem needs_is {c : C} {b : Bool} (h : C.nd c = b) (w : World) : Calls Try.prog 58 #[.agg #[.string (S c.nm), .int .i64 c.k, .bool c.nd]] w fun e w' => e = .returned (.bool b) ∧ Below w.heap.size w w' := h ▸ needs_any c w
theorem thename_is {c : C} {n : List UInt8} {b : Bool} (h : decide (c.nm = n) = b) (a : Nat) (w : World) (hn : w.cell? ⟨a, 0, none⟩ = some (.string (S n))) :
    Calls Try.prog 74 #[.agg #[.string (S c.nm), .int .i64 c.k, .bool c.nd], .pointer (some ⟨a, 0, none⟩)] w fun e w' => e = .returned (.bool b) ∧ Below w.heap.size w w' := h ▸ thename_any c n a w hn
set_option maxHeartbeats 1000000 in
set_option maxRecDepth 100000 in
theorem idx_nd (cs : List C) (sl : Value) (w : World) (h : ColsAt cs sl w) :
    Calls Try.prog 75 #[sl, .func (.func 58) #[] #[]] w fun e w' => IdxP (cs.any (fun c => c.nd)) w e w' := by
  obtain ⟨ao, cap, rfl, hcl, hcm⟩ := h.form
  have H := hidm h
  clear h
  obtain ⟨n, hn⟩ : ∃ n, n = cs.length := ⟨_, rfl⟩
  obtain ⟨F, hF⟩ : ∃ F, F = cs.any (fun c => c.nd) := ⟨_, rfl⟩
  rw [← hF]
  rw [← hn] at hcl ⊢
  have HN := hidm hn
  have HF := hidm hF
  clear hn hF
  go_enter Try.func75, Try.ntmps75
  go_wp2_with fail
  go_loopw [8] (fun v wr => ∃ i : Nat, i ≤ n ∧ v = .int .i64 i ∧ Hid (Below w.heap.size w wr) ∧ Hid ((cs.take i).any (fun c => c.nd) = false)) (fun v _ => n - (intOf v).toNat)
  case atStart => exact ⟨0, by omega, rfl, hidm (Below.refl _ _), hidm (by simp)⟩
  case round =>
    obtain ⟨i, hi, rfl, HB, HP⟩ := hrel
    rcases Nat.lt_or_ge i n with hlt | hge
    · have hia : i < cs.length := by have := HN.out; omega
      obtain ⟨b1, o1, c1, he1, _, q0, q1, q2⟩ := (H.out.later HB.out).at i hia
      simp only [Value.slice.injEq] at he1
      obtain ⟨rfl, _, rfl⟩ := he1
      obtain ⟨x, hx⟩ : ∃ x, x = cs[i] := ⟨_, rfl⟩
      rw [← hx] at q0 q1 q2
      have HX := hidm hx
      clear hx
      rcases hp : (fun c => c.nd) x with _ | _
      · have HP2 := hidm (show (cs.take (i + 1)).any (fun c => c.nd) = false from by rw [any_take_succ hia, HP.out, ← HX.out, Bool.false_or]; exact hp)
        have HC := hidm hp
        clear hp
        go_wp2_with (go_at_call 58; refine (needs_is HC.out _).mono ?_; rintro e w1 ⟨rfl, hb1⟩)
        have HB2 := hidm (HB.out.trans (hb1.mono HB.out.size))
        clear hb1
        go_wp2_with fail
        go_roundw
        case rel => exact ⟨i + 1, by omega, by go_num, HB2, HP2⟩
        case measure => simp [intOf]; omega
      · have HFt := hidm (show F = true from by rw [HF.out]; exact any_at hia (by rw [← HX.out]; exact hp))
        have HC := hidm hp
        clear hp
        go_wp2_with (go_at_call 58; refine (needs_is HC.out _).mono ?_; rintro e w1 ⟨rfl, hb1⟩)
        have HB2 := hidm (HB.out.trans (hb1.mono HB.out.size))
        clear hb1
        go_wp2_with fail
        go_ret
        exact ⟨_, rfl, by rw [HFt.out]; simp, HB2.out⟩
    · obtain rfl : i = n := by omega
      have HFf := hidm (show F = false from by rw [HF.out]; have := HP.out; rwa [HN.out, List.take_length] at this)
      go_wp2_with fail
      go_ret
      exact ⟨_, rfl, by rw [HFf.out]; rfl, HB.out⟩
theorem some_nd (cs : List C) (sl : Value) (w : World) (h : ColsAt cs sl w) :
    Calls Try.prog 57 #[sl, .func (.func 58) #[] #[]] w fun e w' => e = .returned (.bool (cs.any (fun c => c.nd))) ∧ Below w.heap.size w w' := by
  have I := idx_nd cs sl w h
  obtain ⟨F, hF⟩ : ∃ F, F = cs.any (fun c => c.nd) := ⟨_, rfl⟩
  rw [← hF] at I ⊢
  obtain ⟨ao, cap, rfl, _, _⟩ := h.form
  clear hF h
  go_enter Try.func57, Try.ntmps57
  go_wp2_with fail
  refine I.mono ?_
  rintro e w1 ⟨r, rfl, hr, hb⟩
  have HB := hidm hb
  have HR := hidm hr
  clear hb hr I
  go_wp2_with fail
  go_ret
  exact ⟨Val.ret_bool (by rw [← HR.out]), HB.out⟩
set_option maxHeartbeats 1000000 in
set_option maxRecDepth 100000 in
theorem idx_nm (n0 : List UInt8) (a : Nat) (cs : List C) (sl : Value) (w : World) (h : ColsAt cs sl w) (ha : w.cell? ⟨a, 0, none⟩ = some (.string (S n0))) :
    Calls Try.prog 75 #[sl, .func (.func 74) #[] #[.pointer (some ⟨a, 0, none⟩)]] w fun e w' => IdxP (cs.any (fun d => decide (d.nm = n0))) w e w' := by
  obtain ⟨ao, cap, rfl, hcl, hcm⟩ := h.form
  have H := hidm h
  clear h
  obtain ⟨n, hn⟩ : ∃ n, n = cs.length := ⟨_, rfl⟩
  obtain ⟨F, hF⟩ : ∃ F, F = cs.any (fun d => decide (d.nm = n0)) := ⟨_, rfl⟩
  rw [← hF]
  rw [← hn] at hcl ⊢
  have HN := hidm hn
  have HF := hidm hF
  clear hn hF
  go_enter Try.func75, Try.ntmps75
  go_wp2_with fail
  go_loopw [8] (fun v wr => ∃ i : Nat, i ≤ n ∧ v = .int .i64 i ∧ Hid (Below w.heap.size w wr) ∧ Hid ((cs.take i).any (fun d => decide (d.nm = n0)) = false)) (fun v _ => n - (intOf v).toNat)
  case atStart => exact ⟨0, by omega, rfl, hidm (Below.refl _ _), hidm (by simp)⟩
  case round =>
    obtain ⟨i, hi, rfl, HB, HP⟩ := hrel
    rcases Nat.lt_or_ge i n with hlt | hge
    · have hia : i < cs.length := by have := HN.out; omega
      obtain ⟨b1, o1, c1, he1, _, q0, q1, q2⟩ := (H.out.later HB.out).at i hia
      simp only [Value.slice.injEq] at he1
      obtain ⟨rfl, _, rfl⟩ := he1
      obtain ⟨x, hx⟩ : ∃ x, x = cs[i] := ⟨_, rfl⟩
      rw [← hx] at q0 q1 q2
      have HX := hidm hx
      clear hx
      have HA := hidm (cell_later HB.out ha)
      rcases hp : (fun d => decide (d.nm = n0)) x with _ | _
      · have HP2 := hidm (show (cs.take (i + 1)).any (fun d => decide (d.nm = n0)) = false from by rw [any_take_succ hia, HP.out, ← HX.out, Bool.false_or]; exact hp)
        have HC := hidm hp
        clear hp
        go_wp2_with (go_at_call 74; refine (thename_is HC.out a _ HA.out).mono ?_; rintro e w1 ⟨rfl, hb1⟩)
        have HB2 := hidm (HB.out.trans (hb1.mono HB.out.size))
        clear hb1
        go_wp2_with fail
        go_roundw
        case rel => exact ⟨i + 1, by omega, by go_num, HB2, HP2⟩
        case measure => simp [intOf]; omega
      · have HFt := hidm (show F = true from by rw [HF.out]; exact any_at hia (by rw [← HX.out]; exact hp))
        have HC := hidm hp
        clear hp
        go_wp2_with (go_at_call 74; refine (thename_is HC.out a _ HA.out).mono ?_; rintro e w1 ⟨rfl, hb1⟩)
        have HB2 := hidm (HB.out.trans (hb1.mono HB.out.size))
        clear hb1
        go_wp2_with fail
        go_ret
        exact ⟨_, rfl, by rw [HFt.out]; simp, HB2.out⟩
    · obtain rfl : i = n := by omega
      have HFf := hidm (show F = false from by rw [HF.out]; have := HP.out; rwa [HN.out, List.take_length] at this)
      go_wp2_with fail
      go_ret
      exact ⟨_, rfl, by rw [HFf.out]; rfl, HB.out⟩
theorem some_nm (n0 : List UInt8) (a : Nat) (cs : List C) (sl : Value) (w : World) (h : ColsAt cs sl w) (ha : w.cell? ⟨a, 0, none⟩ = some (.string (S n0))) :
    Calls Try.prog 57 #[sl, .func (.func 74) #[] #[.pointer (some ⟨a, 0, none⟩)]] w fun e w' => e = .returned (.bool (cs.any (fun d => decide (d.nm = n0)))) ∧ Below w.heap.size w w' := by
  have I := idx_nm n0 a cs sl w h ha
  obtain ⟨F, hF⟩ : ∃ F, F = cs.any (fun d => decide (d.nm = n0)) := ⟨_, rfl⟩
  rw [← hF] at I ⊢
  obtain ⟨ao, cap, rfl, _, _⟩ := h.form
  clear hF h
  go_enter Try.func57, Try.ntmps57
  go_wp2_with fail
  refine I.mono ?_
  rintro e w1 ⟨r, rfl, hr, hb⟩
  have HB := hidm hb
  have HR := hidm hr
  clear hb hr I
  go_wp2_with fail
  go_ret
  exact ⟨Val.ret_bool (by rw [← HR.out]), HB.out⟩
theorem hasname_any (cs : List C) (sl : Value) (n : List UInt8) (w : World) (h : ColsAt cs sl w) :
    Calls Try.prog 54 #[sl, .string (S n)] w fun e w' => e = .returned (.bool (hasB cs n)) ∧ Below w.heap.size w w' := by
  have hb0 : Below w.heap.size w (w.alloc (.cells #[.string (S n)] 9)) := (Below.refl _ _).alloc (Nat.le_refl _) _
  have I := some_nm n w.heap.size cs sl (w.alloc (.cells #[.string (S n)] 9)) (h.later hb0) (by simp [go_sem])
  have HB0 := hidm hb0
  obtain ⟨F, hF⟩ : ∃ F, F = hasB cs n := ⟨_, rfl⟩
  rw [show (cs.any fun d => decide (d.nm = n)) = F from hF.symm] at I
  rw [← hF]
  obtain ⟨ao, cap, rfl, _, _⟩ := h.form
  clear hF h hb0
  go_enter Try.func54, Try.ntmps54
  go_wp2_with fail
  refine I.mono ?_
  rintro e w1 ⟨rfl, hb⟩
  have HB := hidm (HB0.out.trans (hb.mono (by simp)))
  clear hb I
  go_wp2_with fail
  go_ret
  exact ⟨rfl, HB.out⟩
end Sch
end Go.Proofs.Ytopmbhpjdmcabaa
