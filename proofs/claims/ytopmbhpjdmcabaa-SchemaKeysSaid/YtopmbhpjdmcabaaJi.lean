/- schema.Fits. Conditions: names are at most 2^48 bytes; there are at most a million columns, and values. -/
import Derived.Test.YtopmbhpjdmcabaaJh
import Derived.Test.YtopmbhpjdmcabaaJg
namespace Go.Proofs.Ytopmbhpjdmcabaa
open Go.RowKit
namespace Sch
open Cod
theorem fits_step {w wr : World} {b1 o1 i n cap : Nat} {x : C} {v : V} {w1 w' : World} (h : w1.cell? ⟨w.heap.size, 1, none⟩ = some (.slice (some ⟨b1, o1, none⟩) n cap) ∧ w1.cell? ⟨b1, o1 + i * 3, none⟩ = some (.string (S x.nm)) ∧ w1.cell? ⟨b1, o1 + i * 3 + 1, none⟩ = some (.int .i64 x.k) ∧ w1.cell? ⟨b1, o1 + i * 3 + 2, none⟩ = some (.bool x.nd) ∧ w1.cell? ⟨wr.heap.size, 0, none⟩ = some (.int .i64 v.k) ∧ w1.cell? ⟨wr.heap.size, 1, none⟩ = some (.int .i64 v.n) ∧ w1.cell? ⟨wr.heap.size, 2, none⟩ = some (.int .u64 v.b) ∧ w1.cell? ⟨wr.heap.size, 3, none⟩ = some (.string (S v.s)) ∧ Below wr.heap.size wr w1 ∧ wr.heap.size ≤ w1.heap.size) (hb : Below w1.heap.size w1 w') : w'.cell? ⟨w.heap.size, 1, none⟩ = some (.slice (some ⟨b1, o1, none⟩) n cap) ∧ w'.cell? ⟨b1, o1 + i * 3, none⟩ = some (.string (S x.nm)) ∧ w'.cell? ⟨b1, o1 + i * 3 + 1, none⟩ = some (.int .i64 x.k) ∧ w'.cell? ⟨b1, o1 + i * 3 + 2, none⟩ = some (.bool x.nd) ∧ w'.cell? ⟨wr.heap.size, 0, none⟩ = some (.int .i64 v.k) ∧ w'.cell? ⟨wr.heap.size, 1, none⟩ = some (.int .i64 v.n) ∧ w'.cell? ⟨wr.heap.size, 2, none⟩ = some (.int .u64 v.b) ∧ w'.cell? ⟨wr.heap.size, 3, none⟩ = some (.string (S v.s)) ∧ Below wr.heap.size wr w' ∧ wr.heap.size ≤ w'.heap.size := by
  obtain ⟨c0, c1, c2, c3, c4, c5, c6, c7, hB, hz⟩ := h
  exact ⟨cell_later hb c0, cell_later hb c1, cell_later hb c2, cell_later hb c3, cell_later hb c4, cell_later hb c5, cell_later hb c6, cell_later hb c7, hB.trans (hb.mono hz), Nat.le_trans hz hb.size⟩
theorem ret_i64 {a b : Int} (h : a = b) : Ending.returned (.int .i64 a) = .returned (.int .i64 b) := by rw [h]
set_option maxHeartbeats 4000000 in
set_option maxRecDepth 100000 in
theorem fits_any (s : T) (hl : Lim s) (sl : Value) (r : List V) (rl : Value) (hrn : r.length ≤ 1000000) (w : World) (h : ColsAt s.cols sl w) (hr : RowAt r rl w) :
    Calls Try.prog 11 #[.agg #[.string (S s.nm), sl, .int .i64 s.keys], rl] w fun e w' => e = .returned (.int .i64 (fitsB s r)) ∧ Below w.heap.size w w' := by
  obtain ⟨ao, cap, rfl, hcl, hcm⟩ := h.form
  have H := hidm h
  have HL := hidm hl
  have HS0 := hidm (Boxed.start s ao cap w)
  have hb0 : Below w.heap.size w (w.alloc (.cells #[.string (S s.nm), .slice ao s.cols.length cap, .int .i64 s.keys] 24)) := (Below.refl _ _).alloc (Nat.le_refl _) _
  have H0 := hidm (h.later hb0)
  have HRW := hidm hr
  obtain ⟨ro, rcap, rfl, _⟩ := hr
  obtain ⟨F, hF⟩ : ∃ F, F = fitsB s r := ⟨_, rfl⟩
  rw [← hF]
  have HF := hidm hF
  obtain ⟨n, hn⟩ : ∃ n, n = s.cols.length := ⟨_, rfl⟩
  obtain ⟨m, hm⟩ : ∃ m, m = r.length := ⟨_, rfl⟩
  have HN := hidm hn
  have HM := hidm hm
  have hn6 : n ≤ 1000000 := by have := HL.out.n; omega
  rcases hb : rightB s with _ | _
  · have HFF := hidm (show F = 11 from by rw [HF.out]; exact fits_no_right hb)
    have R := right_is hb hl _ _ H0.out
    clear h hl hb0 hF hb hn hm
    go_enter Try.func11, Try.ntmps11
    go_wp2_with fail
    refine R.mono ?_
    rintro e w1 ⟨rfl, hb1⟩
    have HB1 := hidm (HS0.out.then hb1)
    clear hb1 R
    go_wp2_with fail
    go_ret
    exact ⟨ret_i64 HFF.out.symm, HB1.out.below⟩
  · have HR := hidm hb
    have R := right_is hb hl _ _ H0.out
    rw [← hn] at R hcl ⊢
    rw [← hm] at hrn ⊢
    by_cases hmn : m = n
    · have HMN := hidm hmn
      have f0 : ((m : Int) != (n : Int)) = false := by simp; omega
      clear h hl hb0 hF hb hn hm hmn
      go_enter Try.func11, Try.ntmps11
      go_wp2_with fail
      refine R.mono ?_
      rintro e w1 ⟨rfl, hb1⟩
      have HB1 := hidm (HS0.out.then (by rw [← HN.out]; exact hb1))
      clear hb1 R
      have c1 := HB1.out.c1
      rw [← HN.out] at c1
      go_wp2_with fail
      go_loopw [18] (fun ii wr => ∃ i : Nat, ii = .int .i64 i ∧ i ≤ m ∧ Hid (Boxed s ao cap w wr) ∧ Hid (∀ j, j < i → holdAt s r j = true)) (fun ii _ => (m - (intOf ii).toNat))
      case atStart => exact ⟨0, rfl, by omega, HB1, hidm (fun j hj => by omega)⟩
      case round =>
        clear c1 HB1
        obtain ⟨i, rfl, hi, HB, HP⟩ := hrel
        rcases Nat.lt_or_ge i m with hlt | hge
        · have f1 : (i : Int) < m := by omega
          have f2 : (i : Int) < n := by have := HMN.out; omega
          have hia : i < s.cols.length := by have := HN.out; have := HMN.out; omega
          have hib : i < r.length := by have := HM.out; omega
          obtain ⟨b1, o1, cp, he1, _, q0, q1, q2⟩ := (H.out.later HB.out.below).at i hia
          simp only [Value.slice.injEq] at he1
          obtain ⟨rfl, _, rfl⟩ := he1
          obtain ⟨b2, o2, rp, he2, _, r0, r1, r2, r3⟩ := (HRW.out.later HB.out.below).at i hib
          simp only [Value.slice.injEq] at he2
          obtain ⟨rfl, _, rfl⟩ := he2
          obtain ⟨x, hx⟩ : ∃ x, x = s.cols[i] := ⟨_, rfl⟩
          obtain ⟨v, hv⟩ : ∃ v, v = r[i] := ⟨_, rfl⟩
          rw [← hx] at q0 q1 q2
          rw [← hv] at r0 r1 r2 r3
          have HX := hidm hx
          have HV := hidm hv
          have hat := holdAt_at hia hib
          rw [← hx, ← hv] at hat
          clear hx hv
          have d1 := HB.out.c1
          rw [← HN.out] at d1
          have hbz : Below wr.heap.size wr (wr.alloc (.cells #[.int .i64 v.k, .int .i64 v.n, .int .u64 v.b, .string (S v.s)] 33)) := (Below.refl _ _).alloc (Nat.le_refl _) _
          have SS0 := hidm (show (wr.alloc (.cells #[.int .i64 v.k, .int .i64 v.n, .int .u64 v.b, .string (S v.s)] 33)).cell? ⟨w.heap.size, 1, none⟩ = some (.slice (some ⟨b1, o1, none⟩) n cap) ∧ (wr.alloc (.cells #[.int .i64 v.k, .int .i64 v.n, .int .u64 v.b, .string (S v.s)] 33)).cell? ⟨b1, o1 + i * 3, none⟩ = some (.string (S x.nm)) ∧ (wr.alloc (.cells #[.int .i64 v.k, .int .i64 v.n, .int .u64 v.b, .string (S v.s)] 33)).cell? ⟨b1, o1 + i * 3 + 1, none⟩ = some (.int .i64 x.k) ∧ (wr.alloc (.cells #[.int .i64 v.k, .int .i64 v.n, .int .u64 v.b, .string (S v.s)] 33)).cell? ⟨b1, o1 + i * 3 + 2, none⟩ = some (.bool x.nd) ∧ (wr.alloc (.cells #[.int .i64 v.k, .int .i64 v.n, .int .u64 v.b, .string (S v.s)] 33)).cell? ⟨wr.heap.size, 0, none⟩ = some (.int .i64 v.k) ∧ (wr.alloc (.cells #[.int .i64 v.k, .int .i64 v.n, .int .u64 v.b, .string (S v.s)] 33)).cell? ⟨wr.heap.size, 1, none⟩ = some (.int .i64 v.n) ∧ (wr.alloc (.cells #[.int .i64 v.k, .int .i64 v.n, .int .u64 v.b, .string (S v.s)] 33)).cell? ⟨wr.heap.size, 2, none⟩ = some (.int .u64 v.b) ∧ (wr.alloc (.cells #[.int .i64 v.k, .int .i64 v.n, .int .u64 v.b, .string (S v.s)] 33)).cell? ⟨wr.heap.size, 3, none⟩ = some (.string (S v.s)) ∧ Below wr.heap.size wr (wr.alloc (.cells #[.int .i64 v.k, .int .i64 v.n, .int .u64 v.b, .string (S v.s)] 33)) ∧ wr.heap.size ≤ (wr.alloc (.cells #[.int .i64 v.k, .int .i64 v.n, .int .u64 v.b, .string (S v.s)] 33)).heap.size from ⟨cell_later hbz d1, cell_later hbz q0, cell_later hbz q1, cell_later hbz q2, by simp [go_sem], by simp [go_sem], by simp [go_sem], by simp [go_sem], hbz, hbz.size⟩)
          clear hbz d1 q0 q1 q2
          rcases hh : holdsB x v with _ | _
          · have HFF := hidm (show F = 10 from by rw [HF.out]; exact fits_no HR.out (by have := HN.out; have := HM.out; have := HMN.out; omega) hib (by rw [hat, hh]))
            have HC := hidm hh
            clear hat hh
            go_wp2_with fail
            refine wp_region_held_drew (S := fun u => u.cell? ⟨w.heap.size, 1, none⟩ = some (.slice (some ⟨b1, o1, none⟩) n cap) ∧ u.cell? ⟨b1, o1 + i * 3, none⟩ = some (.string (S x.nm)) ∧ u.cell? ⟨b1, o1 + i * 3 + 1, none⟩ = some (.int .i64 x.k) ∧ u.cell? ⟨b1, o1 + i * 3 + 2, none⟩ = some (.bool x.nd) ∧ u.cell? ⟨wr.heap.size, 0, none⟩ = some (.int .i64 v.k) ∧ u.cell? ⟨wr.heap.size, 1, none⟩ = some (.int .i64 v.n) ∧ u.cell? ⟨wr.heap.size, 2, none⟩ = some (.int .u64 v.b) ∧ u.cell? ⟨wr.heap.size, 3, none⟩ = some (.string (S v.s)) ∧ Below wr.heap.size wr u ∧ wr.heap.size ≤ u.heap.size) (by kernel_rfl) ?_ (fun hHeld => ?_)
            · exact fits_step SS0.out ((Below.refl _ _).drew)
            refine Man.take1 (i := 0) (v := ?_) rfl (by kernel_rfl) (by kernel_rfl) (by kernel_rfl) (fun _ _ _ h => h) (by rfl) ?_ (by assumption) ?_
            rotate_left
            · (intro u hSu; (try dsimp only at hSu); go_simp; (try with_reducible rfl))
            (try simp only [Act.put, List.setIfInBounds_toArray, List.set_cons_zero, List.set_cons_succ])
            refine Man.take1 (i := 1) (v := ?_) rfl (by kernel_rfl) (by kernel_rfl) (by kernel_rfl) (fun _ _ _ h => h) (by rfl) ?_ (by assumption) ?_
            rotate_left
            · (intro u hSu; (try dsimp only at hSu); go_simp; (try with_reducible rfl))
            (try simp only [Act.put, List.setIfInBounds_toArray, List.set_cons_zero, List.set_cons_succ])
            refine Man.take1 (i := 2) (v := ?_) rfl (by kernel_rfl) (by kernel_rfl) (by kernel_rfl) (fun _ _ _ h => h) (by rfl) ?_ (by assumption) ?_
            rotate_left
            · (intro u hSu; (try dsimp only at hSu); go_simp; (try with_reducible rfl))
            (try simp only [Act.put, List.setIfInBounds_toArray, List.set_cons_zero, List.set_cons_succ])
            refine Man.take1 (i := 3) (v := ?_) rfl (by kernel_rfl) (by kernel_rfl) (by kernel_rfl) (fun _ _ _ h => h) (by rfl) ?_ (by assumption) ?_
            rotate_left
            · (intro u hSu; (try dsimp only at hSu); go_simp; (try with_reducible rfl))
            (try simp only [Act.put, List.setIfInBounds_toArray, List.set_cons_zero, List.set_cons_succ])
            refine Man.take1 (i := 4) (v := ?_) rfl (by kernel_rfl) (by kernel_rfl) (by kernel_rfl) (fun _ _ _ h => h) (by rfl) ?_ (by assumption) ?_
            rotate_left
            · (intro u hSu; (try dsimp only at hSu); go_simp; (try with_reducible rfl))
            (try simp only [Act.put, List.setIfInBounds_toArray, List.set_cons_zero, List.set_cons_succ])
            refine Man.take1 (i := 5) (v := ?_) rfl (by kernel_rfl) (by kernel_rfl) (by kernel_rfl) (fun _ _ _ h => h) (by rfl) ?_ (by assumption) ?_
            rotate_left
            · (intro u hSu; (try dsimp only at hSu); go_simp; (try with_reducible rfl))
            (try simp only [Act.put, List.setIfInBounds_toArray, List.set_cons_zero, List.set_cons_succ])
            refine Man.one (i := 6) rfl (by kernel_rfl) (fun K hK => ?_)
            go_simp
            (go_at_call 32; (with_reducible refine (holds_is HC.out _).mono ?_); rintro e w' ⟨rfl, hb⟩)
            refine hK.out _ _ ?_ (fun hNew => ?_)
            · exact fits_step hHeld hb
            clear hHeld hK K hb
            have hHeld := hNew
            clear hNew
            (try simp only [Act.put, List.setIfInBounds_toArray, List.set_cons_zero, List.set_cons_succ])
            refine Man.take1 (i := 7) (v := ?_) rfl (by kernel_rfl) (by kernel_rfl) (by kernel_rfl) (fun _ _ _ h => h) (by rfl) ?_ (by assumption) ?_
            rotate_left
            · (intro u hSu; (try dsimp only at hSu); go_simp; (try with_reducible rfl))
            (try simp only [Act.put, List.setIfInBounds_toArray, List.set_cons_zero, List.set_cons_succ])
            refine wpAnyH_done (by kernel_rfl) ?_ _
            obtain ⟨_, _, _, _, _, _, _, _, hqb, hqz⟩ := hHeld
            have HB2 := hidm (HB.out.then hqb)
            clear hqb hqz SS0
            go_wp2_with fail
            go_ret
            exact ⟨ret_i64 HFF.out.symm, HB2.out.below⟩
          · have HP2 := hidm (show ∀ j, j < i + 1 → holdAt s r j = true from fun j hj => by
              rcases Nat.lt_or_ge j i with h | h
              · exact HP.out j h
              · obtain rfl : j = i := by omega
                rw [hat, hh])
            have HC := hidm hh
            clear hat hh
            go_wp2_with fail
            refine wp_region_held_drew (S := fun u => u.cell? ⟨w.heap.size, 1, none⟩ = some (.slice (some ⟨b1, o1, none⟩) n cap) ∧ u.cell? ⟨b1, o1 + i * 3, none⟩ = some (.string (S x.nm)) ∧ u.cell? ⟨b1, o1 + i * 3 + 1, none⟩ = some (.int .i64 x.k) ∧ u.cell? ⟨b1, o1 + i * 3 + 2, none⟩ = some (.bool x.nd) ∧ u.cell? ⟨wr.heap.size, 0, none⟩ = some (.int .i64 v.k) ∧ u.cell? ⟨wr.heap.size, 1, none⟩ = some (.int .i64 v.n) ∧ u.cell? ⟨wr.heap.size, 2, none⟩ = some (.int .u64 v.b) ∧ u.cell? ⟨wr.heap.size, 3, none⟩ = some (.string (S v.s)) ∧ Below wr.heap.size wr u ∧ wr.heap.size ≤ u.heap.size) (by kernel_rfl) ?_ (fun hHeld => ?_)
            · exact fits_step SS0.out ((Below.refl _ _).drew)
            refine Man.take1 (i := 0) (v := ?_) rfl (by kernel_rfl) (by kernel_rfl) (by kernel_rfl) (fun _ _ _ h => h) (by rfl) ?_ (by assumption) ?_
            rotate_left
            · (intro u hSu; (try dsimp only at hSu); go_simp; (try with_reducible rfl))
            (try simp only [Act.put, List.setIfInBounds_toArray, List.set_cons_zero, List.set_cons_succ])
            refine Man.take1 (i := 1) (v := ?_) rfl (by kernel_rfl) (by kernel_rfl) (by kernel_rfl) (fun _ _ _ h => h) (by rfl) ?_ (by assumption) ?_
            rotate_left
            · (intro u hSu; (try dsimp only at hSu); go_simp; (try with_reducible rfl))
            (try simp only [Act.put, List.setIfInBounds_toArray, List.set_cons_zero, List.set_cons_succ])
            refine Man.take1 (i := 2) (v := ?_) rfl (by kernel_rfl) (by kernel_rfl) (by kernel_rfl) (fun _ _ _ h => h) (by rfl) ?_ (by assumption) ?_
            rotate_left
            · (intro u hSu; (try dsimp only at hSu); go_simp; (try with_reducible rfl))
            (try simp only [Act.put, List.setIfInBounds_toArray, List.set_cons_zero, List.set_cons_succ])
            refine Man.take1 (i := 3) (v := ?_) rfl (by kernel_rfl) (by kernel_rfl) (by kernel_rfl) (fun _ _ _ h => h) (by rfl) ?_ (by assumption) ?_
            rotate_left
            · (intro u hSu; (try dsimp only at hSu); go_simp; (try with_reducible rfl))
            (try simp only [Act.put, List.setIfInBounds_toArray, List.set_cons_zero, List.set_cons_succ])
            refine Man.take1 (i := 4) (v := ?_) rfl (by kernel_rfl) (by kernel_rfl) (by kernel_rfl) (fun _ _ _ h => h) (by rfl) ?_ (by assumption) ?_
            rotate_left
            · (intro u hSu; (try dsimp only at hSu); go_simp; (try with_reducible rfl))
            (try simp only [Act.put, List.setIfInBounds_toArray, List.set_cons_zero, List.set_cons_succ])
            refine Man.take1 (i := 5) (v := ?_) rfl (by kernel_rfl) (by kernel_rfl) (by kernel_rfl) (fun _ _ _ h => h) (by rfl) ?_ (by assumption) ?_
            rotate_left
            · (intro u hSu; (try dsimp only at hSu); go_simp; (try with_reducible rfl))
            (try simp only [Act.put, List.setIfInBounds_toArray, List.set_cons_zero, List.set_cons_succ])
            refine Man.one (i := 6) rfl (by kernel_rfl) (fun K hK => ?_)
            go_simp
            (go_at_call 32; (with_reducible refine (holds_is HC.out _).mono ?_); rintro e w' ⟨rfl, hb⟩)
            refine hK.out _ _ ?_ (fun hNew => ?_)
            · exact fits_step hHeld hb
            clear hHeld hK K hb
            have hHeld := hNew
            clear hNew
            (try simp only [Act.put, List.setIfInBounds_toArray, List.set_cons_zero, List.set_cons_succ])
            refine Man.take1 (i := 7) (v := ?_) rfl (by kernel_rfl) (by kernel_rfl) (by kernel_rfl) (fun _ _ _ h => h) (by rfl) ?_ (by assumption) ?_
            rotate_left
            · (intro u hSu; (try dsimp only at hSu); go_simp; (try with_reducible rfl))
            (try simp only [Act.put, List.setIfInBounds_toArray, List.set_cons_zero, List.set_cons_succ])
            refine wpAnyH_done (by kernel_rfl) ?_ _
            obtain ⟨_, _, _, _, _, _, _, _, hqb, hqz⟩ := hHeld
            have HB2 := hidm (HB.out.then hqb)
            clear hqb hqz SS0
            go_wp2_with fail
            go_roundw
            case rel => exact ⟨i + 1, by go_num, by omega, HB2, HP2⟩
            case measure => simp [intOf]; omega
        · have f1 : ¬ (i : Int) < m := by omega
          obtain rfl : i = m := by omega
          have HFF := hidm (show F = 0 from by rw [HF.out]; exact fits_yes HR.out (by have := HN.out; have := HM.out; have := HMN.out; omega) (fun j hj => HP.out j (by have := HM.out; omega)))
          go_wp2_with fail
          go_ret
          exact ⟨ret_i64 HFF.out.symm, HB.out.below⟩
    · have HFF := hidm (show F = 10 from by rw [HF.out]; exact fits_len hb (by omega))
      have f0 : ((m : Int) != (n : Int)) = true := by simp; omega
      clear h hl hb0 hF hb hn hm hmn
      go_enter Try.func11, Try.ntmps11
      go_wp2_with fail
      refine R.mono ?_
      rintro e w1 ⟨rfl, hb1⟩
      have HB1 := hidm (HS0.out.then (by rw [← HN.out]; exact hb1))
      clear hb1 R
      have c1 := HB1.out.c1
      rw [← HN.out] at c1
      go_wp2_with fail
      go_ret
      exact ⟨ret_i64 HFF.out.symm, HB1.out.below⟩
end Sch
end Go.Proofs.Ytopmbhpjdmcabaa
