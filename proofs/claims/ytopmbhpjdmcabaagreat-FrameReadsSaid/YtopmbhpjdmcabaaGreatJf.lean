/- schema.Right. Condition: names are at most 2^48 bytes, and there are at most a million columns. -/
import Derived.Test.YtopmbhpjdmcabaaGreatMa
import Derived.Test.YtopmbhpjdmcabaaGreatMan
namespace Go.Proofs.YtopmbhpjdmcabaaGreat
open Go.RowKit
namespace Sch
open Cod
theorem iscolumn_is {nm : List UInt8} {k : Int} {d b : Bool} (h : colIs ⟨nm, k, d⟩ = b) (hc : nm.length ≤ 281474976710656) (w : World) :
    Calls Tryz.prog 59 #[.agg #[.string (S nm), .int .i64 k, .bool d]] w fun e w' => e = .returned (.bool b) ∧ Below w.heap.size w w' := h ▸ iscolumn_any ⟨nm, k, d⟩ hc w
theorem hasname_is {cs : List C} {n : List UInt8} {b : Bool} (hb : hasB cs n = b) (sl : Value) (w : World) (h : ColsAt cs sl w) :
    Calls Tryz.prog 60 #[sl, .string (S n)] w fun e w' => e = .returned (.bool b) ∧ Below w.heap.size w w' := hb ▸ hasname_any cs sl n w h
/-- What a schema's texts are at most. -/
structure Lim (s : T) : Prop where
  nm : s.nm.length ≤ 281474976710656
  cn : ∀ c ∈ s.cols, c.nm.length ≤ 281474976710656
  n : s.cols.length ≤ 1000000
/-- The box of a schema, and what was made since. -/
def Boxed (s : T) (ao : Option Addr) (cap : Nat) (w wr : World) : Prop := Below (w.heap.size + 1) (w.alloc (.cells #[.string (S s.nm), .slice ao s.cols.length cap, .int .i64 s.keys] 30)) wr
section
variable {s : T} {ao : Option Addr} {cap : Nat} {w wr w' : World}
theorem Boxed.start (s : T) (ao : Option Addr) (cap : Nat) (w : World) : Boxed s ao cap w (w.alloc (.cells #[.string (S s.nm), .slice ao s.cols.length cap, .int .i64 s.keys] 30)) := Below.refl _ _
theorem Boxed.size (h : Boxed s ao cap w wr) : w.heap.size + 1 ≤ wr.heap.size := by
  have := Below.size h
  simpa using this
theorem Boxed.below (h : Boxed s ao cap w wr) : Below w.heap.size w wr :=
  ((Below.refl _ _).alloc (Nat.le_refl w.heap.size) _).trans (Below.mono h (by simp))
theorem Boxed.then (h : Boxed s ao cap w wr) (hb : Below wr.heap.size wr w') : Boxed s ao cap w w' := Below.trans h (hb.mono h.size)
theorem Boxed.alloc (h : Boxed s ao cap w wr) (o : Obj) : Boxed s ao cap w (wr.alloc o) := h.then ((Below.refl _ _).alloc (Nat.le_refl _) _)
theorem Boxed.c0 (h : Boxed s ao cap w wr) : wr.cell? ⟨w.heap.size, 0, none⟩ = some (.string (S s.nm)) := by
  rw [Below.cell h (p := ⟨w.heap.size, 0, none⟩) (Nat.lt_succ_self _)]; simp [go_sem]
theorem Boxed.c1 (h : Boxed s ao cap w wr) : wr.cell? ⟨w.heap.size, 1, none⟩ = some (.slice ao s.cols.length cap) := by
  rw [Below.cell h (p := ⟨w.heap.size, 1, none⟩) (Nat.lt_succ_self _)]; simp [go_sem]
theorem Boxed.c2 (h : Boxed s ao cap w wr) : wr.cell? ⟨w.heap.size, 2, none⟩ = some (.int .i64 s.keys) := by
  rw [Below.cell h (p := ⟨w.heap.size, 2, none⟩) (Nat.lt_succ_self _)]; simp [go_sem]
end
theorem five_step {w wr : World} {b1 o1 n cap : Nat} {k : Int} {x : C} {dd : Bool} {w1 w' : World} (h : w1.cell? ⟨w.heap.size, 1, none⟩ = some (.slice (some ⟨b1, o1, none⟩) n cap) ∧ w1.cell? ⟨w.heap.size, 2, none⟩ = some (.int .i64 k) ∧ w1.cell? ⟨wr.heap.size, 0, none⟩ = some (.string (S x.nm)) ∧ w1.cell? ⟨wr.heap.size, 1, none⟩ = some (.int .i64 x.k) ∧ w1.cell? ⟨wr.heap.size, 2, none⟩ = some (.bool dd) ∧ Below wr.heap.size wr w1 ∧ wr.heap.size ≤ w1.heap.size) (hb : Below w1.heap.size w1 w') : w'.cell? ⟨w.heap.size, 1, none⟩ = some (.slice (some ⟨b1, o1, none⟩) n cap) ∧ w'.cell? ⟨w.heap.size, 2, none⟩ = some (.int .i64 k) ∧ w'.cell? ⟨wr.heap.size, 0, none⟩ = some (.string (S x.nm)) ∧ w'.cell? ⟨wr.heap.size, 1, none⟩ = some (.int .i64 x.k) ∧ w'.cell? ⟨wr.heap.size, 2, none⟩ = some (.bool dd) ∧ Below wr.heap.size wr w' ∧ wr.heap.size ≤ w'.heap.size := by
  obtain ⟨c0, c1, c2, c3, c4, hB, hz⟩ := h
  exact ⟨cell_later hb c0, cell_later hb c1, cell_later hb c2, cell_later hb c3, cell_later hb c4, hB.trans (hb.mono hz), Nat.le_trans hz hb.size⟩
set_option maxHeartbeats 4000000 in
set_option maxRecDepth 100000 in
theorem right_any (s : T) (hl : Lim s) (sl : Value) (w : World) (h : ColsAt s.cols sl w) :
    Calls Tryz.prog 28 #[.agg #[.string (S s.nm), sl, .int .i64 s.keys]] w fun e w' => e = .returned (.bool (rightB s)) ∧ Below w.heap.size w w' := by
  obtain ⟨ao, cap, rfl, hcl, hcm⟩ := h.form
  have H := hidm h
  have HL := hidm hl
  have HS0 := hidm (Boxed.start s ao cap w)
  have N := fun (b : Bool) (hb : nameB s.nm = b) (w : World) => name_is (s := S s.nm) (b := b) hb (by rw [S_size]; exact HL.out.nm) w
  clear h hl
  obtain ⟨F, hF⟩ : ∃ F, F = rightB s := ⟨_, rfl⟩
  rw [← hF]
  have HF := hidm hF
  clear hF
  obtain ⟨n, hn⟩ : ∃ n, n = s.cols.length := ⟨_, rfl⟩
  obtain ⟨k, hk⟩ : ∃ k, k = s.keys := ⟨_, rfl⟩
  have HN := hidm hn
  have HK := hidm hk
  have hn9 : n ≤ 1000000 := by have := HL.out.n; omega
  rcases hh : headB s with _ | _
  · have HFF := hidm (show F = false from by rw [HF.out]; exact right_no_head hh)
    rcases hb : nameB s.nm with _ | _
    · have N1 := N false hb
      rw [← hn, ← hk]
      clear hn hk hh hb N
      go_enter Tryz.func28, Tryz.ntmps28
      go_wp2_with (go_at_call 55; refine (N1 _).mono ?_; rintro e w1 ⟨rfl, hb1⟩)
      have HB := hidm (((Below.refl _ _).alloc (Nat.le_refl w.heap.size) _).trans (hb1.mono (by simp)))
      clear hb1 N1
      go_wp2_with fail
      go_ret
      exact ⟨Val.ret_bool HFF.out.symm, HB.out⟩
    · have N1 := N true hb
      have hcase : 16 < n ∨ (n ≤ 16 ∧ k < 1) ∨ (n ≤ 16 ∧ 1 ≤ k ∧ n < 8 ∧ (n : Int) < k) ∨ (n ≤ 16 ∧ 1 ≤ k ∧ 8 ≤ n ∧ 8 < k) := by
        unfold headB at hh
        rw [hb, Bool.true_and, ← hn, ← hk] at hh
        simp only [Bool.and_eq_false_iff, decide_eq_false_iff_not] at hh
        omega
      rw [← hn, ← hk]
      rw [← hn] at hcl
      clear hh hb N hk hn
      rcases hcase with h1 | ⟨h0, h1⟩ | ⟨h0, h1, h2, h3⟩ | ⟨h0, h1, h2, h3⟩
      all_goals
        go_enter Tryz.func28, Tryz.ntmps28
        go_wp2_with (go_at_call 55; refine (N1 _).mono ?_; rintro e w1 ⟨rfl, hb1⟩; obtain ⟨hc1, hf1⟩ := Val.bcell hb1)
        go_ret
        exact ⟨Val.ret_bool HFF.out.symm, ((Below.refl _ _).alloc (Nat.le_refl w.heap.size) _).trans (hb1.mono (by simp))⟩
  · obtain ⟨hb, h1, h2, h3, h4⟩ := head_parts hh
    have N1 := N true hb
    rw [← hn] at h1 h4
    rw [← hk] at h2 h3 h4
    have HH := hidm hh
    rw [← hn, ← hk]
    rw [← hn] at hcl
    clear hh hb N hk hn
    go_enter Tryz.func28, Tryz.ntmps28
    rcases Nat.lt_or_ge n 8 with h8 | h8
    all_goals
      go_wp2_with (go_at_call 55; refine (N1 _).mono ?_; rintro e w1 ⟨rfl, hb1⟩; obtain ⟨hc1, hf1⟩ := Val.bcell hb1)
      go_loopw [32] (fun v wr => ∃ i : Nat, i ≤ n ∧ v = .int .i64 i ∧ Hid (Boxed s ao cap w wr) ∧ Hid (∀ j, j < i → colAt s j = true)) (fun v _ => n - (intOf v).toNat)
      case atStart => exact ⟨0, by omega, rfl, hidm (by have g := HS0.out.then (by rw [← HN.out, ← HK.out]; exact hb1); exact g), hidm (fun j hj => by omega)⟩
      case round =>
        clear hb1 hc1 hf1 N1
        obtain ⟨i, hi, rfl, HB, HP⟩ := hrel
        rcases Nat.lt_or_ge i n with hlt | hge
        · have hia : i < s.cols.length := by have := HN.out; omega
          have HCA := hidm (H.out.later HB.out.below)
          obtain ⟨b1, o1, c1, he1, _, q0, q1, q2⟩ := HCA.out.at i hia
          simp only [Value.slice.injEq] at he1
          obtain ⟨rfl, _, rfl⟩ := he1
          obtain ⟨x, hx⟩ : ∃ x, x = s.cols[i] := ⟨_, rfl⟩
          rw [← hx] at q0 q1 q2
          have HX := hidm hx
          have HXL := hidm (show x.nm.length ≤ 281474976710656 from HL.out.cn x (by rw [hx]; exact List.getElem_mem hia))
          clear hx
          have d1 := HB.out.c1
          have d2 := HB.out.c2
          rw [← HN.out] at d1
          rw [← HK.out] at d2
          have hsz := HB.out.size
          have hic : i ≤ cap := by omega
          have hat := colAt_at (s := s) hia
          rw [← HX.out, ← HK.out] at hat
          obtain ⟨dd, hdd⟩ : ∃ d, d = x.nd := ⟨_, rfl⟩
          rw [← hdd] at hat q2
          have hxx : colIs x = colIs ⟨x.nm, x.k, dd⟩ := by rw [hdd]
          rw [hxx] at hat
          clear hdd hxx
          have hbz : Below wr.heap.size wr (wr.alloc (.cells #[.string (S x.nm), .int .i64 x.k, .bool dd] 81)) := (Below.refl _ _).alloc (Nat.le_refl _) _
          have SS0 := hidm (show (wr.alloc (.cells #[.string (S x.nm), .int .i64 x.k, .bool dd] 81)).cell? ⟨w.heap.size, 1, none⟩ = some (.slice (some ⟨b1, o1, none⟩) n cap) ∧ (wr.alloc (.cells #[.string (S x.nm), .int .i64 x.k, .bool dd] 81)).cell? ⟨w.heap.size, 2, none⟩ = some (.int .i64 k) ∧ (wr.alloc (.cells #[.string (S x.nm), .int .i64 x.k, .bool dd] 81)).cell? ⟨wr.heap.size, 0, none⟩ = some (.string (S x.nm)) ∧ (wr.alloc (.cells #[.string (S x.nm), .int .i64 x.k, .bool dd] 81)).cell? ⟨wr.heap.size, 1, none⟩ = some (.int .i64 x.k) ∧ (wr.alloc (.cells #[.string (S x.nm), .int .i64 x.k, .bool dd] 81)).cell? ⟨wr.heap.size, 2, none⟩ = some (.bool dd) ∧ Below wr.heap.size wr (wr.alloc (.cells #[.string (S x.nm), .int .i64 x.k, .bool dd] 81)) ∧ wr.heap.size ≤ (wr.alloc (.cells #[.string (S x.nm), .int .i64 x.k, .bool dd] 81)).heap.size from ⟨cell_later hbz d1, cell_later hbz d2, by simp [go_sem], by simp [go_sem], by simp [go_sem], hbz, by simp⟩)
          clear hbz d1 d2
          rcases hc : colIs ⟨x.nm, x.k, dd⟩ with _ | _
          · have HFF := hidm (show F = false from by rw [HF.out]; exact right_no hia (by rw [hat, hc]; rfl))
            have HC := hidm hc
            clear hat hc
            go_wp2_with fail
            refine wp_region_held_drew (S := fun u => u.cell? ⟨w.heap.size, 1, none⟩ = some (.slice (some ⟨b1, o1, none⟩) n cap) ∧ u.cell? ⟨w.heap.size, 2, none⟩ = some (.int .i64 k) ∧ u.cell? ⟨wr.heap.size, 0, none⟩ = some (.string (S x.nm)) ∧ u.cell? ⟨wr.heap.size, 1, none⟩ = some (.int .i64 x.k) ∧ u.cell? ⟨wr.heap.size, 2, none⟩ = some (.bool dd) ∧ Below wr.heap.size wr u ∧ wr.heap.size ≤ u.heap.size) (by kernel_rfl) ?_ (fun hHeld => ?_)
            · exact five_step SS0.out ((Below.refl _ _).drew)
            refine Man.take1 (i := 0) (v := ?_) rfl (by kernel_rfl) (by kernel_rfl) (by kernel_rfl) (fun _ _ _ h => h) (by rfl) ?_ (by assumption) ?_
            rotate_left
            · (intro u hSu; (try dsimp only at hSu); go_simp; (try with_reducible rfl))
            (try simp only [Act.put, List.setIfInBounds_toArray, List.set_cons_zero, List.set_cons_succ])
            refine Man.one (i := 1) rfl (by kernel_rfl) (fun K hK => ?_)
            go_simp
            (go_at_call 59; (with_reducible refine (iscolumn_is HC.out HXL.out _).mono ?_); rintro e w' ⟨rfl, hb⟩)
            refine hK.out _ _ ?_ (fun hNew => ?_)
            · exact five_step hHeld hb
            clear hHeld hK K hb
            have hHeld := hNew
            clear hNew
            (try simp only [Act.put, List.setIfInBounds_toArray, List.set_cons_zero, List.set_cons_succ])
            refine Man.take1 (i := 2) (v := ?_) rfl (by kernel_rfl) (by kernel_rfl) (by kernel_rfl) (fun _ _ _ h => h) (by rfl) ?_ (by assumption) ?_
            rotate_left
            · (intro u hSu; (try dsimp only at hSu); go_simp; (try with_reducible rfl))
            (try simp only [Act.put, List.setIfInBounds_toArray, List.set_cons_zero, List.set_cons_succ])
            refine Man.take1 (i := 3) (v := ?_) rfl (by kernel_rfl) (by kernel_rfl) (by kernel_rfl) (fun _ _ _ h => h) (by rfl) ?_ (by assumption) ?_
            rotate_left
            · (intro u hSu; (try dsimp only at hSu); go_simp; (try with_reducible rfl))
            (try simp only [Act.put, List.setIfInBounds_toArray, List.set_cons_zero, List.set_cons_succ])
            refine Man.take0 (i := 4) rfl (by kernel_rfl) (by kernel_rfl) (by kernel_rfl) (fun _ _ _ h => h) (by rfl) (by assumption) ?_
            (try simp only [Act.put, List.setIfInBounds_toArray, List.set_cons_zero, List.set_cons_succ])
            refine Man.take0 (i := 5) rfl (by kernel_rfl) (by kernel_rfl) (by kernel_rfl) (fun _ _ _ h => h) (by rfl) (by assumption) ?_
            (try simp only [Act.put, List.setIfInBounds_toArray, List.set_cons_zero, List.set_cons_succ])
            refine Man.take0 (i := 6) rfl (by kernel_rfl) (by kernel_rfl) (by kernel_rfl) (fun _ _ _ h => h) (by rfl) (by assumption) ?_
            (try simp only [Act.put, List.setIfInBounds_toArray, List.set_cons_zero, List.set_cons_succ])
            refine Man.take0 (i := 7) rfl (by kernel_rfl) (by kernel_rfl) (by kernel_rfl) (fun _ _ _ h => h) (by rfl) (by assumption) ?_
            (try simp only [Act.put, List.setIfInBounds_toArray, List.set_cons_zero, List.set_cons_succ])
            refine Man.take0 (i := 8) rfl (by kernel_rfl) (by kernel_rfl) (by kernel_rfl) (fun _ _ _ h => h) (by rfl) (by assumption) ?_
            (try simp only [Act.put, List.setIfInBounds_toArray, List.set_cons_zero, List.set_cons_succ])
            refine Man.take0 (i := 9) rfl (by kernel_rfl) (by kernel_rfl) (by kernel_rfl) (fun _ _ _ h => h) (by rfl) (by assumption) ?_
            (try simp only [Act.put, List.setIfInBounds_toArray, List.set_cons_zero, List.set_cons_succ])
            refine Man.take0 (i := 10) rfl (by kernel_rfl) (by kernel_rfl) (by kernel_rfl) (fun _ _ _ h => h) (by rfl) (by assumption) ?_
            (try simp only [Act.put, List.setIfInBounds_toArray, List.set_cons_zero, List.set_cons_succ])
            refine Man.take1 (i := 11) (v := ?_) rfl (by kernel_rfl) (by kernel_rfl) (by kernel_rfl) (fun _ _ _ h => h) (by rfl) ?_ (by assumption) ?_
            rotate_left
            · (intro u hSu; (try dsimp only at hSu); go_simp; (try with_reducible rfl))
            (try simp only [Act.put, List.setIfInBounds_toArray, List.set_cons_zero, List.set_cons_succ])
            refine Man.take1 (i := 12) (v := ?_) rfl (by kernel_rfl) (by kernel_rfl) (by kernel_rfl) (fun _ _ _ h => h) (by rfl) ?_ (by assumption) ?_
            rotate_left
            · (intro u hSu; (try dsimp only at hSu); go_simp; (try with_reducible rfl))
            (try simp only [Act.put, List.setIfInBounds_toArray, List.set_cons_zero, List.set_cons_succ])
            refine Man.take0 (i := 13) rfl (by kernel_rfl) (by kernel_rfl) (by kernel_rfl) (fun _ _ _ h => h) (by rfl) (by assumption) ?_
            (try simp only [Act.put, List.setIfInBounds_toArray, List.set_cons_zero, List.set_cons_succ])
            refine Man.take0 (i := 14) rfl (by kernel_rfl) (by kernel_rfl) (by kernel_rfl) (fun _ _ _ h => h) (by rfl) (by assumption) ?_
            (try simp only [Act.put, List.setIfInBounds_toArray, List.set_cons_zero, List.set_cons_succ])
            refine Man.take0 (i := 15) rfl (by kernel_rfl) (by kernel_rfl) (by kernel_rfl) (fun _ _ _ h => h) (by rfl) (by assumption) ?_
            (try simp only [Act.put, List.setIfInBounds_toArray, List.set_cons_zero, List.set_cons_succ])
            refine Man.take0 (i := 16) rfl (by kernel_rfl) (by kernel_rfl) (by kernel_rfl) (fun _ _ _ h => h) (by rfl) (by assumption) ?_
            (try simp only [Act.put, List.setIfInBounds_toArray, List.set_cons_zero, List.set_cons_succ])
            refine Man.take0 (i := 17) rfl (by kernel_rfl) (by kernel_rfl) (by kernel_rfl) (fun _ _ _ h => h) (by rfl) (by assumption) ?_
            (try simp only [Act.put, List.setIfInBounds_toArray, List.set_cons_zero, List.set_cons_succ])
            refine Man.take0 (i := 18) rfl (by kernel_rfl) (by kernel_rfl) (by kernel_rfl) (fun _ _ _ h => h) (by rfl) (by assumption) ?_
            (try simp only [Act.put, List.setIfInBounds_toArray, List.set_cons_zero, List.set_cons_succ])
            refine Man.take0 (i := 19) rfl (by kernel_rfl) (by kernel_rfl) (by kernel_rfl) (fun _ _ _ h => h) (by rfl) (by assumption) ?_
            (try simp only [Act.put, List.setIfInBounds_toArray, List.set_cons_zero, List.set_cons_succ])
            refine Man.take0 (i := 20) rfl (by kernel_rfl) (by kernel_rfl) (by kernel_rfl) (fun _ _ _ h => h) (by rfl) (by assumption) ?_
            (try simp only [Act.put, List.setIfInBounds_toArray, List.set_cons_zero, List.set_cons_succ])
            refine Man.take0 (i := 21) rfl (by kernel_rfl) (by kernel_rfl) (by kernel_rfl) (fun _ _ _ h => h) (by rfl) (by assumption) ?_
            (try simp only [Act.put, List.setIfInBounds_toArray, List.set_cons_zero, List.set_cons_succ])
            refine Man.take1 (i := 22) (v := ?_) rfl (by kernel_rfl) (by kernel_rfl) (by kernel_rfl) (fun _ _ _ h => h) (by rfl) ?_ (by assumption) ?_
            rotate_left
            · (intro u hSu; (try dsimp only at hSu); go_simp; (try with_reducible rfl))
            (try simp only [Act.put, List.setIfInBounds_toArray, List.set_cons_zero, List.set_cons_succ])
            refine wpAnyH_done (by kernel_rfl) ?_ _
            obtain ⟨_, _, _, _, _, hqb, hqz⟩ := hHeld
            have HB2 := hidm (HB.out.then hqb)
            clear hqb hqz SS0
            go_wp2_with fail
            go_ret
            exact ⟨Val.ret_bool HFF.out.symm, HB2.out.below⟩
          · rcases hp : hasB (s.cols.take i) x.nm with _ | _
            · rcases Int.lt_or_le (i : Int) k with hik | hik
              · rcases dd with _ | _
                · have HFF := hidm (show F = false from by rw [HF.out]; exact right_no hia (by rw [hat, hc, hp, decide_eq_false (by omega)]; rfl))
                  have HC := hidm hc
                  have HP1 := hidm hp
                  clear hat hc hp
                  go_wp2_with fail
                  refine wp_region_held_drew (S := fun u => u.cell? ⟨w.heap.size, 1, none⟩ = some (.slice (some ⟨b1, o1, none⟩) n cap) ∧ u.cell? ⟨w.heap.size, 2, none⟩ = some (.int .i64 k) ∧ u.cell? ⟨wr.heap.size, 0, none⟩ = some (.string (S x.nm)) ∧ u.cell? ⟨wr.heap.size, 1, none⟩ = some (.int .i64 x.k) ∧ u.cell? ⟨wr.heap.size, 2, none⟩ = some (.bool false) ∧ Below wr.heap.size wr u ∧ wr.heap.size ≤ u.heap.size) (by kernel_rfl) ?_ (fun hHeld => ?_)
                  · exact five_step SS0.out ((Below.refl _ _).drew)
                  refine Man.take1 (i := 0) (v := ?_) rfl (by kernel_rfl) (by kernel_rfl) (by kernel_rfl) (fun _ _ _ h => h) (by rfl) ?_ (by assumption) ?_
                  rotate_left
                  · (intro u hSu; (try dsimp only at hSu); go_simp; (try with_reducible rfl))
                  (try simp only [Act.put, List.setIfInBounds_toArray, List.set_cons_zero, List.set_cons_succ])
                  refine Man.one (i := 1) rfl (by kernel_rfl) (fun K hK => ?_)
                  go_simp
                  (go_at_call 59; (with_reducible refine (iscolumn_is HC.out HXL.out _).mono ?_); rintro e w' ⟨rfl, hb⟩)
                  refine hK.out _ _ ?_ (fun hNew => ?_)
                  · exact five_step hHeld hb
                  clear hHeld hK K hb
                  have hHeld := hNew
                  clear hNew
                  (try simp only [Act.put, List.setIfInBounds_toArray, List.set_cons_zero, List.set_cons_succ])
                  refine Man.take1 (i := 2) (v := ?_) rfl (by kernel_rfl) (by kernel_rfl) (by kernel_rfl) (fun _ _ _ h => h) (by rfl) ?_ (by assumption) ?_
                  rotate_left
                  · (intro u hSu; (try dsimp only at hSu); go_simp; (try with_reducible rfl))
                  (try simp only [Act.put, List.setIfInBounds_toArray, List.set_cons_zero, List.set_cons_succ])
                  refine Man.take1 (i := 3) (v := ?_) rfl (by kernel_rfl) (by kernel_rfl) (by kernel_rfl) (fun _ _ _ h => h) (by rfl) ?_ (by assumption) ?_
                  rotate_left
                  · (intro u hSu; (try dsimp only at hSu); go_simp; (try with_reducible rfl))
                  (try simp only [Act.put, List.setIfInBounds_toArray, List.set_cons_zero, List.set_cons_succ])
                  refine Man.take1 (i := 4) (v := ?_) rfl (by kernel_rfl) (by kernel_rfl) (by kernel_rfl) (fun _ _ _ h => h) (by rfl) ?_ (by assumption) ?_
                  rotate_left
                  · (intro u hSu; (try dsimp only at hSu); go_simp; (try with_reducible rfl))
                  (try simp only [Act.put, List.setIfInBounds_toArray, List.set_cons_zero, List.set_cons_succ])
                  refine Man.take1 (i := 5) (v := ?_) rfl (by kernel_rfl) (by kernel_rfl) (by kernel_rfl) (fun _ _ _ h => h) (by rfl) ?_ (by assumption) ?_
                  rotate_left
                  · (intro u hSu; (try dsimp only at hSu); go_simp; (try with_reducible rfl))
                  (try simp only [Act.put, List.setIfInBounds_toArray, List.set_cons_zero, List.set_cons_succ])
                  refine Man.take1 (i := 6) (v := ?_) rfl (by kernel_rfl) (by kernel_rfl) (by kernel_rfl) (fun _ _ _ h => h) (by rfl) ?_ (by assumption) ?_
                  rotate_left
                  · (intro u hSu; (try dsimp only at hSu); go_simp; (try with_reducible rfl))
                  (try simp only [Act.put, List.setIfInBounds_toArray, List.set_cons_zero, List.set_cons_succ])
                  refine Man.take1 (i := 7) (v := ?_) rfl (by kernel_rfl) (by kernel_rfl) (by kernel_rfl) (fun _ _ _ h => h) (by rfl) ?_ (by assumption) ?_
                  rotate_left
                  · (intro u hSu; (try dsimp only at hSu); go_simp; (try with_reducible rfl))
                  (try simp only [Act.put, List.setIfInBounds_toArray, List.set_cons_zero, List.set_cons_succ])
                  refine Man.take1 (i := 8) (v := ?_) rfl (by kernel_rfl) (by kernel_rfl) (by kernel_rfl) (fun _ _ _ h => h) (by rfl) ?_ (by assumption) ?_
                  rotate_left
                  · (intro u hSu; (try dsimp only at hSu); go_simp; (try with_reducible rfl))
                  (try simp only [Act.put, List.setIfInBounds_toArray, List.set_cons_zero, List.set_cons_succ])
                  refine Man.take1 (i := 9) (v := ?_) rfl (by kernel_rfl) (by kernel_rfl) (by kernel_rfl) (fun _ _ _ h => h) (by rfl) ?_ (by assumption) ?_
                  rotate_left
                  · (intro u hSu; (try dsimp only at hSu); go_simp; (try with_reducible rfl))
                  (try simp only [Act.put, List.setIfInBounds_toArray, List.set_cons_zero, List.set_cons_succ])
                  refine Man.one (i := 10) rfl (by kernel_rfl) (fun K hK => ?_)
                  go_simp
                  (go_at_call 60; (with_reducible refine (hasname_is HP1.out _ _ ((HCA.out.later hHeld.2.2.2.2.2.1).take i (by omega))).mono ?_); rintro e w' ⟨rfl, hb⟩)
                  refine hK.out _ _ ?_ (fun hNew => ?_)
                  · exact five_step hHeld hb
                  clear hHeld hK K hb
                  have hHeld := hNew
                  clear hNew
                  (try simp only [Act.put, List.setIfInBounds_toArray, List.set_cons_zero, List.set_cons_succ])
                  refine Man.take1 (i := 11) (v := ?_) rfl (by kernel_rfl) (by kernel_rfl) (by kernel_rfl) (fun _ _ _ h => h) (by rfl) ?_ (by assumption) ?_
                  rotate_left
                  · (intro u hSu; (try dsimp only at hSu); go_simp; (try with_reducible rfl))
                  (try simp only [Act.put, List.setIfInBounds_toArray, List.set_cons_zero, List.set_cons_succ])
                  refine Man.take1 (i := 12) (v := ?_) rfl (by kernel_rfl) (by kernel_rfl) (by kernel_rfl) (fun _ _ _ h => h) (by rfl) ?_ (by assumption) ?_
                  rotate_left
                  · (intro u hSu; (try dsimp only at hSu); go_simp; (try with_reducible rfl))
                  (try simp only [Act.put, List.setIfInBounds_toArray, List.set_cons_zero, List.set_cons_succ])
                  refine Man.take1 (i := 13) (v := ?_) rfl (by kernel_rfl) (by kernel_rfl) (by kernel_rfl) (fun _ _ _ h => h) (by rfl) ?_ (by assumption) ?_
                  rotate_left
                  · (intro u hSu; (try dsimp only at hSu); go_simp; (try with_reducible rfl))
                  (try simp only [Act.put, List.setIfInBounds_toArray, List.set_cons_zero, List.set_cons_succ])
                  refine Man.take1 (i := 14) (v := ?_) rfl (by kernel_rfl) (by kernel_rfl) (by kernel_rfl) (fun _ _ _ h => h) (by rfl) ?_ (by assumption) ?_
                  rotate_left
                  · (intro u hSu; (try dsimp only at hSu); go_simp; (try with_reducible rfl))
                  (try simp only [Act.put, List.setIfInBounds_toArray, List.set_cons_zero, List.set_cons_succ])
                  refine Man.take1 (i := 15) (v := ?_) rfl (by kernel_rfl) (by kernel_rfl) (by kernel_rfl) (fun _ _ _ h => h) (by rfl) ?_ (by assumption) ?_
                  rotate_left
                  · (intro u hSu; (try dsimp only at hSu); go_simp; (try with_reducible rfl))
                  (try simp only [Act.put, List.setIfInBounds_toArray, List.set_cons_zero, List.set_cons_succ])
                  refine Man.take1 (i := 16) (v := ?_) rfl (by kernel_rfl) (by kernel_rfl) (by kernel_rfl) (fun _ _ _ h => h) (by rfl) ?_ (by assumption) ?_
                  rotate_left
                  · (intro u hSu; (try dsimp only at hSu); go_simp; (try with_reducible rfl))
                  (try simp only [Act.put, List.setIfInBounds_toArray, List.set_cons_zero, List.set_cons_succ])
                  refine Man.take1 (i := 17) (v := ?_) rfl (by kernel_rfl) (by kernel_rfl) (by kernel_rfl) (fun _ _ _ h => h) (by rfl) ?_ (by assumption) ?_
                  rotate_left
                  · (intro u hSu; (try dsimp only at hSu); go_simp; (try with_reducible rfl))
                  (try simp only [Act.put, List.setIfInBounds_toArray, List.set_cons_zero, List.set_cons_succ])
                  refine Man.take1 (i := 18) (v := ?_) rfl (by kernel_rfl) (by kernel_rfl) (by kernel_rfl) (fun _ _ _ h => h) (by rfl) ?_ (by assumption) ?_
                  rotate_left
                  · (intro u hSu; (try dsimp only at hSu); go_simp; (try with_reducible rfl))
                  (try simp only [Act.put, List.setIfInBounds_toArray, List.set_cons_zero, List.set_cons_succ])
                  refine Man.take1 (i := 19) (v := ?_) rfl (by kernel_rfl) (by kernel_rfl) (by kernel_rfl) (fun _ _ _ h => h) (by rfl) ?_ (by assumption) ?_
                  rotate_left
                  · (intro u hSu; (try dsimp only at hSu); go_simp; (try with_reducible rfl))
                  (try simp only [Act.put, List.setIfInBounds_toArray, List.set_cons_zero, List.set_cons_succ])
                  refine Man.take1 (i := 20) (v := ?_) rfl (by kernel_rfl) (by kernel_rfl) (by kernel_rfl) (fun _ _ _ h => h) (by rfl) ?_ (by assumption) ?_
                  rotate_left
                  · (intro u hSu; (try dsimp only at hSu); go_simp; (try with_reducible rfl))
                  (try simp only [Act.put, List.setIfInBounds_toArray, List.set_cons_zero, List.set_cons_succ])
                  refine Man.take1 (i := 21) (v := ?_) rfl (by kernel_rfl) (by kernel_rfl) (by kernel_rfl) (fun _ _ _ h => h) (by rfl) ?_ (by assumption) ?_
                  rotate_left
                  · (intro u hSu; (try dsimp only at hSu); go_simp; (try with_reducible rfl))
                  (try simp only [Act.put, List.setIfInBounds_toArray, List.set_cons_zero, List.set_cons_succ])
                  refine Man.take1 (i := 22) (v := ?_) rfl (by kernel_rfl) (by kernel_rfl) (by kernel_rfl) (fun _ _ _ h => h) (by rfl) ?_ (by assumption) ?_
                  rotate_left
                  · (intro u hSu; (try dsimp only at hSu); go_simp; (try with_reducible rfl))
                  (try simp only [Act.put, List.setIfInBounds_toArray, List.set_cons_zero, List.set_cons_succ])
                  refine wpAnyH_done (by kernel_rfl) ?_ _
                  obtain ⟨_, _, _, _, _, hqb, hqz⟩ := hHeld
                  have HB2 := hidm (HB.out.then hqb)
                  clear hqb hqz SS0
                  go_wp2_with fail
                  go_ret
                  exact ⟨Val.ret_bool HFF.out.symm, HB2.out.below⟩
                · have HP2 := hidm (show ∀ j, j < i + 1 → colAt s j = true from fun j hj => by
                    rcases Nat.lt_or_ge j i with h | h
                    · exact HP.out j h
                    · obtain rfl : j = i := by omega
                      rw [hat, hc, hp]; simp)
                  have HC := hidm hc
                  have HP1 := hidm hp
                  clear hat hc hp
                  go_wp2_with fail
                  refine wp_region_held_drew (S := fun u => u.cell? ⟨w.heap.size, 1, none⟩ = some (.slice (some ⟨b1, o1, none⟩) n cap) ∧ u.cell? ⟨w.heap.size, 2, none⟩ = some (.int .i64 k) ∧ u.cell? ⟨wr.heap.size, 0, none⟩ = some (.string (S x.nm)) ∧ u.cell? ⟨wr.heap.size, 1, none⟩ = some (.int .i64 x.k) ∧ u.cell? ⟨wr.heap.size, 2, none⟩ = some (.bool true) ∧ Below wr.heap.size wr u ∧ wr.heap.size ≤ u.heap.size) (by kernel_rfl) ?_ (fun hHeld => ?_)
                  · exact five_step SS0.out ((Below.refl _ _).drew)
                  refine Man.take1 (i := 0) (v := ?_) rfl (by kernel_rfl) (by kernel_rfl) (by kernel_rfl) (fun _ _ _ h => h) (by rfl) ?_ (by assumption) ?_
                  rotate_left
                  · (intro u hSu; (try dsimp only at hSu); go_simp; (try with_reducible rfl))
                  (try simp only [Act.put, List.setIfInBounds_toArray, List.set_cons_zero, List.set_cons_succ])
                  refine Man.one (i := 1) rfl (by kernel_rfl) (fun K hK => ?_)
                  go_simp
                  (go_at_call 59; (with_reducible refine (iscolumn_is HC.out HXL.out _).mono ?_); rintro e w' ⟨rfl, hb⟩)
                  refine hK.out _ _ ?_ (fun hNew => ?_)
                  · exact five_step hHeld hb
                  clear hHeld hK K hb
                  have hHeld := hNew
                  clear hNew
                  (try simp only [Act.put, List.setIfInBounds_toArray, List.set_cons_zero, List.set_cons_succ])
                  refine Man.take1 (i := 2) (v := ?_) rfl (by kernel_rfl) (by kernel_rfl) (by kernel_rfl) (fun _ _ _ h => h) (by rfl) ?_ (by assumption) ?_
                  rotate_left
                  · (intro u hSu; (try dsimp only at hSu); go_simp; (try with_reducible rfl))
                  (try simp only [Act.put, List.setIfInBounds_toArray, List.set_cons_zero, List.set_cons_succ])
                  refine Man.take1 (i := 3) (v := ?_) rfl (by kernel_rfl) (by kernel_rfl) (by kernel_rfl) (fun _ _ _ h => h) (by rfl) ?_ (by assumption) ?_
                  rotate_left
                  · (intro u hSu; (try dsimp only at hSu); go_simp; (try with_reducible rfl))
                  (try simp only [Act.put, List.setIfInBounds_toArray, List.set_cons_zero, List.set_cons_succ])
                  refine Man.take1 (i := 4) (v := ?_) rfl (by kernel_rfl) (by kernel_rfl) (by kernel_rfl) (fun _ _ _ h => h) (by rfl) ?_ (by assumption) ?_
                  rotate_left
                  · (intro u hSu; (try dsimp only at hSu); go_simp; (try with_reducible rfl))
                  (try simp only [Act.put, List.setIfInBounds_toArray, List.set_cons_zero, List.set_cons_succ])
                  refine Man.take1 (i := 5) (v := ?_) rfl (by kernel_rfl) (by kernel_rfl) (by kernel_rfl) (fun _ _ _ h => h) (by rfl) ?_ (by assumption) ?_
                  rotate_left
                  · (intro u hSu; (try dsimp only at hSu); go_simp; (try with_reducible rfl))
                  (try simp only [Act.put, List.setIfInBounds_toArray, List.set_cons_zero, List.set_cons_succ])
                  refine Man.take1 (i := 6) (v := ?_) rfl (by kernel_rfl) (by kernel_rfl) (by kernel_rfl) (fun _ _ _ h => h) (by rfl) ?_ (by assumption) ?_
                  rotate_left
                  · (intro u hSu; (try dsimp only at hSu); go_simp; (try with_reducible rfl))
                  (try simp only [Act.put, List.setIfInBounds_toArray, List.set_cons_zero, List.set_cons_succ])
                  refine Man.take1 (i := 7) (v := ?_) rfl (by kernel_rfl) (by kernel_rfl) (by kernel_rfl) (fun _ _ _ h => h) (by rfl) ?_ (by assumption) ?_
                  rotate_left
                  · (intro u hSu; (try dsimp only at hSu); go_simp; (try with_reducible rfl))
                  (try simp only [Act.put, List.setIfInBounds_toArray, List.set_cons_zero, List.set_cons_succ])
                  refine Man.take1 (i := 8) (v := ?_) rfl (by kernel_rfl) (by kernel_rfl) (by kernel_rfl) (fun _ _ _ h => h) (by rfl) ?_ (by assumption) ?_
                  rotate_left
                  · (intro u hSu; (try dsimp only at hSu); go_simp; (try with_reducible rfl))
                  (try simp only [Act.put, List.setIfInBounds_toArray, List.set_cons_zero, List.set_cons_succ])
                  refine Man.take1 (i := 9) (v := ?_) rfl (by kernel_rfl) (by kernel_rfl) (by kernel_rfl) (fun _ _ _ h => h) (by rfl) ?_ (by assumption) ?_
                  rotate_left
                  · (intro u hSu; (try dsimp only at hSu); go_simp; (try with_reducible rfl))
                  (try simp only [Act.put, List.setIfInBounds_toArray, List.set_cons_zero, List.set_cons_succ])
                  refine Man.one (i := 10) rfl (by kernel_rfl) (fun K hK => ?_)
                  go_simp
                  (go_at_call 60; (with_reducible refine (hasname_is HP1.out _ _ ((HCA.out.later hHeld.2.2.2.2.2.1).take i (by omega))).mono ?_); rintro e w' ⟨rfl, hb⟩)
                  refine hK.out _ _ ?_ (fun hNew => ?_)
                  · exact five_step hHeld hb
                  clear hHeld hK K hb
                  have hHeld := hNew
                  clear hNew
                  (try simp only [Act.put, List.setIfInBounds_toArray, List.set_cons_zero, List.set_cons_succ])
                  refine Man.take1 (i := 11) (v := ?_) rfl (by kernel_rfl) (by kernel_rfl) (by kernel_rfl) (fun _ _ _ h => h) (by rfl) ?_ (by assumption) ?_
                  rotate_left
                  · (intro u hSu; (try dsimp only at hSu); go_simp; (try with_reducible rfl))
                  (try simp only [Act.put, List.setIfInBounds_toArray, List.set_cons_zero, List.set_cons_succ])
                  refine Man.take1 (i := 12) (v := ?_) rfl (by kernel_rfl) (by kernel_rfl) (by kernel_rfl) (fun _ _ _ h => h) (by rfl) ?_ (by assumption) ?_
                  rotate_left
                  · (intro u hSu; (try dsimp only at hSu); go_simp; (try with_reducible rfl))
                  (try simp only [Act.put, List.setIfInBounds_toArray, List.set_cons_zero, List.set_cons_succ])
                  refine Man.take1 (i := 13) (v := ?_) rfl (by kernel_rfl) (by kernel_rfl) (by kernel_rfl) (fun _ _ _ h => h) (by rfl) ?_ (by assumption) ?_
                  rotate_left
                  · (intro u hSu; (try dsimp only at hSu); go_simp; (try with_reducible rfl))
                  (try simp only [Act.put, List.setIfInBounds_toArray, List.set_cons_zero, List.set_cons_succ])
                  refine Man.take1 (i := 14) (v := ?_) rfl (by kernel_rfl) (by kernel_rfl) (by kernel_rfl) (fun _ _ _ h => h) (by rfl) ?_ (by assumption) ?_
                  rotate_left
                  · (intro u hSu; (try dsimp only at hSu); go_simp; (try with_reducible rfl))
                  (try simp only [Act.put, List.setIfInBounds_toArray, List.set_cons_zero, List.set_cons_succ])
                  refine Man.take1 (i := 15) (v := ?_) rfl (by kernel_rfl) (by kernel_rfl) (by kernel_rfl) (fun _ _ _ h => h) (by rfl) ?_ (by assumption) ?_
                  rotate_left
                  · (intro u hSu; (try dsimp only at hSu); go_simp; (try with_reducible rfl))
                  (try simp only [Act.put, List.setIfInBounds_toArray, List.set_cons_zero, List.set_cons_succ])
                  refine Man.take1 (i := 16) (v := ?_) rfl (by kernel_rfl) (by kernel_rfl) (by kernel_rfl) (fun _ _ _ h => h) (by rfl) ?_ (by assumption) ?_
                  rotate_left
                  · (intro u hSu; (try dsimp only at hSu); go_simp; (try with_reducible rfl))
                  (try simp only [Act.put, List.setIfInBounds_toArray, List.set_cons_zero, List.set_cons_succ])
                  refine Man.take1 (i := 17) (v := ?_) rfl (by kernel_rfl) (by kernel_rfl) (by kernel_rfl) (fun _ _ _ h => h) (by rfl) ?_ (by assumption) ?_
                  rotate_left
                  · (intro u hSu; (try dsimp only at hSu); go_simp; (try with_reducible rfl))
                  (try simp only [Act.put, List.setIfInBounds_toArray, List.set_cons_zero, List.set_cons_succ])
                  refine Man.take1 (i := 18) (v := ?_) rfl (by kernel_rfl) (by kernel_rfl) (by kernel_rfl) (fun _ _ _ h => h) (by rfl) ?_ (by assumption) ?_
                  rotate_left
                  · (intro u hSu; (try dsimp only at hSu); go_simp; (try with_reducible rfl))
                  (try simp only [Act.put, List.setIfInBounds_toArray, List.set_cons_zero, List.set_cons_succ])
                  refine Man.take1 (i := 19) (v := ?_) rfl (by kernel_rfl) (by kernel_rfl) (by kernel_rfl) (fun _ _ _ h => h) (by rfl) ?_ (by assumption) ?_
                  rotate_left
                  · (intro u hSu; (try dsimp only at hSu); go_simp; (try with_reducible rfl))
                  (try simp only [Act.put, List.setIfInBounds_toArray, List.set_cons_zero, List.set_cons_succ])
                  refine Man.take1 (i := 20) (v := ?_) rfl (by kernel_rfl) (by kernel_rfl) (by kernel_rfl) (fun _ _ _ h => h) (by rfl) ?_ (by assumption) ?_
                  rotate_left
                  · (intro u hSu; (try dsimp only at hSu); go_simp; (try with_reducible rfl))
                  (try simp only [Act.put, List.setIfInBounds_toArray, List.set_cons_zero, List.set_cons_succ])
                  refine Man.take1 (i := 21) (v := ?_) rfl (by kernel_rfl) (by kernel_rfl) (by kernel_rfl) (fun _ _ _ h => h) (by rfl) ?_ (by assumption) ?_
                  rotate_left
                  · (intro u hSu; (try dsimp only at hSu); go_simp; (try with_reducible rfl))
                  (try simp only [Act.put, List.setIfInBounds_toArray, List.set_cons_zero, List.set_cons_succ])
                  refine Man.take1 (i := 22) (v := ?_) rfl (by kernel_rfl) (by kernel_rfl) (by kernel_rfl) (fun _ _ _ h => h) (by rfl) ?_ (by assumption) ?_
                  rotate_left
                  · (intro u hSu; (try dsimp only at hSu); go_simp; (try with_reducible rfl))
                  (try simp only [Act.put, List.setIfInBounds_toArray, List.set_cons_zero, List.set_cons_succ])
                  refine wpAnyH_done (by kernel_rfl) ?_ _
                  obtain ⟨_, _, _, _, _, hqb, hqz⟩ := hHeld
                  have HB2 := hidm (HB.out.then hqb)
                  clear hqb hqz SS0
                  go_wp2_with fail
                  go_roundw
                  case rel => exact ⟨i + 1, by omega, by go_num, HB2, HP2⟩
                  case measure => simp [intOf]; omega
              · have HP2 := hidm (show ∀ j, j < i + 1 → colAt s j = true from fun j hj => by
                  rcases Nat.lt_or_ge j i with h | h
                  · exact HP.out j h
                  · obtain rfl : j = i := by omega
                    rw [hat, hc, hp, decide_eq_true hik]; rfl)
                have HC := hidm hc
                have HP1 := hidm hp
                have hik2 : decide ((i : Int) < k) = false := decide_eq_false (by omega)
                clear hat hc hp
                go_wp2_with fail
                refine wp_region_held_drew (S := fun u => u.cell? ⟨w.heap.size, 1, none⟩ = some (.slice (some ⟨b1, o1, none⟩) n cap) ∧ u.cell? ⟨w.heap.size, 2, none⟩ = some (.int .i64 k) ∧ u.cell? ⟨wr.heap.size, 0, none⟩ = some (.string (S x.nm)) ∧ u.cell? ⟨wr.heap.size, 1, none⟩ = some (.int .i64 x.k) ∧ u.cell? ⟨wr.heap.size, 2, none⟩ = some (.bool dd) ∧ Below wr.heap.size wr u ∧ wr.heap.size ≤ u.heap.size) (by kernel_rfl) ?_ (fun hHeld => ?_)
                · exact five_step SS0.out ((Below.refl _ _).drew)
                refine Man.take1 (i := 0) (v := ?_) rfl (by kernel_rfl) (by kernel_rfl) (by kernel_rfl) (fun _ _ _ h => h) (by rfl) ?_ (by assumption) ?_
                rotate_left
                · (intro u hSu; (try dsimp only at hSu); go_simp; (try with_reducible rfl))
                (try simp only [Act.put, List.setIfInBounds_toArray, List.set_cons_zero, List.set_cons_succ])
                refine Man.one (i := 1) rfl (by kernel_rfl) (fun K hK => ?_)
                go_simp
                (go_at_call 59; (with_reducible refine (iscolumn_is HC.out HXL.out _).mono ?_); rintro e w' ⟨rfl, hb⟩)
                refine hK.out _ _ ?_ (fun hNew => ?_)
                · exact five_step hHeld hb
                clear hHeld hK K hb
                have hHeld := hNew
                clear hNew
                (try simp only [Act.put, List.setIfInBounds_toArray, List.set_cons_zero, List.set_cons_succ])
                refine Man.take1 (i := 2) (v := ?_) rfl (by kernel_rfl) (by kernel_rfl) (by kernel_rfl) (fun _ _ _ h => h) (by rfl) ?_ (by assumption) ?_
                rotate_left
                · (intro u hSu; (try dsimp only at hSu); go_simp; (try with_reducible rfl))
                (try simp only [Act.put, List.setIfInBounds_toArray, List.set_cons_zero, List.set_cons_succ])
                refine Man.take1 (i := 3) (v := ?_) rfl (by kernel_rfl) (by kernel_rfl) (by kernel_rfl) (fun _ _ _ h => h) (by rfl) ?_ (by assumption) ?_
                rotate_left
                · (intro u hSu; (try dsimp only at hSu); go_simp; (try with_reducible rfl))
                (try simp only [Act.put, List.setIfInBounds_toArray, List.set_cons_zero, List.set_cons_succ])
                refine Man.take1 (i := 4) (v := ?_) rfl (by kernel_rfl) (by kernel_rfl) (by kernel_rfl) (fun _ _ _ h => h) (by rfl) ?_ (by assumption) ?_
                rotate_left
                · (intro u hSu; (try dsimp only at hSu); go_simp; (try with_reducible rfl))
                (try simp only [Act.put, List.setIfInBounds_toArray, List.set_cons_zero, List.set_cons_succ])
                refine Man.take1 (i := 5) (v := ?_) rfl (by kernel_rfl) (by kernel_rfl) (by kernel_rfl) (fun _ _ _ h => h) (by rfl) ?_ (by assumption) ?_
                rotate_left
                · (intro u hSu; (try dsimp only at hSu); go_simp; (try with_reducible rfl))
                (try simp only [Act.put, List.setIfInBounds_toArray, List.set_cons_zero, List.set_cons_succ])
                refine Man.take1 (i := 6) (v := ?_) rfl (by kernel_rfl) (by kernel_rfl) (by kernel_rfl) (fun _ _ _ h => h) (by rfl) ?_ (by assumption) ?_
                rotate_left
                · (intro u hSu; (try dsimp only at hSu); go_simp; (try with_reducible rfl))
                (try simp only [Act.put, List.setIfInBounds_toArray, List.set_cons_zero, List.set_cons_succ])
                refine Man.take1 (i := 7) (v := ?_) rfl (by kernel_rfl) (by kernel_rfl) (by kernel_rfl) (fun _ _ _ h => h) (by rfl) ?_ (by assumption) ?_
                rotate_left
                · (intro u hSu; (try dsimp only at hSu); go_simp; (try with_reducible rfl))
                (try simp only [Act.put, List.setIfInBounds_toArray, List.set_cons_zero, List.set_cons_succ])
                refine Man.take1 (i := 8) (v := ?_) rfl (by kernel_rfl) (by kernel_rfl) (by kernel_rfl) (fun _ _ _ h => h) (by rfl) ?_ (by assumption) ?_
                rotate_left
                · (intro u hSu; (try dsimp only at hSu); go_simp; (try with_reducible rfl))
                (try simp only [Act.put, List.setIfInBounds_toArray, List.set_cons_zero, List.set_cons_succ])
                refine Man.take1 (i := 9) (v := ?_) rfl (by kernel_rfl) (by kernel_rfl) (by kernel_rfl) (fun _ _ _ h => h) (by rfl) ?_ (by assumption) ?_
                rotate_left
                · (intro u hSu; (try dsimp only at hSu); go_simp; (try with_reducible rfl))
                (try simp only [Act.put, List.setIfInBounds_toArray, List.set_cons_zero, List.set_cons_succ])
                refine Man.one (i := 10) rfl (by kernel_rfl) (fun K hK => ?_)
                go_simp
                (go_at_call 60; (with_reducible refine (hasname_is HP1.out _ _ ((HCA.out.later hHeld.2.2.2.2.2.1).take i (by omega))).mono ?_); rintro e w' ⟨rfl, hb⟩)
                refine hK.out _ _ ?_ (fun hNew => ?_)
                · exact five_step hHeld hb
                clear hHeld hK K hb
                have hHeld := hNew
                clear hNew
                (try simp only [Act.put, List.setIfInBounds_toArray, List.set_cons_zero, List.set_cons_succ])
                refine Man.take1 (i := 11) (v := ?_) rfl (by kernel_rfl) (by kernel_rfl) (by kernel_rfl) (fun _ _ _ h => h) (by rfl) ?_ (by assumption) ?_
                rotate_left
                · (intro u hSu; (try dsimp only at hSu); go_simp; (try with_reducible rfl))
                (try simp only [Act.put, List.setIfInBounds_toArray, List.set_cons_zero, List.set_cons_succ])
                refine Man.take1 (i := 12) (v := ?_) rfl (by kernel_rfl) (by kernel_rfl) (by kernel_rfl) (fun _ _ _ h => h) (by rfl) ?_ (by assumption) ?_
                rotate_left
                · (intro u hSu; (try dsimp only at hSu); go_simp; (try with_reducible rfl))
                (try simp only [Act.put, List.setIfInBounds_toArray, List.set_cons_zero, List.set_cons_succ])
                refine Man.take1 (i := 13) (v := ?_) rfl (by kernel_rfl) (by kernel_rfl) (by kernel_rfl) (fun _ _ _ h => h) (by rfl) ?_ (by assumption) ?_
                rotate_left
                · (intro u hSu; (try dsimp only at hSu); go_simp; (try with_reducible rfl))
                (try simp only [Act.put, List.setIfInBounds_toArray, List.set_cons_zero, List.set_cons_succ])
                refine Man.take1 (i := 14) (v := ?_) rfl (by kernel_rfl) (by kernel_rfl) (by kernel_rfl) (fun _ _ _ h => h) (by rfl) ?_ (by assumption) ?_
                rotate_left
                · (intro u hSu; (try dsimp only at hSu); go_simp; (try with_reducible rfl))
                (try simp only [Act.put, List.setIfInBounds_toArray, List.set_cons_zero, List.set_cons_succ])
                refine Man.take1 (i := 15) (v := ?_) rfl (by kernel_rfl) (by kernel_rfl) (by kernel_rfl) (fun _ _ _ h => h) (by rfl) ?_ (by assumption) ?_
                rotate_left
                · (intro u hSu; (try dsimp only at hSu); go_simp; (try with_reducible rfl))
                (try simp only [Act.put, List.setIfInBounds_toArray, List.set_cons_zero, List.set_cons_succ])
                refine Man.take1 (i := 16) (v := ?_) rfl (by kernel_rfl) (by kernel_rfl) (by kernel_rfl) (fun _ _ _ h => h) (by rfl) ?_ (by assumption) ?_
                rotate_left
                · (intro u hSu; (try dsimp only at hSu); go_simp; (try with_reducible rfl))
                (try simp only [Act.put, List.setIfInBounds_toArray, List.set_cons_zero, List.set_cons_succ])
                refine Man.take1 (i := 17) (v := ?_) rfl (by kernel_rfl) (by kernel_rfl) (by kernel_rfl) (fun _ _ _ h => h) (by rfl) ?_ (by assumption) ?_
                rotate_left
                · (intro u hSu; (try dsimp only at hSu); go_simp; (try with_reducible rfl))
                (try simp only [Act.put, List.setIfInBounds_toArray, List.set_cons_zero, List.set_cons_succ])
                refine Man.take0 (i := 18) rfl (by kernel_rfl) (by kernel_rfl) (by kernel_rfl) (fun _ _ _ h => h) (by rfl) (by assumption) ?_
                (try simp only [Act.put, List.setIfInBounds_toArray, List.set_cons_zero, List.set_cons_succ])
                refine Man.take0 (i := 19) rfl (by kernel_rfl) (by kernel_rfl) (by kernel_rfl) (fun _ _ _ h => h) (by rfl) (by assumption) ?_
                (try simp only [Act.put, List.setIfInBounds_toArray, List.set_cons_zero, List.set_cons_succ])
                refine Man.take0 (i := 20) rfl (by kernel_rfl) (by kernel_rfl) (by kernel_rfl) (fun _ _ _ h => h) (by rfl) (by assumption) ?_
                (try simp only [Act.put, List.setIfInBounds_toArray, List.set_cons_zero, List.set_cons_succ])
                refine Man.take1 (i := 21) (v := ?_) rfl (by kernel_rfl) (by kernel_rfl) (by kernel_rfl) (fun _ _ _ h => h) (by rfl) ?_ (by assumption) ?_
                rotate_left
                · (intro u hSu; (try dsimp only at hSu); go_simp; (try with_reducible rfl))
                (try simp only [Act.put, List.setIfInBounds_toArray, List.set_cons_zero, List.set_cons_succ])
                refine Man.take1 (i := 22) (v := ?_) rfl (by kernel_rfl) (by kernel_rfl) (by kernel_rfl) (fun _ _ _ h => h) (by rfl) ?_ (by assumption) ?_
                rotate_left
                · (intro u hSu; (try dsimp only at hSu); go_simp; (try with_reducible rfl))
                (try simp only [Act.put, List.setIfInBounds_toArray, List.set_cons_zero, List.set_cons_succ])
                refine wpAnyH_done (by kernel_rfl) ?_ _
                obtain ⟨_, _, _, _, _, hqb, hqz⟩ := hHeld
                have HB2 := hidm (HB.out.then hqb)
                clear hqb hqz SS0
                go_wp2_with fail
                go_roundw
                case rel => exact ⟨i + 1, by omega, by go_num, HB2, HP2⟩
                case measure => simp [intOf]; omega
            · have HFF := hidm (show F = false from by rw [HF.out]; exact right_no hia (by rw [hat, hc, hp]; rfl))
              have HC := hidm hc
              have HP1 := hidm hp
              clear hat hc hp
              go_wp2_with fail
              refine wp_region_held_drew (S := fun u => u.cell? ⟨w.heap.size, 1, none⟩ = some (.slice (some ⟨b1, o1, none⟩) n cap) ∧ u.cell? ⟨w.heap.size, 2, none⟩ = some (.int .i64 k) ∧ u.cell? ⟨wr.heap.size, 0, none⟩ = some (.string (S x.nm)) ∧ u.cell? ⟨wr.heap.size, 1, none⟩ = some (.int .i64 x.k) ∧ u.cell? ⟨wr.heap.size, 2, none⟩ = some (.bool dd) ∧ Below wr.heap.size wr u ∧ wr.heap.size ≤ u.heap.size) (by kernel_rfl) ?_ (fun hHeld => ?_)
              · exact five_step SS0.out ((Below.refl _ _).drew)
              refine Man.take1 (i := 0) (v := ?_) rfl (by kernel_rfl) (by kernel_rfl) (by kernel_rfl) (fun _ _ _ h => h) (by rfl) ?_ (by assumption) ?_
              rotate_left
              · (intro u hSu; (try dsimp only at hSu); go_simp; (try with_reducible rfl))
              (try simp only [Act.put, List.setIfInBounds_toArray, List.set_cons_zero, List.set_cons_succ])
              refine Man.one (i := 1) rfl (by kernel_rfl) (fun K hK => ?_)
              go_simp
              (go_at_call 59; (with_reducible refine (iscolumn_is HC.out HXL.out _).mono ?_); rintro e w' ⟨rfl, hb⟩)
              refine hK.out _ _ ?_ (fun hNew => ?_)
              · exact five_step hHeld hb
              clear hHeld hK K hb
              have hHeld := hNew
              clear hNew
              (try simp only [Act.put, List.setIfInBounds_toArray, List.set_cons_zero, List.set_cons_succ])
              refine Man.take1 (i := 2) (v := ?_) rfl (by kernel_rfl) (by kernel_rfl) (by kernel_rfl) (fun _ _ _ h => h) (by rfl) ?_ (by assumption) ?_
              rotate_left
              · (intro u hSu; (try dsimp only at hSu); go_simp; (try with_reducible rfl))
              (try simp only [Act.put, List.setIfInBounds_toArray, List.set_cons_zero, List.set_cons_succ])
              refine Man.take1 (i := 3) (v := ?_) rfl (by kernel_rfl) (by kernel_rfl) (by kernel_rfl) (fun _ _ _ h => h) (by rfl) ?_ (by assumption) ?_
              rotate_left
              · (intro u hSu; (try dsimp only at hSu); go_simp; (try with_reducible rfl))
              (try simp only [Act.put, List.setIfInBounds_toArray, List.set_cons_zero, List.set_cons_succ])
              refine Man.take1 (i := 4) (v := ?_) rfl (by kernel_rfl) (by kernel_rfl) (by kernel_rfl) (fun _ _ _ h => h) (by rfl) ?_ (by assumption) ?_
              rotate_left
              · (intro u hSu; (try dsimp only at hSu); go_simp; (try with_reducible rfl))
              (try simp only [Act.put, List.setIfInBounds_toArray, List.set_cons_zero, List.set_cons_succ])
              refine Man.take1 (i := 5) (v := ?_) rfl (by kernel_rfl) (by kernel_rfl) (by kernel_rfl) (fun _ _ _ h => h) (by rfl) ?_ (by assumption) ?_
              rotate_left
              · (intro u hSu; (try dsimp only at hSu); go_simp; (try with_reducible rfl))
              (try simp only [Act.put, List.setIfInBounds_toArray, List.set_cons_zero, List.set_cons_succ])
              refine Man.take1 (i := 6) (v := ?_) rfl (by kernel_rfl) (by kernel_rfl) (by kernel_rfl) (fun _ _ _ h => h) (by rfl) ?_ (by assumption) ?_
              rotate_left
              · (intro u hSu; (try dsimp only at hSu); go_simp; (try with_reducible rfl))
              (try simp only [Act.put, List.setIfInBounds_toArray, List.set_cons_zero, List.set_cons_succ])
              refine Man.take1 (i := 7) (v := ?_) rfl (by kernel_rfl) (by kernel_rfl) (by kernel_rfl) (fun _ _ _ h => h) (by rfl) ?_ (by assumption) ?_
              rotate_left
              · (intro u hSu; (try dsimp only at hSu); go_simp; (try with_reducible rfl))
              (try simp only [Act.put, List.setIfInBounds_toArray, List.set_cons_zero, List.set_cons_succ])
              refine Man.take1 (i := 8) (v := ?_) rfl (by kernel_rfl) (by kernel_rfl) (by kernel_rfl) (fun _ _ _ h => h) (by rfl) ?_ (by assumption) ?_
              rotate_left
              · (intro u hSu; (try dsimp only at hSu); go_simp; (try with_reducible rfl))
              (try simp only [Act.put, List.setIfInBounds_toArray, List.set_cons_zero, List.set_cons_succ])
              refine Man.take1 (i := 9) (v := ?_) rfl (by kernel_rfl) (by kernel_rfl) (by kernel_rfl) (fun _ _ _ h => h) (by rfl) ?_ (by assumption) ?_
              rotate_left
              · (intro u hSu; (try dsimp only at hSu); go_simp; (try with_reducible rfl))
              (try simp only [Act.put, List.setIfInBounds_toArray, List.set_cons_zero, List.set_cons_succ])
              refine Man.one (i := 10) rfl (by kernel_rfl) (fun K hK => ?_)
              go_simp
              (go_at_call 60; (with_reducible refine (hasname_is HP1.out _ _ ((HCA.out.later hHeld.2.2.2.2.2.1).take i (by omega))).mono ?_); rintro e w' ⟨rfl, hb⟩)
              refine hK.out _ _ ?_ (fun hNew => ?_)
              · exact five_step hHeld hb
              clear hHeld hK K hb
              have hHeld := hNew
              clear hNew
              (try simp only [Act.put, List.setIfInBounds_toArray, List.set_cons_zero, List.set_cons_succ])
              refine Man.take1 (i := 11) (v := ?_) rfl (by kernel_rfl) (by kernel_rfl) (by kernel_rfl) (fun _ _ _ h => h) (by rfl) ?_ (by assumption) ?_
              rotate_left
              · (intro u hSu; (try dsimp only at hSu); go_simp; (try with_reducible rfl))
              (try simp only [Act.put, List.setIfInBounds_toArray, List.set_cons_zero, List.set_cons_succ])
              refine Man.take1 (i := 12) (v := ?_) rfl (by kernel_rfl) (by kernel_rfl) (by kernel_rfl) (fun _ _ _ h => h) (by rfl) ?_ (by assumption) ?_
              rotate_left
              · (intro u hSu; (try dsimp only at hSu); go_simp; (try with_reducible rfl))
              (try simp only [Act.put, List.setIfInBounds_toArray, List.set_cons_zero, List.set_cons_succ])
              refine Man.take0 (i := 13) rfl (by kernel_rfl) (by kernel_rfl) (by kernel_rfl) (fun _ _ _ h => h) (by rfl) (by assumption) ?_
              (try simp only [Act.put, List.setIfInBounds_toArray, List.set_cons_zero, List.set_cons_succ])
              refine Man.take0 (i := 14) rfl (by kernel_rfl) (by kernel_rfl) (by kernel_rfl) (fun _ _ _ h => h) (by rfl) (by assumption) ?_
              (try simp only [Act.put, List.setIfInBounds_toArray, List.set_cons_zero, List.set_cons_succ])
              refine Man.take0 (i := 15) rfl (by kernel_rfl) (by kernel_rfl) (by kernel_rfl) (fun _ _ _ h => h) (by rfl) (by assumption) ?_
              (try simp only [Act.put, List.setIfInBounds_toArray, List.set_cons_zero, List.set_cons_succ])
              refine Man.take0 (i := 16) rfl (by kernel_rfl) (by kernel_rfl) (by kernel_rfl) (fun _ _ _ h => h) (by rfl) (by assumption) ?_
              (try simp only [Act.put, List.setIfInBounds_toArray, List.set_cons_zero, List.set_cons_succ])
              refine Man.take0 (i := 17) rfl (by kernel_rfl) (by kernel_rfl) (by kernel_rfl) (fun _ _ _ h => h) (by rfl) (by assumption) ?_
              (try simp only [Act.put, List.setIfInBounds_toArray, List.set_cons_zero, List.set_cons_succ])
              refine Man.take0 (i := 18) rfl (by kernel_rfl) (by kernel_rfl) (by kernel_rfl) (fun _ _ _ h => h) (by rfl) (by assumption) ?_
              (try simp only [Act.put, List.setIfInBounds_toArray, List.set_cons_zero, List.set_cons_succ])
              refine Man.take0 (i := 19) rfl (by kernel_rfl) (by kernel_rfl) (by kernel_rfl) (fun _ _ _ h => h) (by rfl) (by assumption) ?_
              (try simp only [Act.put, List.setIfInBounds_toArray, List.set_cons_zero, List.set_cons_succ])
              refine Man.take0 (i := 20) rfl (by kernel_rfl) (by kernel_rfl) (by kernel_rfl) (fun _ _ _ h => h) (by rfl) (by assumption) ?_
              (try simp only [Act.put, List.setIfInBounds_toArray, List.set_cons_zero, List.set_cons_succ])
              refine Man.take0 (i := 21) rfl (by kernel_rfl) (by kernel_rfl) (by kernel_rfl) (fun _ _ _ h => h) (by rfl) (by assumption) ?_
              (try simp only [Act.put, List.setIfInBounds_toArray, List.set_cons_zero, List.set_cons_succ])
              refine Man.take1 (i := 22) (v := ?_) rfl (by kernel_rfl) (by kernel_rfl) (by kernel_rfl) (fun _ _ _ h => h) (by rfl) ?_ (by assumption) ?_
              rotate_left
              · (intro u hSu; (try dsimp only at hSu); go_simp; (try with_reducible rfl))
              (try simp only [Act.put, List.setIfInBounds_toArray, List.set_cons_zero, List.set_cons_succ])
              refine wpAnyH_done (by kernel_rfl) ?_ _
              obtain ⟨_, _, _, _, _, hqb, hqz⟩ := hHeld
              have HB2 := hidm (HB.out.then hqb)
              clear hqb hqz SS0
              go_wp2_with fail
              go_ret
              exact ⟨Val.ret_bool HFF.out.symm, HB2.out.below⟩
        · obtain rfl : i = n := by omega
          have HFF := hidm (show F = true from by rw [HF.out]; exact right_yes HH.out (fun j hj => HP.out j (by rw [HN.out]; exact hj)))
          go_wp2_with fail
          go_ret
          exact ⟨Val.ret_bool HFF.out.symm, HB.out.below⟩
end Sch
end Go.Proofs.YtopmbhpjdmcabaaGreat
