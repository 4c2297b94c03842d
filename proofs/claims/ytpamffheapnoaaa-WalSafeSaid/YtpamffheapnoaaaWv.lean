/- The fixed calls of the layer's laws. No condition. -/
import Derived.Test.YtpamffheapnoaaaWu
namespace Go.Proofs.Ytpamffheapnoaaa
open Go.RowKit
namespace Wal
open Dsk (PD Mine KeepQ DiskIs Only Grow upd pad BoolsAt undoW redo)
open Crc (S S_of S_size S_append S_add hidm)
set_option maxHeartbeats 4000000 in
set_option maxRecDepth 100000 in
theorem fits_cells (L n u m : Nat) (hm : m ≤ 9223372036854775807) (w : World) (c0 : w.cell? ⟨L, 0, none⟩ = some (.pointer (some ⟨L, 0, none⟩))) (c3 : w.cell? ⟨L, 3, none⟩ = some (.int .i64 (n : Int))) (c6 : w.cell? ⟨L, 6, none⟩ = some (.int .i64 (u : Int))) (hb1 : n ≤ 1000) (hb2 : u ≤ n) : Calls Try.prog 26 #[.pointer (some ⟨L, 0, none⟩), .int .i64 (m : Int)] w fun e w' => e = .returned (.bool (decide ((m - 1) / 100 + 1 ≤ n - u))) ∧ Below w.heap.size w w' := by
  have C0 := hidm c0
  have C3 := hidm c3
  have C6 := hidm c6
  have P := hidm (fun w => parts_any m hm w)
  obtain ⟨k, hk⟩ : ∃ k, k = (m - 1) / 100 + 1 := ⟨_, rfl⟩
  rw [← hk] at P ⊢
  obtain ⟨r, hr⟩ : ∃ r, r = n - u := ⟨_, rfl⟩
  have hsub : (n : Int) - (u : Int) = (r : Int) := by omega
  have hwr : IntKind.i64.wrap (r : Int) = (r : Int) := by simp only [IntKind.wrap_i64]; omega
  have hm0 : (0 : Int) ≤ (m : Int) := by omega
  rw [← hr]
  clear hk hr c0 c3 c6
  by_cases hkr : k ≤ r
  · have f1 : (k : Int) ≤ (r : Int) := by omega
    go_enter Try.func26, Try.ntmps26
    go_wp2_with fail
    refine wp_region_held_drew (S := fun u' => u'.cell? ⟨L, 0, none⟩ = some (.pointer (some ⟨L, 0, none⟩)) ∧ u'.cell? ⟨L, 3, none⟩ = some (.int .i64 (n : Int)) ∧ u'.cell? ⟨L, 6, none⟩ = some (.int .i64 (u : Int)) ∧ Below w.heap.size w u') (by kernel_rfl) (⟨C0.out, C3.out, C6.out, (Below.refl _ _).drew⟩) (fun hHeld => ?_)
    refine Man.take1 (i := 0) (v := ?_) rfl (by kernel_rfl) (by kernel_rfl) (by kernel_rfl) (fun _ _ _ h => h) (by rfl) ?_ (by assumption) ?_
    rotate_left
    · (intro u hSu; (try dsimp only at hSu); go_simp; (try with_reducible rfl))
    (try simp only [Act.put, List.setIfInBounds_toArray, List.set_cons_zero, List.set_cons_succ])
    refine Man.one (i := 1) rfl (by kernel_rfl) (fun K hK => ?_)
    go_simp
    refine (lgiven_yes L _ hHeld.1).mono ?_
    rintro e w5 ⟨rfl, rfl⟩
    refine hK.out _ _ (hHeld) (fun hNew => ?_)
    clear hK K hHeld
    have hHeld := hNew
    clear hNew
    (try simp only [Act.put, List.setIfInBounds_toArray, List.set_cons_zero, List.set_cons_succ])
    refine Man.take1 (i := 2) (v := ?_) rfl (by kernel_rfl) (by kernel_rfl) (by kernel_rfl) (fun _ _ _ h => h) (by rfl) ?_ (by assumption) ?_
    rotate_left
    · (intro u hSu; (try dsimp only at hSu); go_simp; (try with_reducible rfl))
    (try simp only [Act.put, List.setIfInBounds_toArray, List.set_cons_zero, List.set_cons_succ])
    refine Man.take1 (i := 3) (v := ?_) rfl (by kernel_rfl) (by kernel_rfl) (by kernel_rfl) (fun _ _ _ h => h) (by rfl) ?_ (by assumption) ?_
    rotate_left
    · (intro u hSu; (try dsimp only at hSu); go_simp; (try with_reducible rfl))
    (try simp only [Act.put, List.setIfInBounds_toArray, List.set_cons_zero, List.set_cons_succ])
    refine Man.take1 (i := 4) (v := ?_) rfl (by kernel_rfl) (by kernel_rfl) (by kernel_rfl) (fun _ _ _ h => h) (by rfl) ?_ (by assumption) ?_
    rotate_left
    · (intro u hSu; (try dsimp only at hSu); go_simp; (try with_reducible rfl))
    (try simp only [Act.put, List.setIfInBounds_toArray, List.set_cons_zero, List.set_cons_succ])
    refine Man.take1 (i := 5) (v := ?_) rfl (by kernel_rfl) (by kernel_rfl) (by kernel_rfl) (fun _ _ _ h => h) (by rfl) ?_ (by assumption) ?_
    rotate_left
    · (intro u hSu; (try dsimp only at hSu); go_simp; (try with_reducible rfl))
    (try simp only [Act.put, List.setIfInBounds_toArray, List.set_cons_zero, List.set_cons_succ])
    refine Man.take1 (i := 6) (v := ?_) rfl (by kernel_rfl) (by kernel_rfl) (by kernel_rfl) (fun _ _ _ h => h) (by rfl) ?_ (by assumption) ?_
    rotate_left
    · (intro u hSu; (try dsimp only at hSu); go_simp; (try with_reducible rfl))
    (try simp only [Act.put, List.setIfInBounds_toArray, List.set_cons_zero, List.set_cons_succ])
    refine Man.take1 (i := 7) (v := ?_) rfl (by kernel_rfl) (by kernel_rfl) (by kernel_rfl) (fun _ _ _ h => h) (by rfl) ?_ (by assumption) ?_
    rotate_left
    · (intro u hSu; (try dsimp only at hSu); go_simp; (try with_reducible rfl))
    (try simp only [Act.put, List.setIfInBounds_toArray, List.set_cons_zero, List.set_cons_succ])
    refine Man.take1 (i := 9) (v := ?_) rfl (by kernel_rfl) (by kernel_rfl) (by kernel_rfl) (fun _ _ _ h => h) (by rfl) ?_ (by assumption) ?_
    rotate_left
    · (intro u hSu; (try dsimp only at hSu); go_simp; (try with_reducible rfl))
    (try simp only [Act.put, List.setIfInBounds_toArray, List.set_cons_zero, List.set_cons_succ])
    refine Man.take1 (i := 10) (v := ?_) rfl (by kernel_rfl) (by kernel_rfl) (by kernel_rfl) (fun _ _ _ h => h) (by rfl) ?_ (by assumption) ?_
    rotate_left
    · (intro u hSu; (try dsimp only at hSu); go_simp; (try with_reducible rfl))
    (try simp only [Act.put, List.setIfInBounds_toArray, List.set_cons_zero, List.set_cons_succ])
    refine Man.take1 (i := 11) (v := ?_) rfl (by kernel_rfl) (by kernel_rfl) (by kernel_rfl) (fun _ _ _ h => h) (by rfl) ?_ (by assumption) ?_
    rotate_left
    · (intro u hSu; (try dsimp only at hSu); go_simp; (try with_reducible rfl))
    (try simp only [Act.put, List.setIfInBounds_toArray, List.set_cons_zero, List.set_cons_succ])
    refine Man.take1 (i := 12) (v := ?_) rfl (by kernel_rfl) (by kernel_rfl) (by kernel_rfl) (fun _ _ _ h => h) (by rfl) ?_ (by assumption) ?_
    rotate_left
    · (intro u hSu; (try dsimp only at hSu); go_simp; (try with_reducible rfl))
    (try simp only [Act.put, List.setIfInBounds_toArray, List.set_cons_zero, List.set_cons_succ])
    refine Man.take1 (i := 13) (v := ?_) rfl (by kernel_rfl) (by kernel_rfl) (by kernel_rfl) (fun _ _ _ h => h) (by rfl) ?_ (by assumption) ?_
    rotate_left
    · (intro u hSu; (try dsimp only at hSu); go_simp; (try with_reducible rfl))
    (try simp only [Act.put, List.setIfInBounds_toArray, List.set_cons_zero, List.set_cons_succ])
    refine Man.take1 (i := 14) (v := ?_) rfl (by kernel_rfl) (by kernel_rfl) (by kernel_rfl) (fun _ _ _ h => h) (by rfl) ?_ (by assumption) ?_
    rotate_left
    · (intro u hSu; (try dsimp only at hSu); go_simp; (try with_reducible rfl))
    (try simp only [Act.put, List.setIfInBounds_toArray, List.set_cons_zero, List.set_cons_succ])
    refine Man.take1 (i := 15) (v := ?_) rfl (by kernel_rfl) (by kernel_rfl) (by kernel_rfl) (fun _ _ _ h => h) (by rfl) ?_ (by assumption) ?_
    rotate_left
    · (intro u hSu; (try dsimp only at hSu); go_simp; (try with_reducible rfl))
    (try simp only [Act.put, List.setIfInBounds_toArray, List.set_cons_zero, List.set_cons_succ])
    refine Man.take1 (i := 16) (v := ?_) rfl (by kernel_rfl) (by kernel_rfl) (by kernel_rfl) (fun _ _ _ h => h) (by rfl) ?_ (by assumption) ?_
    rotate_left
    · (intro u hSu; (try dsimp only at hSu); go_simp; (try with_reducible rfl))
    (try simp only [Act.put, List.setIfInBounds_toArray, List.set_cons_zero, List.set_cons_succ])
    refine Man.take1 (i := 17) (v := ?_) rfl (by kernel_rfl) (by kernel_rfl) (by kernel_rfl) (fun _ _ _ h => h) (by rfl) ?_ (by assumption) ?_
    rotate_left
    · (intro u hSu; (try dsimp only at hSu); go_simp; (try with_reducible rfl))
    (try simp only [Act.put, List.setIfInBounds_toArray, List.set_cons_zero, List.set_cons_succ])
    refine Man.one (i := 8) rfl (by kernel_rfl) (fun K hK => ?_)
    go_simp
    refine (P.out _).mono ?_
    rintro e w5 ⟨rfl, rfl⟩
    refine hK.out _ _ (hHeld) (fun hNew => ?_)
    clear hK K hHeld
    have hHeld := hNew
    clear hNew
    (try simp only [Act.put, List.setIfInBounds_toArray, List.set_cons_zero, List.set_cons_succ])
    refine Man.take1 (i := 18) (v := ?_) rfl (by kernel_rfl) (by kernel_rfl) (by kernel_rfl) (fun _ _ _ h => h) (by rfl) ?_ (by assumption) ?_
    rotate_left
    · (intro u hSu; (try dsimp only at hSu); go_simp; (try with_reducible rfl))
    (try simp only [Act.put, List.setIfInBounds_toArray, List.set_cons_zero, List.set_cons_succ])
    refine Man.take1 (i := 19) (v := ?_) rfl (by kernel_rfl) (by kernel_rfl) (by kernel_rfl) (fun _ _ _ h => h) (by rfl) ?_ (by assumption) ?_
    rotate_left
    · (intro u hSu; (try dsimp only at hSu); go_simp; (try with_reducible rfl))
    (try simp only [Act.put, List.setIfInBounds_toArray, List.set_cons_zero, List.set_cons_succ])
    refine Man.take1 (i := 20) (v := ?_) rfl (by kernel_rfl) (by kernel_rfl) (by kernel_rfl) (fun _ _ _ h => h) (by rfl) ?_ (by assumption) ?_
    rotate_left
    · (intro u hSu; (try dsimp only at hSu); go_simp; (try with_reducible rfl))
    (try simp only [Act.put, List.setIfInBounds_toArray, List.set_cons_zero, List.set_cons_succ])
    refine wpAnyH_done (by kernel_rfl) ?_ _
    go_wp2_with fail
    go_ret
    exact ⟨by simp [hkr], hHeld.2.2.2⟩
  · have f1 : decide ((k : Int) ≤ (r : Int)) = false := by simp; omega
    go_enter Try.func26, Try.ntmps26
    go_wp2_with fail
    refine wp_region_held_drew (S := fun u' => u'.cell? ⟨L, 0, none⟩ = some (.pointer (some ⟨L, 0, none⟩)) ∧ u'.cell? ⟨L, 3, none⟩ = some (.int .i64 (n : Int)) ∧ u'.cell? ⟨L, 6, none⟩ = some (.int .i64 (u : Int)) ∧ Below w.heap.size w u') (by kernel_rfl) (⟨C0.out, C3.out, C6.out, (Below.refl _ _).drew⟩) (fun hHeld => ?_)
    refine Man.take1 (i := 0) (v := ?_) rfl (by kernel_rfl) (by kernel_rfl) (by kernel_rfl) (fun _ _ _ h => h) (by rfl) ?_ (by assumption) ?_
    rotate_left
    · (intro u hSu; (try dsimp only at hSu); go_simp; (try with_reducible rfl))
    (try simp only [Act.put, List.setIfInBounds_toArray, List.set_cons_zero, List.set_cons_succ])
    refine Man.one (i := 1) rfl (by kernel_rfl) (fun K hK => ?_)
    go_simp
    refine (lgiven_yes L _ hHeld.1).mono ?_
    rintro e w5 ⟨rfl, rfl⟩
    refine hK.out _ _ (hHeld) (fun hNew => ?_)
    clear hK K hHeld
    have hHeld := hNew
    clear hNew
    (try simp only [Act.put, List.setIfInBounds_toArray, List.set_cons_zero, List.set_cons_succ])
    refine Man.take1 (i := 2) (v := ?_) rfl (by kernel_rfl) (by kernel_rfl) (by kernel_rfl) (fun _ _ _ h => h) (by rfl) ?_ (by assumption) ?_
    rotate_left
    · (intro u hSu; (try dsimp only at hSu); go_simp; (try with_reducible rfl))
    (try simp only [Act.put, List.setIfInBounds_toArray, List.set_cons_zero, List.set_cons_succ])
    refine Man.take1 (i := 3) (v := ?_) rfl (by kernel_rfl) (by kernel_rfl) (by kernel_rfl) (fun _ _ _ h => h) (by rfl) ?_ (by assumption) ?_
    rotate_left
    · (intro u hSu; (try dsimp only at hSu); go_simp; (try with_reducible rfl))
    (try simp only [Act.put, List.setIfInBounds_toArray, List.set_cons_zero, List.set_cons_succ])
    refine Man.take1 (i := 4) (v := ?_) rfl (by kernel_rfl) (by kernel_rfl) (by kernel_rfl) (fun _ _ _ h => h) (by rfl) ?_ (by assumption) ?_
    rotate_left
    · (intro u hSu; (try dsimp only at hSu); go_simp; (try with_reducible rfl))
    (try simp only [Act.put, List.setIfInBounds_toArray, List.set_cons_zero, List.set_cons_succ])
    refine Man.take1 (i := 5) (v := ?_) rfl (by kernel_rfl) (by kernel_rfl) (by kernel_rfl) (fun _ _ _ h => h) (by rfl) ?_ (by assumption) ?_
    rotate_left
    · (intro u hSu; (try dsimp only at hSu); go_simp; (try with_reducible rfl))
    (try simp only [Act.put, List.setIfInBounds_toArray, List.set_cons_zero, List.set_cons_succ])
    refine Man.take1 (i := 6) (v := ?_) rfl (by kernel_rfl) (by kernel_rfl) (by kernel_rfl) (fun _ _ _ h => h) (by rfl) ?_ (by assumption) ?_
    rotate_left
    · (intro u hSu; (try dsimp only at hSu); go_simp; (try with_reducible rfl))
    (try simp only [Act.put, List.setIfInBounds_toArray, List.set_cons_zero, List.set_cons_succ])
    refine Man.take1 (i := 7) (v := ?_) rfl (by kernel_rfl) (by kernel_rfl) (by kernel_rfl) (fun _ _ _ h => h) (by rfl) ?_ (by assumption) ?_
    rotate_left
    · (intro u hSu; (try dsimp only at hSu); go_simp; (try with_reducible rfl))
    (try simp only [Act.put, List.setIfInBounds_toArray, List.set_cons_zero, List.set_cons_succ])
    refine Man.take1 (i := 9) (v := ?_) rfl (by kernel_rfl) (by kernel_rfl) (by kernel_rfl) (fun _ _ _ h => h) (by rfl) ?_ (by assumption) ?_
    rotate_left
    · (intro u hSu; (try dsimp only at hSu); go_simp; (try with_reducible rfl))
    (try simp only [Act.put, List.setIfInBounds_toArray, List.set_cons_zero, List.set_cons_succ])
    refine Man.take1 (i := 10) (v := ?_) rfl (by kernel_rfl) (by kernel_rfl) (by kernel_rfl) (fun _ _ _ h => h) (by rfl) ?_ (by assumption) ?_
    rotate_left
    · (intro u hSu; (try dsimp only at hSu); go_simp; (try with_reducible rfl))
    (try simp only [Act.put, List.setIfInBounds_toArray, List.set_cons_zero, List.set_cons_succ])
    refine Man.take1 (i := 11) (v := ?_) rfl (by kernel_rfl) (by kernel_rfl) (by kernel_rfl) (fun _ _ _ h => h) (by rfl) ?_ (by assumption) ?_
    rotate_left
    · (intro u hSu; (try dsimp only at hSu); go_simp; (try with_reducible rfl))
    (try simp only [Act.put, List.setIfInBounds_toArray, List.set_cons_zero, List.set_cons_succ])
    refine Man.take1 (i := 12) (v := ?_) rfl (by kernel_rfl) (by kernel_rfl) (by kernel_rfl) (fun _ _ _ h => h) (by rfl) ?_ (by assumption) ?_
    rotate_left
    · (intro u hSu; (try dsimp only at hSu); go_simp; (try with_reducible rfl))
    (try simp only [Act.put, List.setIfInBounds_toArray, List.set_cons_zero, List.set_cons_succ])
    refine Man.take1 (i := 13) (v := ?_) rfl (by kernel_rfl) (by kernel_rfl) (by kernel_rfl) (fun _ _ _ h => h) (by rfl) ?_ (by assumption) ?_
    rotate_left
    · (intro u hSu; (try dsimp only at hSu); go_simp; (try with_reducible rfl))
    (try simp only [Act.put, List.setIfInBounds_toArray, List.set_cons_zero, List.set_cons_succ])
    refine Man.take1 (i := 14) (v := ?_) rfl (by kernel_rfl) (by kernel_rfl) (by kernel_rfl) (fun _ _ _ h => h) (by rfl) ?_ (by assumption) ?_
    rotate_left
    · (intro u hSu; (try dsimp only at hSu); go_simp; (try with_reducible rfl))
    (try simp only [Act.put, List.setIfInBounds_toArray, List.set_cons_zero, List.set_cons_succ])
    refine Man.take1 (i := 15) (v := ?_) rfl (by kernel_rfl) (by kernel_rfl) (by kernel_rfl) (fun _ _ _ h => h) (by rfl) ?_ (by assumption) ?_
    rotate_left
    · (intro u hSu; (try dsimp only at hSu); go_simp; (try with_reducible rfl))
    (try simp only [Act.put, List.setIfInBounds_toArray, List.set_cons_zero, List.set_cons_succ])
    refine Man.take1 (i := 16) (v := ?_) rfl (by kernel_rfl) (by kernel_rfl) (by kernel_rfl) (fun _ _ _ h => h) (by rfl) ?_ (by assumption) ?_
    rotate_left
    · (intro u hSu; (try dsimp only at hSu); go_simp; (try with_reducible rfl))
    (try simp only [Act.put, List.setIfInBounds_toArray, List.set_cons_zero, List.set_cons_succ])
    refine Man.take1 (i := 17) (v := ?_) rfl (by kernel_rfl) (by kernel_rfl) (by kernel_rfl) (fun _ _ _ h => h) (by rfl) ?_ (by assumption) ?_
    rotate_left
    · (intro u hSu; (try dsimp only at hSu); go_simp; (try with_reducible rfl))
    (try simp only [Act.put, List.setIfInBounds_toArray, List.set_cons_zero, List.set_cons_succ])
    refine Man.one (i := 8) rfl (by kernel_rfl) (fun K hK => ?_)
    go_simp
    refine (P.out _).mono ?_
    rintro e w5 ⟨rfl, rfl⟩
    refine hK.out _ _ (hHeld) (fun hNew => ?_)
    clear hK K hHeld
    have hHeld := hNew
    clear hNew
    (try simp only [Act.put, List.setIfInBounds_toArray, List.set_cons_zero, List.set_cons_succ])
    refine Man.take1 (i := 18) (v := ?_) rfl (by kernel_rfl) (by kernel_rfl) (by kernel_rfl) (fun _ _ _ h => h) (by rfl) ?_ (by assumption) ?_
    rotate_left
    · (intro u hSu; (try dsimp only at hSu); go_simp; (try with_reducible rfl))
    (try simp only [Act.put, List.setIfInBounds_toArray, List.set_cons_zero, List.set_cons_succ])
    refine Man.take1 (i := 19) (v := ?_) rfl (by kernel_rfl) (by kernel_rfl) (by kernel_rfl) (fun _ _ _ h => h) (by rfl) ?_ (by assumption) ?_
    rotate_left
    · (intro u hSu; (try dsimp only at hSu); go_simp; (try with_reducible rfl))
    (try simp only [Act.put, List.setIfInBounds_toArray, List.set_cons_zero, List.set_cons_succ])
    refine Man.take1 (i := 20) (v := ?_) rfl (by kernel_rfl) (by kernel_rfl) (by kernel_rfl) (fun _ _ _ h => h) (by rfl) ?_ (by assumption) ?_
    rotate_left
    · (intro u hSu; (try dsimp only at hSu); go_simp; (try with_reducible rfl))
    (try simp only [Act.put, List.setIfInBounds_toArray, List.set_cons_zero, List.set_cons_succ])
    refine wpAnyH_done (by kernel_rfl) ?_ _
    go_wp2_with fail
    go_ret
    exact ⟨by simp [hkr], hHeld.2.2.2⟩
section
variable {W : World} {Q : Nat → Prop} {L D F n N k t b : Nat} {A B : List R} {w w' : World} {d : PD}
/-- A crash that keeps nothing. -/
theorem Bd.crash_none (h : Bd F n t b d A B) : Cn F n t b (d.crash []).f A := by
  have hu : (d.crash []).f = undoW d.f d.cs := by
    show redo (undoW d.f d.cs) d.cs [] = _
    unfold redo
    rw [List.zip_nil_right]; rfl
  rw [hu]
  refine ⟨h.slots, fun i hi p hp => ?_, h.a1, ?_, h.mono, by have := h.room; omega⟩
  · by_cases h1 : i < tot A
    · rw [h.a1 i h1] at hp
      exact h.mono.pat i p hp
    · exact Nat.le_of_lt (h.old i (by omega) hi p hp)
  · have hroom := h.room
    exact go_mixed (t := t) (n - tot A) (tot A) (st (lt b A)) [] (fun j h1 h2 p hp => h.old j h1 (by omega) p hp) (fun j _ _ => .inl rfl) h.stop (fun _ => .inl rfl)
/-- A life in which nothing is left to be lost is at rest. -/
theorem Life.rest (h : Life F n t b d A []) : Cn F n t b d.f A ∧ d.cs = [] := by
  have hc : d.cs = [] := by
    cases hcs : d.cs with
    | nil => rfl
    | cons x l =>
      obtain ⟨i, h1, _⟩ := h.bd.cs x (by rw [hcs]; exact List.mem_cons_self ..)
      simp [tot] at h1
  refine ⟨?_, hc⟩
  have hu0 : undoW d.f d.cs = d.f := by rw [hc]; rfl
  have hs := h.bd.stop
  rw [hu0] at hs
  have hroom := h.bd.room
  refine ⟨h.bd.slot_same, h.turns, h.bd.pl_left, ?_, h.bd.mono, by omega⟩
  exact go_mixed (t := t) (pl' := plF F d.f) (n - tot A) (tot A) (st (lt b A)) [] (fun j h1 h2 p hp => h.bd.old j h1 (by omega) p (hu0.symm ▸ hp)) (fun j _ _ => .inl rfl) hs (fun _ => .inl rfl)
/-- The disk beneath a log, and the log's own cells. -/
theorem Lg.under (h : Lg W Q L D F n N k t b A B w) : ∃ (U : Nat → Prop) (d : PD), Mine W (fun j => Q j ∨ U j) D d w ∧ Life F n t b d A B ∧ Few k N d ∧ d.fu = false ∧ U L ∧ w.cell? ⟨L, 0, none⟩ = some (.pointer (some ⟨L, 0, none⟩)) ∧ w.cell? ⟨L, 3, none⟩ = some (.int .i64 (n : Int)) ∧ w.cell? ⟨L, 6, none⟩ = some (.int .i64 ((tot (A ++ B) : Nat) : Int)) ∧ L < w.heap.size := by
  obtain ⟨d, hp, hl, hw, hfu⟩ := h.ex
  obtain ⟨c0, _, _, c3, _, c6, _⟩ := hp.cells
  obtain ⟨U, sl, hm, hlg, _⟩ := hp.ex
  exact ⟨U, d, hm, hl, hw, hfu, hlg.uL, c0, c3, c6, lt_of_block hlg.row⟩
theorem Lg.far (h : Lg W Q L D F n N k t b A B w) (F2 n2 : Nat) (hn : 4 ≤ n2 ∧ n2 ≤ 1000) (hF : F2 ≤ 4096) (hfar : N < F2 + n2) : Calls Try.prog 15 #[.pointer (some ⟨D, 0, none⟩), .int .i64 (F2 : Int), .int .i64 (n2 : Int)] w fun e w' => e = .returned (.tuple #[.pointer none, .int .i64 1]) ∧ w = w' := by
  obtain ⟨U, d, hm, hl, hw, hfu, _⟩ := h.under
  exact open_far hm F2 n2 hn hF (by rw [hw.n]; exact hfar) hm.ok.1
/-- A crash that keeps nothing, beneath a log. -/
theorem Lg.lost (h : Lg W Q L D F n N k t b A B w) : Calls Try.prog 19 #[.pointer (some ⟨D, 0, none⟩), .slice none 0 0] w fun e w' => e = .returned (.int .i64 0) ∧ Rest W Q D F n N k t b A w' ∧ KeepQ Q w w' := by
  obtain ⟨U, d, hm, hl, hw, hfu, _⟩ := h.under
  have hc := Dsk.m_crash (ks := []) none 0 hm (Nat.zero_le _) (BoolsAt.nil w) (fun h => absurd rfl h)
  refine hc.mono fun e w' h1 => ?_
  obtain ⟨he, hm', hk⟩ := h1
  refine ⟨he, ⟨d.crash [], ?_, hl.bd.crash_none, ⟨hw.n, Nat.zero_le _, hw.wr, hw.fl⟩, rfl, rfl⟩, fun j hj => hk j (.inl hj)⟩
  obtain ⟨⟨T, hT, hq⟩, hB, hql⟩ := hm'
  exact ⟨⟨T, hT, fun j hj => ⟨(hq j hj).1, fun e => (hq j hj).2 (.inl e)⟩⟩, hB, fun j hj => hql j (.inl hj)⟩
/-- A log that has nothing to lose: its disk is at rest; its cells are kept. -/
theorem Lg.settle (h : Lg W Q L D F n N k t b A [] w) : ∃ Q' : Nat → Prop, Rest W Q' D F n N k t b A w ∧ (∀ j, Q j → Q' j) ∧ Q' L ∧ w.cell? ⟨L, 0, none⟩ = some (.pointer (some ⟨L, 0, none⟩)) ∧ w.cell? ⟨L, 3, none⟩ = some (.int .i64 (n : Int)) ∧ w.cell? ⟨L, 6, none⟩ = some (.int .i64 ((tot A : Nat) : Int)) ∧ L < w.heap.size := by
  obtain ⟨U, d, hm, hl, hw, hfu, hU, c0, c3, c6, hL⟩ := h.under
  obtain ⟨hc, hcs⟩ := hl.rest
  rw [List.append_nil] at c6
  exact ⟨_, ⟨d, hm, hc, hw, hcs, hfu⟩, fun j hj => .inl hj, .inr hU, c0, c3, c6, hL⟩
end
theorem keep_cell {Q : Nat → Prop} {w w' : World} {L j : Nat} {v : Value} (hk : KeepQ Q w w') (hQ : Q L) (hc : w.cell? ⟨L, j, none⟩ = some v) : w'.cell? ⟨L, j, none⟩ = some v := by
  rw [World.cell?_of_block (hk L hQ)]; exact hc
theorem str_one1 (c : UInt8) (w : World) : StrsAt [[c]] (.slice (some ⟨w.heap.size, 0, none⟩) 1 1) (w.alloc (.cells #[.string ⟨#[c]⟩] 9)) := by
  refine ⟨_, 1, rfl, Nat.le_refl _, by omega, fun _ => ⟨w.heap.size, 0, rfl, by simp, fun j hj => ?_⟩⟩
  have hj0 : j = 0 := by simp at hj; omega
  subst hj0
  rw [cell_of_row _ _ _ _ _ (0, 0) (heap_alloc_last w _)]
  rfl
set_option maxHeartbeats 8000000 in
set_option maxRecDepth 100000 in
theorem known_any (w : World) : Calls Try.prog 9 #[] w fun e w' => e = .returned (.bool true) ∧ Below w.heap.size w w' := by
  have N0 := hidm (Dsk.m_new (W := w) (w := w) 20 (by omega) (by omega) (Below.refl _ _))
  go_enter Try.func9, Try.ntmps9
  go_wp2_with fail
  refine N0.out.mono ?_
  rintro e w1 ⟨rfl, hm1, hb1⟩
  have R1 := hidm (Rest.new (F := 2) (n := 8) hm1)
  obtain ⟨D, hD⟩ : ∃ D, D = w.heap.size + 1 := ⟨_, rfl⟩
  rw [← hD] at R1 ⊢
  clear hD hm1 hb1 N0
  go_wp2_with fail
  refine (R1.out.open 10 rfl (by omega) (by omega) (by omega) (by omega) (by omega)).mono ?_
  rintro e w2 ⟨L, rfl, h2, _, _⟩
  have H2 := hidm h2
  clear h2 R1
  go_wp2_with fail
  refine (H2.out.far 12 10 (by omega) (by omega) (by omega)).mono ?_
  rintro e w3 ⟨rfl, rfl⟩
  go_wp2_with fail
  refine (H2.out.append ⟨#[97]⟩ (by decide) (by omega)).mono ?_
  rintro e w3 ⟨rfl, h3, _⟩
  have H3 := hidm h3
  clear h3 H2
  go_wp2_with fail
  refine (H3.out.commit (by omega)).mono ?_
  rintro e w4 ⟨rfl, h4, _⟩
  have H4 := hidm h4
  clear h4 H3
  go_wp2_with fail
  refine (H4.out.append ⟨#[98]⟩ (by decide) (by omega)).mono ?_
  rintro e w5 ⟨rfl, h5, _⟩
  have H5 := hidm h5
  clear h5 H4
  go_wp2_with fail
  refine H5.out.used.mono ?_
  rintro e w6 ⟨rfl, rfl⟩
  go_wp2_with fail
  refine H5.out.lost.mono ?_
  rintro e w6 ⟨rfl, h6, _⟩
  have R6 := hidm h6
  clear h6 H5
  go_wp2_with fail
  refine (R6.out.open 10 rfl (by omega) (by omega) (by omega) (by omega) (by omega)).mono ?_
  rintro e w7 ⟨M, rfl, h7, _, _⟩
  have H7 := hidm h7
  clear h7 R6
  go_wp2_with fail
  refine H7.out.records.mono ?_
  rintro e w8 ⟨ao, c, rfl, hown, hb⟩
  have H8 := hidm (H7.out.guard hb)
  have HO8 := hidm hown
  clear hown hb H7
  go_wp2_with fail
  refine (H8.out.reset (by omega) (by omega)).mono ?_
  rintro e w9 ⟨rfl, h9, k9⟩
  have H9 := hidm h9
  have HO9 := hidm (Dsk.ownsRow_of HO8.out (fun k hk => k9 k (.inr (HO8.out.lt k hk))))
  have HOR := hidm (fun k hk => (HO8.out.lt k hk))
  clear h9 k9 H8 HO8
  go_wp2_with fail
  refine H9.out.gen.mono ?_
  rintro e w10 ⟨rfl, rfl⟩
  obtain ⟨Q9, r9, hq9, hQM, m0, m3, m6, hML⟩ := (H9.out.guard (Below.refl _ _)).settle
  have R9 := hidm r9
  have M9 := hidm (show Q9 M ∧ w9.cell? ⟨M, 0, none⟩ = some (.pointer (some ⟨M, 0, none⟩)) ∧ w9.cell? ⟨M, 3, none⟩ = some (.int .i64 ((8 : Nat) : Int)) ∧ w9.cell? ⟨M, 6, none⟩ = some (.int .i64 ((0 : Nat) : Int)) from ⟨hQM, m0, m3, m6⟩)
  have HQ9 := hidm (show ∀ k, w7.heap.size ≤ k ∧ k < w8.heap.size → Q9 k from fun k hk => hq9 k (.inl (.inr hk)))
  clear r9 hq9 hQM m0 m3 m6 hML
  go_wp2_with fail
  refine (R9.out.open 10 rfl (by omega) (by omega) (by omega) (by omega) (by omega)).mono ?_
  rintro e w10 ⟨O, rfl, h10, k10, _⟩
  have H10 := hidm h10
  have M10 := hidm (show w10.cell? ⟨M, 0, none⟩ = some (.pointer (some ⟨M, 0, none⟩)) ∧ w10.cell? ⟨M, 3, none⟩ = some (.int .i64 ((8 : Nat) : Int)) ∧ w10.cell? ⟨M, 6, none⟩ = some (.int .i64 ((0 : Nat) : Int)) from ⟨keep_cell k10 M9.out.1 M9.out.2.1, keep_cell k10 M9.out.1 M9.out.2.2.1, keep_cell k10 M9.out.1 M9.out.2.2.2⟩)
  have HO10 := hidm (Dsk.ownsRow_of HO9.out (fun k hk => k10 k (HQ9.out k (HOR.out k hk))))
  clear h10 k10 HO9 HOR HQ9 M9 R9 H9
  obtain ⟨sx, hsx⟩ : ∃ sx, sx = S (sealB [120, 121]) := ⟨_, rfl⟩
  have SE := hidm (show ∀ w, Calls Try.prog 12 #[.string ⟨#[120, 121]⟩] w fun e w' => e = .returned (.string sx) ∧ Below w.heap.size w w' from fun w => by rw [hsx]; exact seal_any ⟨#[120, 121]⟩ (by decide) w)
  have hsxs : sx.size = 7 := by rw [hsx, S_size]; exact sealB_len (by decide)
  have hlim : ¬ 9223372036854775807 < sx.size + 1 := by omega
  obtain ⟨y, hy⟩ : ∃ y, y = sx ++ ⟨#[122]⟩ := ⟨_, rfl⟩
  have HY := hidm hy.symm
  have UN := hidm (show ∀ w, Calls Try.prog 10 #[.string y] w fun e w' => e = .returned (.tuple #[.string ⟨#[120, 121]⟩, .bool true]) ∧ Below w.heap.size w w' from fun w => by
    have h := unseal_any y (by rw [hy, ByteArray.size_append, hsxs]; decide) w
    have hu : un y.data.toList = some [120, 121] := by
      rw [hy, hsx, ByteArray.data_append, Array.toList_append]
      exact un_seal (b := [120, 121]) (by decide) [122]
    rw [hu] at h
    exact h)
  clear hsx hsxs hy
  have htot : tot ([(1, [97]), (1, [98])] : List R) = 2 := by decide
  have HSA := hidm (show ∀ w', Below w10.heap.size w10 w' → StrsAt [[97]] (.slice ao 1 c) w' from fun w' hb => StrsAt.later (StrsAt.of_owns (bs := [[97]]) HO10.out) hb)
  have HB10 := hidm H10.out.bel
  clear HO10
  go_wp2_with fail
  refine (SE.out w10).mono ?_
  rintro e w11 ⟨rfl, hb11⟩
  have B11 := hidm hb11
  clear hb11
  go_wp2_with fail
  rw [HY.out]
  refine (UN.out w11).mono ?_
  rintro e w12 ⟨rfl, hb12⟩
  have B12 := hidm (B11.out.trans (hb12.mono B11.out.size))
  clear hb12 B11
  go_wp2_with fail
  refine (rtexts_same [[97]] _ _ _ (HSA.out _ (B12.out.trans (((Below.refl w12.heap.size w12).alloc (Nat.le_refl _) _).mono B12.out.size))) (str_one1 97 w12)).mono ?_
  rintro e w13 ⟨rfl, hb13⟩
  have B13 := hidm ((B12.out.trans (((Below.refl w12.heap.size w12).alloc (Nat.le_refl _) _).mono B12.out.size)).trans (hb13.mono (Nat.le_trans B12.out.size (by simp))))
  clear hb13 B12
  go_wp2_with fail
  refine (H10.out.later B13.out).records.mono ?_
  rintro e w14 ⟨ao2, c2, rfl, _, hb14⟩
  have B14 := hidm (B13.out.trans (hb14.mono B13.out.size))
  clear hb14 B13
  go_wp2_with fail
  refine (H10.out.later B14.out).gen.mono ?_
  rintro e w15 ⟨rfl, rfl⟩
  go_wp2_with fail
  refine (fits_cells M 8 0 800 (by omega) w14 (cell_later B14.out M10.out.1) (cell_later B14.out M10.out.2.1) (cell_later B14.out M10.out.2.2) (by omega) (by omega)).mono ?_
  rintro e w15 ⟨rfl, hb15⟩
  have B15 := hidm (B14.out.trans (hb15.mono B14.out.size))
  clear hb15 B14
  go_wp2_with fail
  refine (fits_cells M 8 0 801 (by omega) w15 (cell_later B15.out M10.out.1) (cell_later B15.out M10.out.2.1) (cell_later B15.out M10.out.2.2) (by omega) (by omega)).mono ?_
  rintro e w16 ⟨rfl, hb16⟩
  have B16 := hidm (B15.out.trans (hb16.mono B15.out.size))
  clear hb16 B15
  go_wp2_with fail
  go_ret
  exact ⟨rfl, HB10.out.trans (B16.out.mono HB10.out.size)⟩
end Wal
end Go.Proofs.Ytpamffheapnoaaa
