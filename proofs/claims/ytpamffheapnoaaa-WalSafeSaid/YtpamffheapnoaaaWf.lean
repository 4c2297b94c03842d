/- The bodies of a slot and of a place. Conditions: numbers are below 2^64, texts are short. -/
import Derived.Test.YtpamffheapnoaaaWd
import Derived.Test.YtpamffheapnoaaaMan
namespace Go.Proofs.Ytpamffheapnoaaa
open Go.RowKit
namespace Wal
open Cod (uB uB_ten)
open Crc (S S_of S_size S_append S_add hidm)
theorem uint_any (n : Nat) (hn : n < 18446744073709551616) (w : World) :
    Calls Try.prog 55 #[.int .u64 n] w fun e w' => e = .returned (.string (S (uB n))) ∧ Below w.heap.size w w' := Cod.uint_any n hn w
theorem cell_later {w w' : World} {a : Addr} {v : Value} (h : Below w.heap.size w w') (hc : w.cell? a = some v) : w'.cell? a = some v := by
  rw [h.cell (block_lt_of_cell hc)]; exact hc
theorem new_cell (w : World) (C : Array Value) (t : TypeId) (j : Nat) : (w.alloc (.cells C t)).cell? ⟨w.heap.size, j, none⟩ = C[j]? := cell_of_row _ _ j _ _ (0, 0) (heap_alloc_last w _)
theorem slot_step {w : World} {t b : Nat} {w1 w' : World} (h : w1.cell? ⟨w.heap.size, 0, none⟩ = some (.int .u64 (t : Int)) ∧ w1.cell? ⟨w.heap.size, 1, none⟩ = some (.int .u64 (b : Int)) ∧ Below w.heap.size w w1 ∧ w.heap.size ≤ w1.heap.size) (hb : Below w1.heap.size w1 w') : w'.cell? ⟨w.heap.size, 0, none⟩ = some (.int .u64 (t : Int)) ∧ w'.cell? ⟨w.heap.size, 1, none⟩ = some (.int .u64 (b : Int)) ∧ Below w.heap.size w w' ∧ w.heap.size ≤ w'.heap.size := by
  obtain ⟨c0, c1, hB, hz⟩ := h
  exact ⟨cell_later hb c0, cell_later hb c1, hB.trans (hb.mono hz), Nat.le_trans hz hb.size⟩
set_option maxHeartbeats 2000000 in
set_option maxRecDepth 100000 in
theorem slotbody_any (t b : Nat) (ht : t < 18446744073709551616) (hb0 : b < 18446744073709551616) (w : World) :
    Calls Try.prog 52 #[.agg #[.int .u64 (t : Int), .int .u64 (b : Int)]] w fun e w' => e = .returned (.string (S (sbody t b))) ∧ Below w.heap.size w w' := by
  have U1 := fun w => uint_any t ht w
  have U2 := fun w => uint_any b hb0 w
  have l1 := uB_ten t ht
  have l2 := uB_ten b hb0
  obtain ⟨x, hx⟩ : ∃ x, x = S (uB t) := ⟨_, rfl⟩
  obtain ⟨y, hy⟩ : ∃ y, y = S (uB b) := ⟨_, rfl⟩
  rw [← hx] at U1
  rw [← hy] at U2
  have hxs : x.size ≤ 10 := by rw [hx, S_size]; exact l1
  have hys : y.size ≤ 10 := by rw [hy, S_size]; exact l2
  have HE : Hid ((⟨#[83]⟩ : ByteArray) ++ x ++ y = S (sbody t b)) := by
    refine hidm ?_
    rw [hx, hy, show (⟨#[83]⟩ : ByteArray) = S [83] from rfl, S_append, S_append]
    rfl
  have g1 : ¬ 9223372036854775807 < 1 + x.size := by omega
  have g2 : ¬ 9223372036854775807 < 1 + x.size + y.size := by omega
  clear hx hy l1 l2
  go_enter Try.func52, Try.ntmps52
  go_wp2_with fail
  have SS0 : Hid ((w.alloc (.cells #[.int .u64 (t : Int), .int .u64 (b : Int)] 63)).cell? ⟨w.heap.size, 0, none⟩ = some (.int .u64 (t : Int)) ∧ (w.alloc (.cells #[.int .u64 (t : Int), .int .u64 (b : Int)] 63)).cell? ⟨w.heap.size, 1, none⟩ = some (.int .u64 (b : Int)) ∧ Below w.heap.size w (w.alloc (.cells #[.int .u64 (t : Int), .int .u64 (b : Int)] 63)) ∧ w.heap.size ≤ (w.alloc (.cells #[.int .u64 (t : Int), .int .u64 (b : Int)] 63)).heap.size) := hidm ⟨new_cell w _ _ 0, new_cell w _ _ 1, (Below.refl _ _).alloc (Nat.le_refl _) _, by simp⟩
  refine wp_region_held_drew (S := fun u => u.cell? ⟨w.heap.size, 0, none⟩ = some (.int .u64 (t : Int)) ∧ u.cell? ⟨w.heap.size, 1, none⟩ = some (.int .u64 (b : Int)) ∧ Below w.heap.size w u ∧ w.heap.size ≤ u.heap.size) (by kernel_rfl) ?_ (fun hHeld => ?_)
  · exact slot_step SS0.out ((Below.refl _ _).drew)
  refine Man.take1 (i := 0) (v := ?_) rfl (by kernel_rfl) (by kernel_rfl) (by kernel_rfl) (fun _ _ _ h => h) (by rfl) ?_ (by assumption) ?_
  rotate_left
  · (intro u hSu; (try dsimp only at hSu); go_simp; (try with_reducible rfl))
  (try simp only [Act.put, List.setIfInBounds_toArray, List.set_cons_zero, List.set_cons_succ])
  refine Man.take1 (i := 1) (v := ?_) rfl (by kernel_rfl) (by kernel_rfl) (by kernel_rfl) (fun _ _ _ h => h) (by rfl) ?_ (by assumption) ?_
  rotate_left
  · (intro u hSu; (try dsimp only at hSu); go_simp; (try with_reducible rfl))
  (try simp only [Act.put, List.setIfInBounds_toArray, List.set_cons_zero, List.set_cons_succ])
  refine Man.take1 (i := 4) (v := ?_) rfl (by kernel_rfl) (by kernel_rfl) (by kernel_rfl) (fun _ _ _ h => h) (by rfl) ?_ (by assumption) ?_
  rotate_left
  · (intro u hSu; (try dsimp only at hSu); go_simp; (try with_reducible rfl))
  (try simp only [Act.put, List.setIfInBounds_toArray, List.set_cons_zero, List.set_cons_succ])
  refine Man.take1 (i := 5) (v := ?_) rfl (by kernel_rfl) (by kernel_rfl) (by kernel_rfl) (fun _ _ _ h => h) (by rfl) ?_ (by assumption) ?_
  rotate_left
  · (intro u hSu; (try dsimp only at hSu); go_simp; (try with_reducible rfl))
  (try simp only [Act.put, List.setIfInBounds_toArray, List.set_cons_zero, List.set_cons_succ])
  refine Man.one (i := 2) rfl (by kernel_rfl) (fun K hK => ?_)
  go_simp
  (go_at_call 55; (with_reducible refine (U1 _).mono ?_); rintro e w' ⟨rfl, hb⟩)
  refine hK.out _ _ ?_ (fun hNew => ?_)
  · exact slot_step hHeld hb
  clear hHeld hK K hb
  have hHeld := hNew
  clear hNew
  (try simp only [Act.put, List.setIfInBounds_toArray, List.set_cons_zero, List.set_cons_succ])
  refine Man.take1 (i := 3) (v := ?_) rfl (by kernel_rfl) (by kernel_rfl) (by kernel_rfl) (fun _ _ _ h => h) (by rfl) ?_ (by assumption) ?_
  rotate_left
  · (intro u hSu; (try dsimp only at hSu); go_simp; (try with_reducible rfl))
  (try simp only [Act.put, List.setIfInBounds_toArray, List.set_cons_zero, List.set_cons_succ])
  refine Man.one (i := 6) rfl (by kernel_rfl) (fun K hK => ?_)
  go_simp
  (go_at_call 55; (with_reducible refine (U2 _).mono ?_); rintro e w' ⟨rfl, hb⟩)
  refine hK.out _ _ ?_ (fun hNew => ?_)
  · exact slot_step hHeld hb
  clear hHeld hK K hb
  have hHeld := hNew
  clear hNew
  (try simp only [Act.put, List.setIfInBounds_toArray, List.set_cons_zero, List.set_cons_succ])
  refine Man.take1 (i := 7) (v := ?_) rfl (by kernel_rfl) (by kernel_rfl) (by kernel_rfl) (fun _ _ _ h => h) (by rfl) ?_ (by assumption) ?_
  rotate_left
  · (intro u hSu; (try dsimp only at hSu); go_simp; (try with_reducible rfl))
  (try simp only [Act.put, List.setIfInBounds_toArray, List.set_cons_zero, List.set_cons_succ])
  refine Man.take1 (i := 8) (v := ?_) rfl (by kernel_rfl) (by kernel_rfl) (by kernel_rfl) (fun _ _ _ h => h) (by rfl) ?_ (by assumption) ?_
  rotate_left
  · (intro u hSu; (try dsimp only at hSu); go_simp; (try with_reducible rfl))
  (try simp only [Act.put, List.setIfInBounds_toArray, List.set_cons_zero, List.set_cons_succ])
  refine wpAnyH_done (by kernel_rfl) ?_ _
  go_wp2_with fail
  go_ret
  exact ⟨congrArg (fun q => Ending.returned (.string q)) HE.out, hHeld.2.2.1⟩
theorem place_step {w : World} {t : Nat} {m : Bool} {s q : ByteArray} {w1 w' : World} (h : w1.cell? ⟨w.heap.size, 0, none⟩ = some (.int .u64 (t : Int)) ∧ w1.cell? ⟨w.heap.size, 1, none⟩ = some (.bool m) ∧ w1.cell? ⟨w.heap.size, 2, none⟩ = some (.string s) ∧ w1.cell? ⟨w.heap.size, 3, none⟩ = some (.string q) ∧ Below w.heap.size w w1 ∧ w.heap.size ≤ w1.heap.size) (hb : Below w1.heap.size w1 w') : w'.cell? ⟨w.heap.size, 0, none⟩ = some (.int .u64 (t : Int)) ∧ w'.cell? ⟨w.heap.size, 1, none⟩ = some (.bool m) ∧ w'.cell? ⟨w.heap.size, 2, none⟩ = some (.string s) ∧ w'.cell? ⟨w.heap.size, 3, none⟩ = some (.string q) ∧ Below w.heap.size w w' ∧ w.heap.size ≤ w'.heap.size := by
  obtain ⟨c0, c1, c2, c3, hB, hz⟩ := h
  exact ⟨cell_later hb c0, cell_later hb c1, cell_later hb c2, cell_later hb c3, hB.trans (hb.mono hz), Nat.le_trans hz hb.size⟩
set_option maxHeartbeats 4000000 in
set_option maxRecDepth 100000 in
theorem placebody_any (t : Nat) (m : Bool) (s q : ByteArray) (i : Nat) (ht : t < 18446744073709551616) (hi : i < 9223372036854775808) (hs : s.size ≤ 1000) (hq : q.size ≤ 1000) (w : World) :
    Calls Try.prog 39 #[.agg #[.int .u64 (t : Int), .bool m, .string s, .string q], .int .i64 (i : Int)] w fun e w' => e = .returned (.string (S (Pl.body ⟨t, m, s.data.toList, q.data.toList⟩ i))) ∧ Below w.heap.size w w' := by
  obtain ⟨k, hk⟩ : ∃ k : Nat, k = if m then 1 else 0 := ⟨_, rfl⟩
  have hk1 : k ≤ 1 := by rw [hk]; split <;> omega
  have U1 := fun w => uint_any t ht w
  have U2 := fun w => uint_any i (by omega) w
  have U3 := fun w => uint_any k (by omega) w
  have l1 := uB_ten t ht
  have l2 := uB_ten i (by omega)
  have l3 := uB_ten k (by omega)
  obtain ⟨x, hx⟩ : ∃ x, x = S (uB t) := ⟨_, rfl⟩
  obtain ⟨y, hy⟩ : ∃ y, y = S (uB i) := ⟨_, rfl⟩
  obtain ⟨z, hz⟩ : ∃ z, z = S (uB k) := ⟨_, rfl⟩
  rw [← hx] at U1
  rw [← hy] at U2
  rw [← hz] at U3
  have hxs : x.size ≤ 10 := by rw [hx, S_size]; exact l1
  have hys : y.size ≤ 10 := by rw [hy, S_size]; exact l2
  have hzs : z.size ≤ 10 := by rw [hz, S_size]; exact l3
  have HE : Hid ((⟨#[76]⟩ : ByteArray) ++ x ++ y ++ z ++ s ++ q = S (Pl.body ⟨t, m, s.data.toList, q.data.toList⟩ i)) := by
    refine hidm ?_
    rw [hx, hy, hz, hk, show (⟨#[76]⟩ : ByteArray) = S [76] from rfl, S_append, S_append, S_append]
    conv => lhs; rw [← S_of s, ← S_of q]
    rw [S_append, S_append]
    rfl
  have g1 : ¬ 9223372036854775807 < 1 + x.size := by omega
  have g2 : ¬ 9223372036854775807 < 1 + x.size + y.size := by omega
  have g3 : ¬ 9223372036854775807 < 1 + x.size + y.size + z.size := by omega
  have g4 : ¬ 9223372036854775807 < 1 + x.size + y.size + z.size + s.size := by omega
  have g5 : ¬ 9223372036854775807 < 1 + x.size + y.size + z.size + s.size + q.size := by omega
  have hw : IntKind.u64.wrap (i : Int) = (i : Int) := by simp only [IntKind.wrap_u64]; omega
  have HK := hidm hk
  clear hx hy hz l1 l2 l3 hk
  have SS0 : Hid ((w.alloc (.cells #[.int .u64 (t : Int), .bool m, .string s, .string q] 69)).cell? ⟨w.heap.size, 0, none⟩ = some (.int .u64 (t : Int)) ∧ (w.alloc (.cells #[.int .u64 (t : Int), .bool m, .string s, .string q] 69)).cell? ⟨w.heap.size, 1, none⟩ = some (.bool m) ∧ (w.alloc (.cells #[.int .u64 (t : Int), .bool m, .string s, .string q] 69)).cell? ⟨w.heap.size, 2, none⟩ = some (.string s) ∧ (w.alloc (.cells #[.int .u64 (t : Int), .bool m, .string s, .string q] 69)).cell? ⟨w.heap.size, 3, none⟩ = some (.string q) ∧ Below w.heap.size w (w.alloc (.cells #[.int .u64 (t : Int), .bool m, .string s, .string q] 69)) ∧ w.heap.size ≤ (w.alloc (.cells #[.int .u64 (t : Int), .bool m, .string s, .string q] 69)).heap.size) := hidm ⟨new_cell w _ _ 0, new_cell w _ _ 1, new_cell w _ _ 2, new_cell w _ _ 3, (Below.refl _ _).alloc (Nat.le_refl _) _, by simp⟩
  cases m with
  | false =>
    obtain rfl : k = 0 := HK.out
    have U3 : ∀ w : World, Calls Try.prog 55 #[.int .u64 0] w fun e w' => e = .returned (.string z) ∧ Below w.heap.size w w' := U3
    go_enter Try.func39, Try.ntmps39
    go_wp2_with fail
    refine wp_region_held_drew (S := fun u => u.cell? ⟨w.heap.size, 0, none⟩ = some (.int .u64 (t : Int)) ∧ u.cell? ⟨w.heap.size, 1, none⟩ = some (.bool false) ∧ u.cell? ⟨w.heap.size, 2, none⟩ = some (.string s) ∧ u.cell? ⟨w.heap.size, 3, none⟩ = some (.string q) ∧ Below w.heap.size w u ∧ w.heap.size ≤ u.heap.size) (by kernel_rfl) ?_ (fun hHeld => ?_)
    · exact place_step SS0.out ((Below.refl _ _).drew)
    refine Man.take1 (i := 0) (v := ?_) rfl (by kernel_rfl) (by kernel_rfl) (by kernel_rfl) (fun _ _ _ h => h) (by rfl) ?_ (by assumption) ?_
    rotate_left
    · (intro u hSu; (try dsimp only at hSu); go_simp; (try with_reducible rfl))
    (try simp only [Act.put, List.setIfInBounds_toArray, List.set_cons_zero, List.set_cons_succ])
    refine Man.take1 (i := 1) (v := ?_) rfl (by kernel_rfl) (by kernel_rfl) (by kernel_rfl) (fun _ _ _ h => h) (by rfl) ?_ (by assumption) ?_
    rotate_left
    · (intro u hSu; (try dsimp only at hSu); go_simp; (try with_reducible rfl))
    (try simp only [Act.put, List.setIfInBounds_toArray, List.set_cons_zero, List.set_cons_succ])
    refine Man.take1 (i := 4) (v := ?_) rfl (by kernel_rfl) (by kernel_rfl) (by kernel_rfl) (fun _ _ _ h => h) (by rfl) ?_ (by assumption) ?_
    rotate_left
    · (intro u hSu; (try dsimp only at hSu); go_simp; (try with_reducible rfl))
    (try simp only [Act.put, List.setIfInBounds_toArray, List.set_cons_zero, List.set_cons_succ])
    refine Man.take1 (i := 5) (v := ?_) rfl (by kernel_rfl) (by kernel_rfl) (by kernel_rfl) (fun _ _ _ h => h) (by rfl) ?_ (by assumption) ?_
    rotate_left
    · (intro u hSu; (try dsimp only at hSu); go_simp; (try with_reducible rfl))
    (try simp only [Act.put, List.setIfInBounds_toArray, List.set_cons_zero, List.set_cons_succ])
    refine Man.take1 (i := 8) (v := ?_) rfl (by kernel_rfl) (by kernel_rfl) (by kernel_rfl) (fun _ _ _ h => h) (by rfl) ?_ (by assumption) ?_
    rotate_left
    · (intro u hSu; (try dsimp only at hSu); go_simp; (try with_reducible rfl))
    (try simp only [Act.put, List.setIfInBounds_toArray, List.set_cons_zero, List.set_cons_succ])
    refine Man.take1 (i := 11) (v := ?_) rfl (by kernel_rfl) (by kernel_rfl) (by kernel_rfl) (fun _ _ _ h => h) (by rfl) ?_ (by assumption) ?_
    rotate_left
    · (intro u hSu; (try dsimp only at hSu); go_simp; (try with_reducible rfl))
    (try simp only [Act.put, List.setIfInBounds_toArray, List.set_cons_zero, List.set_cons_succ])
    refine Man.take1 (i := 12) (v := ?_) rfl (by kernel_rfl) (by kernel_rfl) (by kernel_rfl) (fun _ _ _ h => h) (by rfl) ?_ (by assumption) ?_
    rotate_left
    · (intro u hSu; (try dsimp only at hSu); go_simp; (try with_reducible rfl))
    (try simp only [Act.put, List.setIfInBounds_toArray, List.set_cons_zero, List.set_cons_succ])
    refine Man.take1 (i := 14) (v := ?_) rfl (by kernel_rfl) (by kernel_rfl) (by kernel_rfl) (fun _ _ _ h => h) (by rfl) ?_ (by assumption) ?_
    rotate_left
    · (intro u hSu; (try dsimp only at hSu); go_simp; (try with_reducible rfl))
    (try simp only [Act.put, List.setIfInBounds_toArray, List.set_cons_zero, List.set_cons_succ])
    refine Man.take1 (i := 15) (v := ?_) rfl (by kernel_rfl) (by kernel_rfl) (by kernel_rfl) (fun _ _ _ h => h) (by rfl) ?_ (by assumption) ?_
    rotate_left
    · (intro u hSu; (try dsimp only at hSu); go_simp; (try with_reducible rfl))
    (try simp only [Act.put, List.setIfInBounds_toArray, List.set_cons_zero, List.set_cons_succ])
    refine Man.one (i := 2) rfl (by kernel_rfl) (fun K hK => ?_)
    go_simp
    (go_at_call 55; (with_reducible refine (U1 _).mono ?_); rintro e w' ⟨rfl, hb⟩)
    refine hK.out _ _ ?_ (fun hNew => ?_)
    · exact place_step hHeld hb
    clear hHeld hK K hb
    have hHeld := hNew
    clear hNew
    (try simp only [Act.put, List.setIfInBounds_toArray, List.set_cons_zero, List.set_cons_succ])
    refine Man.take1 (i := 3) (v := ?_) rfl (by kernel_rfl) (by kernel_rfl) (by kernel_rfl) (fun _ _ _ h => h) (by rfl) ?_ (by assumption) ?_
    rotate_left
    · (intro u hSu; (try dsimp only at hSu); go_simp; (try with_reducible rfl))
    (try simp only [Act.put, List.setIfInBounds_toArray, List.set_cons_zero, List.set_cons_succ])
    refine Man.one (i := 6) rfl (by kernel_rfl) (fun K hK => ?_)
    go_simp
    (go_at_call 55; (with_reducible refine (U2 _).mono ?_); rintro e w' ⟨rfl, hb⟩)
    refine hK.out _ _ ?_ (fun hNew => ?_)
    · exact place_step hHeld hb
    clear hHeld hK K hb
    have hHeld := hNew
    clear hNew
    (try simp only [Act.put, List.setIfInBounds_toArray, List.set_cons_zero, List.set_cons_succ])
    refine Man.take1 (i := 7) (v := ?_) rfl (by kernel_rfl) (by kernel_rfl) (by kernel_rfl) (fun _ _ _ h => h) (by rfl) ?_ (by assumption) ?_
    rotate_left
    · (intro u hSu; (try dsimp only at hSu); go_simp; (try with_reducible rfl))
    (try simp only [Act.put, List.setIfInBounds_toArray, List.set_cons_zero, List.set_cons_succ])
    refine Man.one (i := 9) rfl (by kernel_rfl) (fun K hK => ?_)
    go_simp
    (go_at_call 55; (with_reducible refine (U3 _).mono ?_); rintro e w' ⟨rfl, hb⟩)
    refine hK.out _ _ ?_ (fun hNew => ?_)
    · exact place_step hHeld hb
    clear hHeld hK K hb
    have hHeld := hNew
    clear hNew
    (try simp only [Act.put, List.setIfInBounds_toArray, List.set_cons_zero, List.set_cons_succ])
    refine Man.take1 (i := 10) (v := ?_) rfl (by kernel_rfl) (by kernel_rfl) (by kernel_rfl) (fun _ _ _ h => h) (by rfl) ?_ (by assumption) ?_
    rotate_left
    · (intro u hSu; (try dsimp only at hSu); go_simp; (try with_reducible rfl))
    (try simp only [Act.put, List.setIfInBounds_toArray, List.set_cons_zero, List.set_cons_succ])
    refine Man.take1 (i := 13) (v := ?_) rfl (by kernel_rfl) (by kernel_rfl) (by kernel_rfl) (fun _ _ _ h => h) (by rfl) ?_ (by assumption) ?_
    rotate_left
    · (intro u hSu; (try dsimp only at hSu); go_simp; (try with_reducible rfl))
    (try simp only [Act.put, List.setIfInBounds_toArray, List.set_cons_zero, List.set_cons_succ])
    refine Man.take1 (i := 16) (v := ?_) rfl (by kernel_rfl) (by kernel_rfl) (by kernel_rfl) (fun _ _ _ h => h) (by rfl) ?_ (by assumption) ?_
    rotate_left
    · (intro u hSu; (try dsimp only at hSu); go_simp; (try with_reducible rfl))
    (try simp only [Act.put, List.setIfInBounds_toArray, List.set_cons_zero, List.set_cons_succ])
    refine Man.take1 (i := 17) (v := ?_) rfl (by kernel_rfl) (by kernel_rfl) (by kernel_rfl) (fun _ _ _ h => h) (by rfl) ?_ (by assumption) ?_
    rotate_left
    · (intro u hSu; (try dsimp only at hSu); go_simp; (try with_reducible rfl))
    (try simp only [Act.put, List.setIfInBounds_toArray, List.set_cons_zero, List.set_cons_succ])
    refine wpAnyH_done (by kernel_rfl) ?_ _
    go_wp2_with fail
    go_ret
    exact ⟨congrArg (fun q => Ending.returned (.string q)) (HE.out.trans rfl), hHeld.2.2.2.2.1⟩
  | true =>
    obtain rfl : k = 1 := HK.out
    have U3 : ∀ w : World, Calls Try.prog 55 #[.int .u64 1] w fun e w' => e = .returned (.string z) ∧ Below w.heap.size w w' := U3
    go_enter Try.func39, Try.ntmps39
    go_wp2_with fail
    refine wp_region_held_drew (S := fun u => u.cell? ⟨w.heap.size, 0, none⟩ = some (.int .u64 (t : Int)) ∧ u.cell? ⟨w.heap.size, 1, none⟩ = some (.bool true) ∧ u.cell? ⟨w.heap.size, 2, none⟩ = some (.string s) ∧ u.cell? ⟨w.heap.size, 3, none⟩ = some (.string q) ∧ Below w.heap.size w u ∧ w.heap.size ≤ u.heap.size) (by kernel_rfl) ?_ (fun hHeld => ?_)
    · exact place_step SS0.out ((Below.refl _ _).drew)
    refine Man.take1 (i := 0) (v := ?_) rfl (by kernel_rfl) (by kernel_rfl) (by kernel_rfl) (fun _ _ _ h => h) (by rfl) ?_ (by assumption) ?_
    rotate_left
    · (intro u hSu; (try dsimp only at hSu); go_simp; (try with_reducible rfl))
    (try simp only [Act.put, List.setIfInBounds_toArray, List.set_cons_zero, List.set_cons_succ])
    refine Man.take1 (i := 1) (v := ?_) rfl (by kernel_rfl) (by kernel_rfl) (by kernel_rfl) (fun _ _ _ h => h) (by rfl) ?_ (by assumption) ?_
    rotate_left
    · (intro u hSu; (try dsimp only at hSu); go_simp; (try with_reducible rfl))
    (try simp only [Act.put, List.setIfInBounds_toArray, List.set_cons_zero, List.set_cons_succ])
    refine Man.take1 (i := 4) (v := ?_) rfl (by kernel_rfl) (by kernel_rfl) (by kernel_rfl) (fun _ _ _ h => h) (by rfl) ?_ (by assumption) ?_
    rotate_left
    · (intro u hSu; (try dsimp only at hSu); go_simp; (try with_reducible rfl))
    (try simp only [Act.put, List.setIfInBounds_toArray, List.set_cons_zero, List.set_cons_succ])
    refine Man.take1 (i := 5) (v := ?_) rfl (by kernel_rfl) (by kernel_rfl) (by kernel_rfl) (fun _ _ _ h => h) (by rfl) ?_ (by assumption) ?_
    rotate_left
    · (intro u hSu; (try dsimp only at hSu); go_simp; (try with_reducible rfl))
    (try simp only [Act.put, List.setIfInBounds_toArray, List.set_cons_zero, List.set_cons_succ])
    refine Man.take1 (i := 8) (v := ?_) rfl (by kernel_rfl) (by kernel_rfl) (by kernel_rfl) (fun _ _ _ h => h) (by rfl) ?_ (by assumption) ?_
    rotate_left
    · (intro u hSu; (try dsimp only at hSu); go_simp; (try with_reducible rfl))
    (try simp only [Act.put, List.setIfInBounds_toArray, List.set_cons_zero, List.set_cons_succ])
    refine Man.take1 (i := 11) (v := ?_) rfl (by kernel_rfl) (by kernel_rfl) (by kernel_rfl) (fun _ _ _ h => h) (by rfl) ?_ (by assumption) ?_
    rotate_left
    · (intro u hSu; (try dsimp only at hSu); go_simp; (try with_reducible rfl))
    (try simp only [Act.put, List.setIfInBounds_toArray, List.set_cons_zero, List.set_cons_succ])
    refine Man.take1 (i := 12) (v := ?_) rfl (by kernel_rfl) (by kernel_rfl) (by kernel_rfl) (fun _ _ _ h => h) (by rfl) ?_ (by assumption) ?_
    rotate_left
    · (intro u hSu; (try dsimp only at hSu); go_simp; (try with_reducible rfl))
    (try simp only [Act.put, List.setIfInBounds_toArray, List.set_cons_zero, List.set_cons_succ])
    refine Man.take1 (i := 14) (v := ?_) rfl (by kernel_rfl) (by kernel_rfl) (by kernel_rfl) (fun _ _ _ h => h) (by rfl) ?_ (by assumption) ?_
    rotate_left
    · (intro u hSu; (try dsimp only at hSu); go_simp; (try with_reducible rfl))
    (try simp only [Act.put, List.setIfInBounds_toArray, List.set_cons_zero, List.set_cons_succ])
    refine Man.take1 (i := 15) (v := ?_) rfl (by kernel_rfl) (by kernel_rfl) (by kernel_rfl) (fun _ _ _ h => h) (by rfl) ?_ (by assumption) ?_
    rotate_left
    · (intro u hSu; (try dsimp only at hSu); go_simp; (try with_reducible rfl))
    (try simp only [Act.put, List.setIfInBounds_toArray, List.set_cons_zero, List.set_cons_succ])
    refine Man.one (i := 2) rfl (by kernel_rfl) (fun K hK => ?_)
    go_simp
    (go_at_call 55; (with_reducible refine (U1 _).mono ?_); rintro e w' ⟨rfl, hb⟩)
    refine hK.out _ _ ?_ (fun hNew => ?_)
    · exact place_step hHeld hb
    clear hHeld hK K hb
    have hHeld := hNew
    clear hNew
    (try simp only [Act.put, List.setIfInBounds_toArray, List.set_cons_zero, List.set_cons_succ])
    refine Man.take1 (i := 3) (v := ?_) rfl (by kernel_rfl) (by kernel_rfl) (by kernel_rfl) (fun _ _ _ h => h) (by rfl) ?_ (by assumption) ?_
    rotate_left
    · (intro u hSu; (try dsimp only at hSu); go_simp; (try with_reducible rfl))
    (try simp only [Act.put, List.setIfInBounds_toArray, List.set_cons_zero, List.set_cons_succ])
    refine Man.one (i := 6) rfl (by kernel_rfl) (fun K hK => ?_)
    go_simp
    (go_at_call 55; (with_reducible refine (U2 _).mono ?_); rintro e w' ⟨rfl, hb⟩)
    refine hK.out _ _ ?_ (fun hNew => ?_)
    · exact place_step hHeld hb
    clear hHeld hK K hb
    have hHeld := hNew
    clear hNew
    (try simp only [Act.put, List.setIfInBounds_toArray, List.set_cons_zero, List.set_cons_succ])
    refine Man.take1 (i := 7) (v := ?_) rfl (by kernel_rfl) (by kernel_rfl) (by kernel_rfl) (fun _ _ _ h => h) (by rfl) ?_ (by assumption) ?_
    rotate_left
    · (intro u hSu; (try dsimp only at hSu); go_simp; (try with_reducible rfl))
    (try simp only [Act.put, List.setIfInBounds_toArray, List.set_cons_zero, List.set_cons_succ])
    refine Man.one (i := 9) rfl (by kernel_rfl) (fun K hK => ?_)
    go_simp
    (go_at_call 55; (with_reducible refine (U3 _).mono ?_); rintro e w' ⟨rfl, hb⟩)
    refine hK.out _ _ ?_ (fun hNew => ?_)
    · exact place_step hHeld hb
    clear hHeld hK K hb
    have hHeld := hNew
    clear hNew
    (try simp only [Act.put, List.setIfInBounds_toArray, List.set_cons_zero, List.set_cons_succ])
    refine Man.take1 (i := 10) (v := ?_) rfl (by kernel_rfl) (by kernel_rfl) (by kernel_rfl) (fun _ _ _ h => h) (by rfl) ?_ (by assumption) ?_
    rotate_left
    · (intro u hSu; (try dsimp only at hSu); go_simp; (try with_reducible rfl))
    (try simp only [Act.put, List.setIfInBounds_toArray, List.set_cons_zero, List.set_cons_succ])
    refine Man.take1 (i := 13) (v := ?_) rfl (by kernel_rfl) (by kernel_rfl) (by kernel_rfl) (fun _ _ _ h => h) (by rfl) ?_ (by assumption) ?_
    rotate_left
    · (intro u hSu; (try dsimp only at hSu); go_simp; (try with_reducible rfl))
    (try simp only [Act.put, List.setIfInBounds_toArray, List.set_cons_zero, List.set_cons_succ])
    refine Man.take1 (i := 16) (v := ?_) rfl (by kernel_rfl) (by kernel_rfl) (by kernel_rfl) (fun _ _ _ h => h) (by rfl) ?_ (by assumption) ?_
    rotate_left
    · (intro u hSu; (try dsimp only at hSu); go_simp; (try with_reducible rfl))
    (try simp only [Act.put, List.setIfInBounds_toArray, List.set_cons_zero, List.set_cons_succ])
    refine Man.take1 (i := 17) (v := ?_) rfl (by kernel_rfl) (by kernel_rfl) (by kernel_rfl) (fun _ _ _ h => h) (by rfl) ?_ (by assumption) ?_
    rotate_left
    · (intro u hSu; (try dsimp only at hSu); go_simp; (try with_reducible rfl))
    (try simp only [Act.put, List.setIfInBounds_toArray, List.set_cons_zero, List.set_cons_succ])
    refine wpAnyH_done (by kernel_rfl) ?_ _
    go_wp2_with fail
    go_ret
    exact ⟨congrArg (fun q => Ending.returned (.string q)) (HE.out.trans rfl), hHeld.2.2.2.2.1⟩
end Wal
end Go.Proofs.Ytpamffheapnoaaa
