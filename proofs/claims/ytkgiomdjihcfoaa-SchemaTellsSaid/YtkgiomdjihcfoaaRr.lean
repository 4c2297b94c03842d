/- The document's reader: its block, New, fail, next. Conditions: the pointer is to such a reader whose place is within its bytes. -/
import Derived.Test.YtkgiomdjihcfoaaQc
namespace Go.Proofs.Ytkgiomdjihcfoaa
open Go.RowKit
namespace Rr
open Cod
/-- Block r is a reader of s, at p, with the error e. -/
def Rrd (r : Nat) (s : ByteArray) (p e : Int) (w : World) : Prop := w.heap[r]? = some (.cells #[.string s, .int .i64 p, .int .i64 e] 89 (0, 0))
section
variable {r : Nat} {s : ByteArray} {p e : Int} {w w' : World}
theorem Rrd.lt (h : Rrd r s p e w) : r < w.heap.size := lt_of_block h
theorem Rrd.c0 (h : Rrd r s p e w) : w.cell? ⟨r, 0, none⟩ = some (.string s) := by unfold Rrd at h; simp [World.cell?, h]
theorem Rrd.c1 (h : Rrd r s p e w) : w.cell? ⟨r, 1, none⟩ = some (.int .i64 p) := by unfold Rrd at h; simp [World.cell?, h]
theorem Rrd.c2 (h : Rrd r s p e w) : w.cell? ⟨r, 2, none⟩ = some (.int .i64 e) := by unfold Rrd at h; simp [World.cell?, h]
theorem Rrd.z1 (h : Rrd r s p e w) : w.frozen? ⟨r, 1, none⟩ = false := by unfold Rrd at h; simp [World.frozen?, h]
theorem Rrd.z2 (h : Rrd r s p e w) : w.frozen? ⟨r, 2, none⟩ = false := by unfold Rrd at h; simp [World.frozen?, h]
theorem Rrd.later (h : Rrd r s p e w) (hb : Below w.heap.size w w') : Rrd r s p e w' := below_keeps hb h
theorem Rrd.past (h : Rrd r s p e w) (o : Obj) : Rrd r s p e (w.alloc o) := h.later ((Below.refl _ _).alloc (Nat.le_refl _) _)
theorem Rrd.drewN (h : Rrd r s p e w) (n : Nat) : Rrd r s p e (w.drewN n) := h.later (below_drewN (Below.refl _ _) n)
theorem Rrd.set1 (h : Rrd r s p e w) (q : Int) : Rrd r s q e (w.setCell ⟨r, 1, none⟩ (.int .i64 q)) := by
  have hlt := lt_of_block h
  have h' : w.heap[r] = .cells #[.string s, .int .i64 p, .int .i64 e] 89 (0, 0) := by simpa [Rrd, Array.getElem?_eq_getElem hlt] using h
  show (w.heap.modify r _)[r]? = _
  rw [Array.getElem?_eq_getElem (by simpa using hlt), Array.getElem_modify_self, h']
  rfl
theorem Rrd.set2 (h : Rrd r s p e w) (q : Int) : Rrd r s p q (w.setCell ⟨r, 2, none⟩ (.int .i64 q)) := by
  have hlt := lt_of_block h
  have h' : w.heap[r] = .cells #[.string s, .int .i64 p, .int .i64 e] 89 (0, 0) := by simpa [Rrd, Array.getElem?_eq_getElem hlt] using h
  show (w.heap.modify r _)[r]? = _
  rw [Array.getElem?_eq_getElem (by simpa using hlt), Array.getElem_modify_self, h']
  rfl
theorem Rrd.other (h : Rrd r s p e w) {a : Addr} (ha : r ≠ a.block) (u : Value) : Rrd r s p e (w.setCell a u) := by
  unfold Rrd; rw [Below.heap_setCell _ _ _ _ ha]; exact h
theorem Rrd.but {k : Nat} (h : Rrd r s p e w) (hn : r ≠ k) (hb : But k w w') : Rrd r s p e w' := hb.keeps hn h
theorem Rrd.new (w : World) (s : ByteArray) (p e : Int) : Rrd w.heap.size s p e (w.alloc (.cells #[.string s, .int .i64 p, .int .i64 e] 89)) := heap_alloc_new _ _
end
theorem new_any (s : ByteArray) (w : World) :
    Calls Try.prog 52 #[.string s] w fun e w' => ∃ r, w.heap.size ≤ r ∧ e = .returned (.pointer (some ⟨r, 0, none⟩)) ∧ Rrd r s 0 0 w' ∧ Below w.heap.size w w' := by
  go_enter Try.func52, Try.ntmps52
  go_wp2_with fail
  go_ret
  exact ⟨_, Nat.le_refl _, rfl, Rrd.new _ _ _ _, (Below.refl _ _).alloc (Nat.le_refl _) _⟩
theorem fail_any (r : Nat) (s : ByteArray) (p x : Int) (w : World) (h : Rrd r s p 0 w) :
    Calls Try.prog 85 #[.pointer (some ⟨r, 0, none⟩), .int .i64 x] w fun e w' => e = .returned (.tuple #[]) ∧ Rrd r s p x w' ∧ But r w w' := by
  have h2 := h.c2
  have z2 := h.z2
  have HR := hidm h
  clear h
  go_enter Try.func85, Try.ntmps85
  go_wp2_with fail
  go_end0
  exact ⟨rfl, HR.out.set2 x, (But.refl _ _).set _ _⟩
theorem fail_kept (r : Nat) (s : ByteArray) (p e x : Int) (he : (e == 0) = false) (w : World) (h : Rrd r s p e w) :
    Calls Try.prog 85 #[.pointer (some ⟨r, 0, none⟩), .int .i64 x] w fun en w' => en = .returned (.tuple #[]) ∧ w = w' := by
  have h2 := h.c2
  clear h
  go_enter Try.func85, Try.ntmps85
  go_wp2_with fail
  go_end0
  exact ⟨rfl, rfl⟩
theorem next_kept (r : Nat) (s : ByteArray) (p e : Int) (he : (e != 0) = true) (w : World) (h : Rrd r s p e w) :
    Calls Try.prog 86 #[.pointer (some ⟨r, 0, none⟩)] w fun en w' => en = .returned (.int .i64 0) ∧ w = w' := by
  have h2 := h.c2
  clear h
  go_enter Try.func86, Try.ntmps86
  go_wp2_with fail
  go_ret
  exact ⟨rfl, rfl⟩
set_option maxHeartbeats 1000000 in
theorem next_short (r : Nat) (s : ByteArray) (w : World) (h : Rrd r s s.size 0 w) :
    Calls Try.prog 86 #[.pointer (some ⟨r, 0, none⟩)] w fun en w' => en = .returned (.int .i64 0) ∧ Rrd r s s.size 8 w' ∧ But r w w' := by
  have h0 := h.c0
  have h1 := h.c1
  have h2 := h.c2
  have HR := hidm h
  clear h
  go_enter Try.func86, Try.ntmps86
  go_wp2_with fail
  go_quiet (fail)
  go_wp2_with fail
  refine (fail_any r s s.size 8 _ (HR.out.drewN _)).mono ?_
  rintro e w1 ⟨rfl, hr, hb⟩
  have HR1 := hidm hr
  have HB1 := hidm (((But.refl r w).drewN _).trans hb)
  clear hr hb h0 h1 h2
  go_wp2_with fail
  go_ret
  exact ⟨rfl, HR1.out, HB1.out⟩
set_option maxHeartbeats 1000000 in
theorem next_ok (r : Nat) (s : ByteArray) (p : Nat) (w : World) (h : Rrd r s p 0 w) (hp : p < s.size) (hs : s.size ≤ 9223372036854775807) :
    Calls Try.prog 86 #[.pointer (some ⟨r, 0, none⟩)] w fun en w' => en = .returned (.int .i64 (s[p].toNat : Int)) ∧ Rrd r s (p + 1 : Nat) 0 w' ∧ But r w w' := by
  have h0 := h.c0
  have h1 := h.c1
  have h2 := h.c2
  have z1 := h.z1
  have hne : ¬ (p : Int) ≥ s.size := by omega
  have hne2 : ¬ s.size ≤ p := by omega
  go_enter Try.func86, Try.ntmps86
  go_wp2_with fail
  go_quiet (fail)
  go_wp2_with fail
  have h0' : ∀ a, (w.drewN a).cell? ⟨r, 0, none⟩ = some (.string s) := fun _ => h0
  have h1' : ∀ a, (w.drewN a).cell? ⟨r, 1, none⟩ = some (.int .i64 p) := fun _ => h1
  go_quiet (fail)
  have z2 : ∀ a b, ((w.drewN a).drewN b).frozen? ⟨r, 1, none⟩ = false := fun _ _ => z1
  have h2' : ∀ a b, ((w.drewN a).drewN b).cell? ⟨r, 1, none⟩ = some (.int .i64 p) := fun _ _ => h1
  go_wp2_with fail
  go_ret
  have hw : wrap64 (s[p].toNat : Int) = (s[p].toNat : Int) := by have := s[p].toNat_lt; unfold wrap64; omega
  exact ⟨congrArg (fun q => Ending.returned (.int .i64 q)) hw, (h.drewN _).set1 _, ((But.refl _ _).drewN _).set _ _⟩
/-- What a part of the document's reader comes to: the answer, or an error that stays (the place is then anywhere). -/
def Out {α : Type} (r : Nat) (s : ByteArray) (w : World) (V : α → Value → World → Prop) (z : Value) : Except Nat (α × List UInt8) → Ending → World → Prop
  | .ok (a, t), en, w' => ∃ v, en = .returned v ∧ V a v w' ∧ Rrd r s (s.size - t.length : Nat) 0 w' ∧ But r w w'
  | .error x, en, w' => ∃ q : Int, en = .returned z ∧ Rrd r s q x w' ∧ But r w w'
theorem sum_step (k n : Nat) (c : UInt8) (hk : k ≤ 9) (hn : n < 128 ^ k) (h9 : k = 9 → c.toNat ≤ 1) : n + c.toNat % 128 * 128 ^ k < 18446744073709551616 := by
  have hc := c.toNat_lt
  rcases Nat.lt_or_ge k 9 with h8 | h8
  · have h1 : (128 : Nat) ^ (k + 1) ≤ 128 ^ 9 := Nat.pow_le_pow_right (by omega) (by omega)
    have := step_lt k n c hn
    rw [nine] at h1; omega
  · have hk9 : k = 9 := by omega
    have := h9 hk9
    subst hk9
    rw [nine] at hn ⊢; omega
end Rr
end Go.Proofs.Ytkgiomdjihcfoaa
