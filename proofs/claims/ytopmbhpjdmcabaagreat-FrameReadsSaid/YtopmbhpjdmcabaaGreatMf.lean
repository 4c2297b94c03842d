/- The document's reader: its block, New, fail, next. Conditions: the pointer is to such a reader whose place is within its bytes. -/
/- The document's reader: its number. Conditions: the pointer is to such a reader whose place is within its bytes. -/
/- The document's reader: end, text, and the methods Uint, Int. Conditions: the pointer is to such a reader whose place is within its bytes; the bytes are at most 2^48. -/
/- The document's reader at an error that stays: uint, whole, text answer zeros and change nothing; the method Text. Conditions: the pointer is to such a reader whose place is within its bytes; the bytes are at most 2^48. -/
/- The document's reader: Left; the methods Uint, Int, Text at a reader with an error. Conditions: the pointer is to such a reader whose place is within its bytes. -/
import Derived.Test.YtopmbhpjdmcabaaGreatQa
import Derived.Test.YtopmbhpjdmcabaaGreatQc
namespace Go.Proofs.YtopmbhpjdmcabaaGreat
open Go.RowKit
namespace Rr
open Cod
/-- Block r is a reader of s, at p, with the error e. -/
def Rrd (r : Nat) (s : ByteArray) (p e : Int) (w : World) : Prop := w.heap[r]? = some (.cells #[.string s, .int .i64 p, .int .i64 e] 78 (0, 0))
section
variable {r : Nat} {s : ByteArray} {p e : Int} {w w' : World}
theorem Rrd.lt (h : Rrd r s p e w) : r < w.heap.size := lt_of_block h
theorem Rrd.c0 (h : Rrd r s p e w) : w.cell? ⟨r, 0, none⟩ = some (.string s) := by unfold Rrd at h; simp [World.cell?, h]
theorem Rrd.c1 (h : Rrd r s p e w) : w.cell? ⟨r, 1, none⟩ = some (.int .i64 p) := by unfold Rrd at h; simp [World.cell?, h]
theorem Rrd.c2 (h : Rrd r s p e w) : w.cell? ⟨r, 2, none⟩ = some (.int .i64 e) := by unfold Rrd at h; simp [World.cell?, h]
theorem Rrd.z1 (h : Rrd r s p e w) : w.frozen? ⟨r, 1, none⟩ = false := by unfold Rrd at h; simp [World.frozen?, h]
theorem Rrd.z2 (h : Rrd r s p e w) : w.frozen? ⟨r, 2, none⟩ = false := by unfold Rrd at h; simp [World.frozen?, h]
theorem Rrd.later (h : Rrd r s p e w) (hb : Below w.heap.size w w') : Rrd r s p e w' := below_keeps hb h
theorem Rrd.past (h : Rrd r s p e w) (o : Obj) : Rrd r s p e (w.alloc o) := h.later ((Below.refl _ _).alloc (Nat.le_refl _) _)
theorem Rrd.drewN (h : Rrd r s p e w) (n : Nat) : Rrd r s p e (w.drewN n) := h.later (below_drewN (Below.refl _ _) n)
theorem Rrd.set1 (h : Rrd r s p e w) (q : Int) : Rrd r s q e (w.setCell ⟨r, 1, none⟩ (.int .i64 q)) := by
  have hlt := lt_of_block h
  have h' : w.heap[r] = .cells #[.string s, .int .i64 p, .int .i64 e] 78 (0, 0) := by simpa [Rrd, Array.getElem?_eq_getElem hlt] using h
  show (w.heap.modify r _)[r]? = _
  rw [Array.getElem?_eq_getElem (by simpa using hlt), Array.getElem_modify_self, h']
  rfl
theorem Rrd.set2 (h : Rrd r s p e w) (q : Int) : Rrd r s p q (w.setCell ⟨r, 2, none⟩ (.int .i64 q)) := by
  have hlt := lt_of_block h
  have h' : w.heap[r] = .cells #[.string s, .int .i64 p, .int .i64 e] 78 (0, 0) := by simpa [Rrd, Array.getElem?_eq_getElem hlt] using h
  show (w.heap.modify r _)[r]? = _
  rw [Array.getElem?_eq_getElem (by simpa using hlt), Array.getElem_modify_self, h']
  rfl
theorem Rrd.other (h : Rrd r s p e w) {a : Addr} (ha : r ≠ a.block) (u : Value) : Rrd r s p e (w.setCell a u) := by
  unfold Rrd; rw [Below.heap_setCell _ _ _ _ ha]; exact h
theorem Rrd.but {k : Nat} (h : Rrd r s p e w) (hn : r ≠ k) (hb : But k w w') : Rrd r s p e w' := hb.keeps hn h
theorem Rrd.new (w : World) (s : ByteArray) (p e : Int) : Rrd w.heap.size s p e (w.alloc (.cells #[.string s, .int .i64 p, .int .i64 e] 78)) := heap_alloc_new _ _
end
theorem new_any (s : ByteArray) (w : World) :
    Calls Tryz.prog 50 #[.string s] w fun e w' => ∃ r, w.heap.size ≤ r ∧ e = .returned (.pointer (some ⟨r, 0, none⟩)) ∧ Rrd r s 0 0 w' ∧ Below w.heap.size w w' := by
  go_enter Tryz.func50, Tryz.ntmps50
  go_wp2_with fail
  go_ret
  exact ⟨_, Nat.le_refl _, rfl, Rrd.new _ _ _ _, (Below.refl _ _).alloc (Nat.le_refl _) _⟩
theorem fail_any (r : Nat) (s : ByteArray) (p x : Int) (w : World) (h : Rrd r s p 0 w) :
    Calls Tryz.prog 103 #[.pointer (some ⟨r, 0, none⟩), .int .i64 x] w fun e w' => e = .returned (.tuple #[]) ∧ Rrd r s p x w' ∧ But r w w' := by
  have h2 := h.c2
  have z2 := h.z2
  have HR := hidm h
  clear h
  go_enter Tryz.func103, Tryz.ntmps103
  go_wp2_with fail
  go_end0
  exact ⟨rfl, HR.out.set2 x, (But.refl _ _).set _ _⟩
theorem fail_kept (r : Nat) (s : ByteArray) (p e x : Int) (he : (e == 0) = false) (w : World) (h : Rrd r s p e w) :
    Calls Tryz.prog 103 #[.pointer (some ⟨r, 0, none⟩), .int .i64 x] w fun en w' => en = .returned (.tuple #[]) ∧ w = w' := by
  have h2 := h.c2
  clear h
  go_enter Tryz.func103, Tryz.ntmps103
  go_wp2_with fail
  go_end0
  exact ⟨rfl, rfl⟩
theorem next_kept (r : Nat) (s : ByteArray) (p e : Int) (he : (e != 0) = true) (w : World) (h : Rrd r s p e w) :
    Calls Tryz.prog 102 #[.pointer (some ⟨r, 0, none⟩)] w fun en w' => en = .returned (.int .i64 0) ∧ w = w' := by
  have h2 := h.c2
  clear h
  go_enter Tryz.func102, Tryz.ntmps102
  go_wp2_with fail
  go_ret
  exact ⟨rfl, rfl⟩
set_option maxHeartbeats 1000000 in
theorem next_short (r : Nat) (s : ByteArray) (w : World) (h : Rrd r s s.size 0 w) :
    Calls Tryz.prog 102 #[.pointer (some ⟨r, 0, none⟩)] w fun en w' => en = .returned (.int .i64 0) ∧ Rrd r s s.size 8 w' ∧ But r w w' := by
  have h0 := h.c0
  have h1 := h.c1
  have h2 := h.c2
  have HR := hidm h
  clear h
  go_enter Tryz.func102, Tryz.ntmps102
  go_wp2_with fail
  go_quiet (fail)
  go_wp2_with fail
  refine (fail_any r s s.size 8 _ (HR.out.drewN _)).mono ?_
  rintro e w1 ⟨rfl, hr, hb⟩
  have HR1 := hidm hr
  have HB1 := hidm (((But.refl r w).drewN _).trans hb)
  clear hr hb h0 h1 h2
  go_wp2_with fail
  go_ret
  exact ⟨rfl, HR1.out, HB1.out⟩
set_option maxHeartbeats 1000000 in
theorem next_ok (r : Nat) (s : ByteArray) (p : Nat) (w : World) (h : Rrd r s p 0 w) (hp : p < s.size) (hs : s.size ≤ 9223372036854775807) :
    Calls Tryz.prog 102 #[.pointer (some ⟨r, 0, none⟩)] w fun en w' => en = .returned (.int .i64 (s[p].toNat : Int)) ∧ Rrd r s (p + 1 : Nat) 0 w' ∧ But r w w' := by
  have h0 := h.c0
  have h1 := h.c1
  have h2 := h.c2
  have z1 := h.z1
  have hne : ¬ (p : Int) ≥ s.size := by omega
  have hne2 : ¬ s.size ≤ p := by omega
  go_enter Tryz.func102, Tryz.ntmps102
  go_wp2_with fail
  go_quiet (fail)
  go_wp2_with fail
  have h0' : ∀ a, (w.drewN a).cell? ⟨r, 0, none⟩ = some (.string s) := fun _ => h0
  have h1' : ∀ a, (w.drewN a).cell? ⟨r, 1, none⟩ = some (.int .i64 p) := fun _ => h1
  go_quiet (fail)
  have z2 : ∀ a b, ((w.drewN a).drewN b).frozen? ⟨r, 1, none⟩ = false := fun _ _ => z1
  have h2' : ∀ a b, ((w.drewN a).drewN b).cell? ⟨r, 1, none⟩ = some (.int .i64 p) := fun _ _ => h1
  go_wp2_with fail
  go_ret
  have hw : wrap64 (s[p].toNat : Int) = (s[p].toNat : Int) := by have := s[p].toNat_lt; unfold wrap64; omega
  exact ⟨congrArg (fun q => Ending.returned (.int .i64 q)) hw, (h.drewN _).set1 _, ((But.refl _ _).drewN _).set _ _⟩
/-- What a part of the document's reader comes to: the answer, or an error that stays (the place is then anywhere). -/
def Out {α : Type} (r : Nat) (s : ByteArray) (w : World) (V : α → Value → World → Prop) (z : Value) : Except Nat (α × List UInt8) → Ending → World → Prop
  | .ok (a, t), en, w' => ∃ v, en = .returned v ∧ V a v w' ∧ Rrd r s (s.size - t.length : Nat) 0 w' ∧ But r w w'
  | .error x, en, w' => ∃ q : Int, en = .returned z ∧ Rrd r s q x w' ∧ But r w w'
theorem sum_step (k n : Nat) (c : UInt8) (hk : k ≤ 9) (hn : n < 128 ^ k) (h9 : k = 9 → c.toNat ≤ 1) : n + c.toNat % 128 * 128 ^ k < 18446744073709551616 := by
  have hc := c.toNat_lt
  rcases Nat.lt_or_ge k 9 with h8 | h8
  · have h1 : (128 : Nat) ^ (k + 1) ≤ 128 ^ 9 := Nat.pow_le_pow_right (by omega) (by omega)
    have := step_lt k n c hn
    rw [nine] at h1; omega
  · have hk9 : k = 9 := by omega
    have := h9 hk9
    subst hk9
    rw [nine] at hn ⊢; omega
end Rr
end Go.Proofs.YtopmbhpjdmcabaaGreat
namespace Go.Proofs.YtopmbhpjdmcabaaGreat
open Go.RowKit
namespace Rr
open Cod
set_option maxHeartbeats 8000000 in
set_option maxRecDepth 100000 in
theorem uint_part (r : Nat) (s : ByteArray) (p : Nat) (w : World) (h : Rrd r s p 0 w) (hp : p ≤ s.size) (hs : s.size ≤ 9223372036854775807) :
    Calls Tryz.prog 75 #[.pointer (some ⟨r, 0, none⟩)] w fun en w' => Out r s w VNat (.int .u64 0) (num 0 0 (s.data.toList.drop p)) en w' := by
  have Hs := hidm hs
  obtain ⟨R, hR⟩ : ∃ R, R = num 0 0 (s.data.toList.drop p) := ⟨_, rfl⟩
  rw [← hR]
  have HP := hidm hR
  clear hR hs
  go_enter Tryz.func75, Tryz.ntmps75
  go_wp2_with fail
  go_loopw [3, 4, 5] (fun nn sc kk wr => ∃ (k n q z : Nat), nn = .int .u64 n ∧ sc = .int .u64 z ∧ kk = .int .i64 k ∧ k ≤ 9 ∧ q ≤ s.size ∧ z < 18446744073709551616 ∧ n < 18446744073709551616 ∧ Hid (z = 128 ^ k) ∧ Hid (n < 128 ^ k) ∧ Hid (R = num k n (s.data.toList.drop q)) ∧ Hid (Rrd r s q 0 wr) ∧ Hid (But r w wr)) (fun _ _ kk _ => (10 - intOf kk).toNat)
  case atStart => exact ⟨0, 0, p, 1, rfl, rfl, rfl, by omega, hp, by omega, by omega, hidm (by simp), hidm (by simp), HP, hidm h, hidm (But.refl _ _)⟩
  case round =>
    obtain ⟨k, n, q, z, rfl, rfl, rfl, hk, hq, hz, hn64, HZ, HN, HM, HR, HB⟩ := hrel
    have f0 : (k : Int) < 10 := by omega
    rcases Nat.eq_or_lt_of_le hq with hqe | hqe
    · have HQ := hidm hqe
      clear hqe
      go_wp2_with fail
      refine (next_short r s wr (by rw [← HQ.out]; exact HR.out)).mono ?_
      rintro en w1 ⟨rfl, hr1, hb1⟩
      have e1 := hr1.c2
      have HR1 := hidm hr1
      have HB1 := hidm (HB.out.trans hb1)
      clear hr1 hb1
      go_wp2_with fail
      go_ret
      rw [HM.out, HQ.out, drop_end]
      exact ⟨_, rfl, HR1.out, HB1.out⟩
    · obtain ⟨c, hc⟩ : ∃ c : UInt8, s[q] = c := ⟨_, rfl⟩
      have hcl := c.toNat_lt
      have hnx := next_ok r s q wr HR.out hqe Hs.out
      rw [hc] at hnx
      have HC := hidm hc
      clear hc
      obtain ⟨x, hx⟩ : ∃ x, x = c.toNat % 128 := ⟨_, rfl⟩
      obtain ⟨y, hy⟩ : ∃ y, y = x * z := ⟨_, rfl⟩
      have hx1 : (c.toNat : Int).tmod 128 = (x : Int) := by rw [Int.tmod_eq_emod_of_nonneg (by omega)]; omega
      have hx2 : (c.toNat : Int) % 128 = (x : Int) := by omega
      have hxl : x < 128 := by omega
      have hyy : (x : Int) * (z : Int) = (y : Int) := by rw [hy]; push_cast; rfl
      have HY : Hid (y = c.toNat % 128 * 128 ^ k) := hidm (by rw [hy, hx, HZ.out])
      clear hx hy
      rcases (show ((k = 9) ∧ (1 < c.toNat)) ∨ ((k = 9) ∧ (c.toNat = 0)) ∨ ((k = 9) ∧ (c.toNat = 1)) ∨ ((k = 0) ∧ (c.toNat < 128)) ∨ ((k = 0) ∧ (128 ≤ c.toNat)) ∨ ((0 < k ∧ k < 9) ∧ (c.toNat = 0)) ∨ ((0 < k ∧ k < 9) ∧ (0 < c.toNat ∧ c.toNat < 128)) ∨ ((0 < k ∧ k < 9) ∧ (128 ≤ c.toNat)) by omega) with ⟨hk1, hc1⟩ | ⟨hk1, hc1⟩ | ⟨hk1, hc1⟩ | ⟨hk1, hc1⟩ | ⟨hk1, hc1⟩ | ⟨hk1, hc1⟩ | ⟨hk1, hc1⟩ | ⟨hk1, hc1⟩
      · have g1 : ((k : Int) == 9) = true := by simp; omega
        have g2 : (1 : Int) < (c.toNat : Int) := by omega
        have HX := hidm (num_bad (n := n) hqe HC.out (k := k) (by omega))
        have HK1 := hidm hk1
        have HC1 := hidm hc1
        clear hk1 hc1
        go_wp2_with fail
        refine hnx.mono ?_
        rintro en w1 ⟨rfl, hr1, hb1⟩
        have e1 := hr1.c2
        have HR1 := hidm hr1
        have HB1 := hidm (HB.out.trans hb1)
        clear hr1 hb1
        go_wp2_with fail
        refine (fail_any r s _ 7 w1 HR1.out).mono ?_
        rintro en w2 ⟨rfl, hr2, hb2⟩
        have HR2 := hidm hr2
        have HB2 := hidm (HB1.out.trans hb2)
        clear hr2 hb2 e1
        go_wp2_with fail
        go_ret
        rw [HM.out, HX.out]
        exact ⟨_, rfl, HR2.out, HB2.out⟩
      · have g1 : ((k : Int) == 9) = true := by simp; omega
        have g2 : ¬ (1 : Int) < (c.toNat : Int) := by omega
        have g3 : ((c.toNat : Int) == 0) = true := by simp; omega
        have g4 : (0 : Int) < (k : Int) := by omega
        have g4' : 0 < k := by omega
        have HX := hidm (num_bad (n := n) hqe HC.out (k := k) (by omega))
        have HK1 := hidm hk1
        have HC1 := hidm hc1
        clear hk1 hc1
        go_wp2_with fail
        refine hnx.mono ?_
        rintro en w1 ⟨rfl, hr1, hb1⟩
        have e1 := hr1.c2
        have HR1 := hidm hr1
        have HB1 := hidm (HB.out.trans hb1)
        clear hr1 hb1
        go_wp2_with fail
        refine (fail_any r s _ 7 w1 HR1.out).mono ?_
        rintro en w2 ⟨rfl, hr2, hb2⟩
        have HR2 := hidm hr2
        have HB2 := hidm (HB1.out.trans hb2)
        clear hr2 hb2 e1
        go_wp2_with fail
        go_ret
        rw [HM.out, HX.out]
        exact ⟨_, rfl, HR2.out, HB2.out⟩
      · have g1 : ((k : Int) == 9) = true := by simp; omega
        have g2 : ¬ (1 : Int) < (c.toNat : Int) := by omega
        have g3 : ((c.toNat : Int) == 0) = false := by simp; omega
        have g5 : (c.toNat : Int) < 128 := by omega
        have HSUM := hidm (sum_step k n c hk HN.out (by omega))
        have HL := hidm (step_lt k n c HN.out)
        have hsm : n + y < 18446744073709551616 := by have h1 := HSUM.out; have h2 := HY.out; omega
        have HX := hidm (num_end (n := n) hqe HC.out (k := k) (by omega) (by omega))
        have HK1 := hidm hk1
        have HC1 := hidm hc1
        clear hk1 hc1
        go_wp2_with fail
        refine hnx.mono ?_
        rintro en w1 ⟨rfl, hr1, hb1⟩
        have e1 := hr1.c2
        have HR1 := hidm hr1
        have HB1 := hidm (HB.out.trans hb1)
        clear hr1 hb1
        go_wp2_with fail
        go_ret
        rw [HM.out, HX.out]
        exact ⟨_, rfl, congrArg (Value.int .u64) (by have := HY.out; omega), by rw [back_at s (q + 1) hqe]; exact HR1.out, HB1.out⟩
      · have g1 : ((k : Int) == 9) = false := by simp; omega
        have g4 : ¬ (0 : Int) < (k : Int) := by omega
        have g4' : ¬ 0 < k := by omega
        have g5 : (c.toNat : Int) < 128 := by omega
        by_cases hcz : c.toNat = 0
        · have g3 : ((c.toNat : Int) == 0) = true := by simp; omega
          have HZ0 := hidm hcz
          clear hcz
          have HSUM := hidm (sum_step k n c hk HN.out (by omega))
          have HL := hidm (step_lt k n c HN.out)
          have hsm : n + y < 18446744073709551616 := by have h1 := HSUM.out; have h2 := HY.out; omega
          have HX := hidm (num_end (n := n) hqe HC.out (k := k) (by omega) (by omega))
          have HK1 := hidm hk1
          have HC1 := hidm hc1
          clear hk1 hc1
          go_wp2_with fail
          refine hnx.mono ?_
          rintro en w1 ⟨rfl, hr1, hb1⟩
          have e1 := hr1.c2
          have HR1 := hidm hr1
          have HB1 := hidm (HB.out.trans hb1)
          clear hr1 hb1
          go_wp2_with fail
          go_ret
          rw [HM.out, HX.out]
          exact ⟨_, rfl, congrArg (Value.int .u64) (by have := HY.out; omega), by rw [back_at s (q + 1) hqe]; exact HR1.out, HB1.out⟩
        · have g3 : ((c.toNat : Int) == 0) = false := by simp; omega
          have HZ0 := hidm hcz
          clear hcz
          have HSUM := hidm (sum_step k n c hk HN.out (by omega))
          have HL := hidm (step_lt k n c HN.out)
          have hsm : n + y < 18446744073709551616 := by have h1 := HSUM.out; have h2 := HY.out; omega
          have HX := hidm (num_end (n := n) hqe HC.out (k := k) (by omega) (by omega))
          have HK1 := hidm hk1
          have HC1 := hidm hc1
          clear hk1 hc1
          go_wp2_with fail
          refine hnx.mono ?_
          rintro en w1 ⟨rfl, hr1, hb1⟩
          have e1 := hr1.c2
          have HR1 := hidm hr1
          have HB1 := hidm (HB.out.trans hb1)
          clear hr1 hb1
          go_wp2_with fail
          go_ret
          rw [HM.out, HX.out]
          exact ⟨_, rfl, congrArg (Value.int .u64) (by have := HY.out; omega), by rw [back_at s (q + 1) hqe]; exact HR1.out, HB1.out⟩
      · have g1 : ((k : Int) == 9) = false := by simp; omega
        have g3 : ((c.toNat : Int) == 0) = false := by simp; omega
        have g5 : ¬ (c.toNat : Int) < 128 := by omega
        have HSUM := hidm (sum_step k n c hk HN.out (by omega))
        have HL := hidm (step_lt k n c HN.out)
        have hsm : n + y < 18446744073709551616 := by have h1 := HSUM.out; have h2 := HY.out; omega
        obtain ⟨z2, hz2⟩ : ∃ z2, z2 = 128 * z := ⟨_, rfl⟩
        have hz3 : (128 : Int) * (z : Int) = (z2 : Int) := by omega
        have HZ2 : Hid (z2 = 128 ^ (k + 1)) := hidm (by rw [hz2, HZ.out, Nat.pow_succ, Nat.mul_comm])
        have hz4 : z2 < 18446744073709551616 := by have h1 : (128 : Nat) ^ (k + 1) ≤ 128 ^ 9 := Nat.pow_le_pow_right (by omega) (by omega); rw [nine] at h1; have := HZ2.out; omega
        clear hz2
        have HX := hidm (num_more (n := n) hqe HC.out (k := k) (by omega) (by omega))
        have HK1 := hidm hk1
        have HC1 := hidm hc1
        clear hk1 hc1
        go_wp2_with fail
        refine hnx.mono ?_
        rintro en w1 ⟨rfl, hr1, hb1⟩
        have e1 := hr1.c2
        have HR1 := hidm hr1
        have HB1 := hidm (HB.out.trans hb1)
        clear hr1 hb1
        go_wp2_with fail
        go_roundw
        case rel => exact ⟨k + 1, n + y, q + 1, z2, by go_num, rfl, by go_num, by have := HK1.out; omega, hqe, hz4, hsm, HZ2, hidm (by have h1 := HL.out; have h2 := HY.out; omega), hidm (by rw [HM.out, HX.out, HY.out]), HR1, HB1⟩
        case measure => have := HK1.out; simp [intOf]; omega
      · have g1 : ((k : Int) == 9) = false := by simp; omega
        have g3 : ((c.toNat : Int) == 0) = true := by simp; omega
        have g4 : (0 : Int) < (k : Int) := by omega
        have g4' : 0 < k := by omega
        have HX := hidm (num_bad (n := n) hqe HC.out (k := k) (by omega))
        have HK1 := hidm hk1
        have HC1 := hidm hc1
        clear hk1 hc1
        go_wp2_with fail
        refine hnx.mono ?_
        rintro en w1 ⟨rfl, hr1, hb1⟩
        have e1 := hr1.c2
        have HR1 := hidm hr1
        have HB1 := hidm (HB.out.trans hb1)
        clear hr1 hb1
        go_wp2_with fail
        refine (fail_any r s _ 7 w1 HR1.out).mono ?_
        rintro en w2 ⟨rfl, hr2, hb2⟩
        have HR2 := hidm hr2
        have HB2 := hidm (HB1.out.trans hb2)
        clear hr2 hb2 e1
        go_wp2_with fail
        go_ret
        rw [HM.out, HX.out]
        exact ⟨_, rfl, HR2.out, HB2.out⟩
      · have g1 : ((k : Int) == 9) = false := by simp; omega
        have g3 : ((c.toNat : Int) == 0) = false := by simp; omega
        have g5 : (c.toNat : Int) < 128 := by omega
        have HSUM := hidm (sum_step k n c hk HN.out (by omega))
        have HL := hidm (step_lt k n c HN.out)
        have hsm : n + y < 18446744073709551616 := by have h1 := HSUM.out; have h2 := HY.out; omega
        have HX := hidm (num_end (n := n) hqe HC.out (k := k) (by omega) (by omega))
        have HK1 := hidm hk1
        have HC1 := hidm hc1
        clear hk1 hc1
        go_wp2_with fail
        refine hnx.mono ?_
        rintro en w1 ⟨rfl, hr1, hb1⟩
        have e1 := hr1.c2
        have HR1 := hidm hr1
        have HB1 := hidm (HB.out.trans hb1)
        clear hr1 hb1
        go_wp2_with fail
        go_ret
        rw [HM.out, HX.out]
        exact ⟨_, rfl, congrArg (Value.int .u64) (by have := HY.out; omega), by rw [back_at s (q + 1) hqe]; exact HR1.out, HB1.out⟩
      · have g1 : ((k : Int) == 9) = false := by simp; omega
        have g3 : ((c.toNat : Int) == 0) = false := by simp; omega
        have g5 : ¬ (c.toNat : Int) < 128 := by omega
        have HSUM := hidm (sum_step k n c hk HN.out (by omega))
        have HL := hidm (step_lt k n c HN.out)
        have hsm : n + y < 18446744073709551616 := by have h1 := HSUM.out; have h2 := HY.out; omega
        obtain ⟨z2, hz2⟩ : ∃ z2, z2 = 128 * z := ⟨_, rfl⟩
        have hz3 : (128 : Int) * (z : Int) = (z2 : Int) := by omega
        have HZ2 : Hid (z2 = 128 ^ (k + 1)) := hidm (by rw [hz2, HZ.out, Nat.pow_succ, Nat.mul_comm])
        have hz4 : z2 < 18446744073709551616 := by have h1 : (128 : Nat) ^ (k + 1) ≤ 128 ^ 9 := Nat.pow_le_pow_right (by omega) (by omega); rw [nine] at h1; have := HZ2.out; omega
        clear hz2
        have HX := hidm (num_more (n := n) hqe HC.out (k := k) (by omega) (by omega))
        have HK1 := hidm hk1
        have HC1 := hidm hc1
        clear hk1 hc1
        go_wp2_with fail
        refine hnx.mono ?_
        rintro en w1 ⟨rfl, hr1, hb1⟩
        have e1 := hr1.c2
        have HR1 := hidm hr1
        have HB1 := hidm (HB.out.trans hb1)
        clear hr1 hb1
        go_wp2_with fail
        go_roundw
        case rel => exact ⟨k + 1, n + y, q + 1, z2, by go_num, rfl, by go_num, by have := HK1.out; omega, hqe, hz4, hsm, HZ2, hidm (by have h1 := HL.out; have h2 := HY.out; omega), hidm (by rw [HM.out, HX.out, HY.out]), HR1, HB1⟩
        case measure => have := HK1.out; simp [intOf]; omega
set_option maxHeartbeats 1000000 in
theorem whole_part (r : Nat) (s : ByteArray) (p : Nat) (w : World) (h : Rrd r s p 0 w) (hp : p ≤ s.size) (hs : s.size ≤ 281474976710656) :
    Calls Tryz.prog 126 #[.pointer (some ⟨r, 0, none⟩)] w fun en w' => Out r s w VInt (.int .i64 0) (sig (s.data.toList.drop p)) en w' := by
  have hn := uint_part r s p w h hp (by omega)
  obtain ⟨R, hR⟩ : ∃ R, R = num 0 0 (s.data.toList.drop p) := ⟨_, rfl⟩
  unfold sig
  rw [← hR] at hn ⊢
  have HR := hidm hR
  clear hR
  go_enter Tryz.func126, Tryz.ntmps126
  go_wp2_with fail
  refine hn.mono ?_
  cases R with
  | error x =>
    rintro en w1 ⟨q, rfl, hv⟩
    have HV := hidm hv
    clear hv
    go_wp2_with fail
    go_ret
    exact ⟨q, rfl, HV.out⟩
  | ok at' =>
    obtain ⟨n, t⟩ := at'
    rintro en w1 ⟨v, rfl, rfl, hv⟩
    have HV := hidm hv
    have hb := (read_ok HR.out.symm).2
    clear hv
    rcases Nat.mod_two_eq_zero_or_one n with h2 | h2
    · have h3 : ((n : Int) % 2 == 0) = true := by simp; omega
      have h4 : zag n = (n : Int) / 2 := by unfold zag; rw [if_neg (by omega)]; omega
      have H4 := hidm h4
      clear h4
      go_wp2_with fail
      go_ret
      exact ⟨_, rfl, congrArg (Value.int .i64) H4.out.symm, HV.out⟩
    · have h3 : ((n : Int) % 2 == 0) = false := by simp; omega
      have h4 : zag n = -((n : Int) / 2) - 1 := by unfold zag; rw [if_pos h2]; omega
      have H4 := hidm h4
      clear h4
      go_wp2_with fail
      go_ret
      exact ⟨_, rfl, congrArg (Value.int .i64) H4.out.symm, HV.out⟩
end Rr
end Go.Proofs.YtopmbhpjdmcabaaGreat
namespace Go.Proofs.YtopmbhpjdmcabaaGreat
open Go.RowKit
namespace Rr
open Cod
theorem end_ok (r : Nat) (s : ByteArray) (p a : Int) (w : World) (h : Rrd r s p 0 w) :
    Calls Tryz.prog 76 #[.pointer (some ⟨r, 0, none⟩), .int .i64 a] w fun en w' => en = .returned (.bool true) ∧ w = w' := by
  have h2 := h.c2
  clear h
  go_enter Tryz.func76, Tryz.ntmps76
  go_wp2_with fail
  go_ret
  exact ⟨rfl, rfl⟩
theorem end_bad (r : Nat) (s : ByteArray) (p a e : Int) (he : (e != 0) = true) (w : World) (h : Rrd r s p e w) :
    Calls Tryz.prog 76 #[.pointer (some ⟨r, 0, none⟩), .int .i64 a] w fun en w' => en = .returned (.bool false) ∧ Rrd r s a e w' ∧ But r w w' := by
  have h2 := h.c2
  have h1 := h.c1
  have z1 := h.z1
  have HR := hidm h
  clear h
  go_enter Tryz.func76, Tryz.ntmps76
  go_wp2_with fail
  go_ret
  exact ⟨rfl, HR.out.set1 a, (But.refl _ _).set _ _⟩
/-- What a call of the document's reader comes to: the answer, or the zero z, the error, and the place where it began. -/
def Does {α : Type} (r : Nat) (s : ByteArray) (p : Int) (w : World) (V : α → Value → World → Prop) (z : Value) : Except Nat (α × List UInt8) → Ending → World → Prop
  | .ok (a, t), en, w' => ∃ v, en = .returned v ∧ V a v w' ∧ Rrd r s (s.size - t.length : Nat) 0 w' ∧ But r w w'
  | .error x, en, w' => en = .returned z ∧ Rrd r s p x w' ∧ But r w w'
theorem uint_call (r : Nat) (s : ByteArray) (p : Nat) (w : World) (h : Rrd r s p 0 w) (hp : p ≤ s.size) (hs : s.size ≤ 281474976710656) :
    Calls Tryz.prog 52 #[.pointer (some ⟨r, 0, none⟩)] w fun en w' => Does r s p w VNat (.int .u64 0) (num 0 0 (s.data.toList.drop p)) en w' := by
  have hn := uint_part r s p w h hp (by omega)
  have h1 := h.c1
  obtain ⟨R, hR⟩ : ∃ R, R = num 0 0 (s.data.toList.drop p) := ⟨_, rfl⟩
  rw [← hR] at hn ⊢
  have HR := hidm hR
  clear hR
  go_enter Tryz.func52, Tryz.ntmps52
  go_wp2_with fail
  refine hn.mono ?_
  cases R with
  | error x =>
    rintro en w1 ⟨q, rfl, hr, hb⟩
    have hx : ((x : Int) != 0) = true := by have := num_err _ _ _ _ HR.out.symm; simp; omega
    have HR1 := hidm hr
    have HB1 := hidm hb
    clear hr hb h1
    go_wp2_with fail
    refine (end_bad r s q p x hx w1 HR1.out).mono ?_
    rintro en w2 ⟨rfl, hr, hb⟩
    have HR2 := hidm hr
    have HB2 := hidm (HB1.out.trans hb)
    clear hr hb
    go_wp2_with fail
    go_ret
    exact ⟨rfl, HR2.out, HB2.out⟩
  | ok at' =>
    obtain ⟨n, t⟩ := at'
    rintro en w1 ⟨v, rfl, rfl, hr, hb⟩
    have HR1 := hidm hr
    have HB1 := hidm hb
    clear hr hb h1
    go_wp2_with fail
    refine (end_ok r s _ p w1 HR1.out).mono ?_
    rintro en w2 ⟨rfl, rfl⟩
    go_wp2_with fail
    go_ret
    exact ⟨_, rfl, rfl, HR1.out, HB1.out⟩
theorem sig_err {l : List UInt8} {x : Nat} (h : sig l = .error x) : x = 7 ∨ x = 8 := by
  unfold sig sigR at h
  split at h
  · cases h
  · rename_i y hy; cases h; exact num_err _ _ _ _ hy
theorem rrs_of2 {r : Nat} {s : ByteArray} {q e : Int} {w w' : World} (h : Rrd r s q e w') (b : But r w w') : w'.cell? ⟨r, 0, none⟩ = some (.string s) ∧ w'.cell? ⟨r, 1, none⟩ = some (.int .i64 q) ∧ Hid (Rrd r s q e w' ∧ But r w w') := ⟨h.c0, h.c1, ⟨h, b⟩⟩
set_option maxHeartbeats 2000000 in
set_option maxRecDepth 100000 in
theorem text_part (r : Nat) (s : ByteArray) (p most : Nat) (hm : most ≤ 9223372036854775807) (w : World) (h : Rrd r s p 0 w) (hp : p ≤ s.size) (hs : s.size ≤ 281474976710656) :
    Calls Tryz.prog 105 #[.pointer (some ⟨r, 0, none⟩), .int .u64 most] w fun en w' => Out r s w VStr (.string ⟨#[]⟩) (txt most (s.data.toList.drop p)) en w' := by
  have hn := uint_part r s p w h hp (by omega)
  obtain ⟨R, hR⟩ : ∃ R, R = num 0 0 (s.data.toList.drop p) := ⟨_, rfl⟩
  obtain ⟨F, hF⟩ : ∃ F, F = txt most (s.data.toList.drop p) := ⟨_, rfl⟩
  rw [← hF]
  unfold txt len at hF
  rw [← hR] at hn hF
  have HR := hidm hR
  have HF := hidm hF
  clear hR hF
  go_enter Tryz.func105, Tryz.ntmps105
  go_wp2_with fail
  refine hn.mono ?_
  cases R with
  | error x =>
    rintro en w1 ⟨q, rfl, hr, hb⟩
    have hx : ((x : Int) != 0) = true := by have := num_err _ _ _ _ HR.out.symm; simp; omega
    have e1 := hr.c2
    have HR1 := hidm hr
    have HB1 := hidm hb
    clear hr hb
    go_wp2_with fail
    go_ret
    rw [HF.out]
    exact ⟨q, rfl, HR1.out, HB1.out⟩
  | ok at' =>
    obtain ⟨n, t⟩ := at'
    rintro en w1 ⟨v, rfl, rfl, hr, hb⟩
    have hnb := (read_ok HR.out.symm)
    have hrest := rest_at hnb.1
    obtain ⟨q, hq⟩ : ∃ q, q = s.size - t.length := ⟨_, rfl⟩
    rw [← hq] at hrest hr
    have htq : s.size - q = t.length := by have := hrest.2.2; omega
    have e1 := hr.c2
    have HR1 := hidm hr
    have HB1 := hidm hb
    have HH := hidm hrest
    have hn64 := hnb.2
    have hq9 : q ≤ s.size := hrest.2.1
    have HTQ := hidm htq
    have HQ := hidm hq
    clear hr hb hrest hnb hq htq
    rcases Nat.lt_or_ge most n with h1 | h1
    · have g1 : (most : Int) < n := by omega
      go_wp2_with fail
      refine (fail_any r s q 19 w1 HR1.out).mono ?_
      rintro en w2 ⟨rfl, hr, hb⟩
      have HR2 := hidm hr
      have HB2 := hidm (HB1.out.trans hb)
      clear hr hb e1
      go_wp2_with fail
      go_ret
      have hf : F = .error 19 := by rw [HF.out]; simp only [lenR]; rw [if_pos h1]; rfl
      rw [hf]
      exact ⟨_, rfl, HR2.out, HB2.out⟩
    · have g1 : ¬ (most : Int) < n := by omega
      have k0 := HR1.out.c0
      have k1 := HR1.out.c1
      have z1 := HR1.out.z1
      have htl : t.length ≤ 281474976710656 := by have := HTQ.out; omega
      have hsub : (s.size : Int) - (q : Int) = (t.length : Int) := by have := HTQ.out; omega
      rcases Nat.lt_or_ge t.length n with h2 | h2
      · have g2 : (t.length : Int) < n := by omega
        go_wp2_with fail
        go_quiet (fail)
        go_wp2_with fail
        refine (fail_any r s q 8 _ (HR1.out.drewN _)).mono ?_
        rintro en w2 ⟨rfl, hr, hb⟩
        have HR2 := hidm hr
        have HB2 := hidm ((HB1.out.drewN _).trans hb)
        clear hr hb e1 k0 k1 z1
        go_wp2_with fail
        go_ret
        have hf : F = .error 8 := by rw [HF.out]; simp only [lenR]; rw [if_neg (by omega)]; simp only [txtR]; rw [if_pos h2]
        rw [hf]
        exact ⟨_, rfl, HR2.out, HB2.out⟩
      · have g2 : ¬ (t.length : Int) < n := by omega
        have hqn : q + n ≤ s.size := by have := HTQ.out; omega
        have b1 : (q : Int) ≤ (q : Int) + n := by omega
        have b2 : (q : Int) + n ≤ (s.size : Int) := by omega
        have g3 : ¬ t.length < n := by omega
        go_wp2_with fail
        go_quiet (fail)
        go_wp2_with fail
        have k0' : ∀ a, (w1.drewN a).cell? ⟨r, 0, none⟩ = some (.string s) := fun _ => k0
        have k1' : ∀ a, (w1.drewN a).cell? ⟨r, 1, none⟩ = some (.int .i64 q) := fun _ => k1
        go_region
        have z2 : ∀ a, ((w1.drewN a).drew).frozen? ⟨r, 1, none⟩ = false := fun _ => z1
        have k2 : ∀ a, ((w1.drewN a).drew).cell? ⟨r, 1, none⟩ = some (.int .i64 q) := fun _ => k1
        have z3 : ∀ a, (w1.drewN a).frozen? ⟨r, 1, none⟩ = false := fun _ => z1
        go_wp2_with fail
        go_ret
        have hf : F = .ok (t.take n, t.drop n) := by rw [HF.out]; simp only [lenR]; rw [if_neg (by omega)]; simp only [txtR]; rw [if_neg (by omega)]
        rw [hf]
        refine ⟨_, rfl, congrArg Value.string ?_, ?_, ?_⟩
        · rw [cut_bytes, HH.out.1]
        · have e2 : s.size - (t.drop n).length = q + n := by rw [List.length_drop]; have := HTQ.out; omega
          rw [e2]
          exact (HR1.out.drewN _).set1 _
        · exact (HB1.out.drewN _).set _ _
end Rr
end Go.Proofs.YtopmbhpjdmcabaaGreat
namespace Go.Proofs.YtopmbhpjdmcabaaGreat
open Go.RowKit
namespace Rr
open Cod
set_option maxHeartbeats 1000000 in
theorem uint_kept (r : Nat) (s : ByteArray) (p e : Int) (he : (e != 0) = true) (w : World) (h : Rrd r s p e w) :
    Calls Tryz.prog 75 #[.pointer (some ⟨r, 0, none⟩)] w fun en w' => en = .returned (.int .u64 0) ∧ w = w' := by
  have hk := next_kept r s p e he w h
  have h2 := h.c2
  clear h
  go_enter Tryz.func75, Tryz.ntmps75
  go_wp2_with fail
  go_loopw [3, 4, 5] (fun nn sc kk wr => nn = .int .u64 0 ∧ sc = .int .u64 1 ∧ kk = .int .i64 0 ∧ Hid (wr = w)) (fun _ _ kk _ => (10 - intOf kk).toNat)
  case atStart => exact ⟨rfl, rfl, rfl, hidm rfl⟩
  case round =>
    obtain ⟨rfl, rfl, rfl, HW⟩ := hrel
    obtain rfl : wr = w := HW.out
    go_wp2_with fail
    refine hk.mono ?_
    rintro en w1 ⟨rfl, rfl⟩
    go_wp2_with fail
    go_ret
    exact ⟨rfl, rfl⟩
theorem whole_kept (r : Nat) (s : ByteArray) (p e : Int) (he : (e != 0) = true) (w : World) (h : Rrd r s p e w) :
    Calls Tryz.prog 126 #[.pointer (some ⟨r, 0, none⟩)] w fun en w' => en = .returned (.int .i64 0) ∧ w = w' := by
  have hk := uint_kept r s p e he w h
  clear h
  go_enter Tryz.func126, Tryz.ntmps126
  go_wp2_with fail
  refine hk.mono ?_
  rintro en w1 ⟨rfl, rfl⟩
  go_wp2_with fail
  go_ret
  exact ⟨rfl, rfl⟩
theorem text_kept (r : Nat) (s : ByteArray) (p e most : Int) (he : (e != 0) = true) (w : World) (h : Rrd r s p e w) :
    Calls Tryz.prog 105 #[.pointer (some ⟨r, 0, none⟩), .int .u64 most] w fun en w' => en = .returned (.string ⟨#[]⟩) ∧ w = w' := by
  have hk := uint_kept r s p e he w h
  have h2 := h.c2
  clear h
  go_enter Tryz.func105, Tryz.ntmps105
  go_wp2_with fail
  refine hk.mono ?_
  rintro en w1 ⟨rfl, rfl⟩
  go_wp2_with fail
  go_ret
  exact ⟨rfl, rfl⟩
theorem txt_err {m : Nat} {l : List UInt8} {x : Nat} (h : txt m l = .error x) : x = 7 ∨ x = 8 ∨ x = 19 := by
  unfold txt txtR at h
  split at h
  · split at h
    · cases h; omega
    · cases h
  · rename_i y hy
    cases h
    unfold len lenR at hy
    split at hy
    · split at hy
      · cases hy; omega
      · cases hy
    · rename_i z hz; cases hy; have := num_err _ _ _ _ hz; omega
theorem text_call (r : Nat) (s : ByteArray) (p : Nat) (w : World) (h : Rrd r s p 0 w) (hp : p ≤ s.size) (hs : s.size ≤ 281474976710656) :
    Calls Tryz.prog 78 #[.pointer (some ⟨r, 0, none⟩)] w fun en w' => Does r s p w VStr (.string ⟨#[]⟩) (txt 1000000 (s.data.toList.drop p)) en w' := by
  have hn := text_part r s p 1000000 (by omega) w h hp hs
  have h1 := h.c1
  obtain ⟨R, hR⟩ : ∃ R, R = txt 1000000 (s.data.toList.drop p) := ⟨_, rfl⟩
  rw [← hR] at hn ⊢
  have HR := hidm hR
  clear hR
  go_enter Tryz.func78, Tryz.ntmps78
  go_wp2_with fail
  refine hn.mono ?_
  cases R with
  | error x =>
    rintro en w1 ⟨q, rfl, hr, hb⟩
    have hx : ((x : Int) != 0) = true := by have := txt_err HR.out.symm; simp; omega
    have HR1 := hidm hr
    have HB1 := hidm hb
    clear hr hb h1
    go_wp2_with fail
    refine (end_bad r s q p x hx w1 HR1.out).mono ?_
    rintro en w2 ⟨rfl, hr, hb⟩
    have HR2 := hidm hr
    have HB2 := hidm (HB1.out.trans hb)
    clear hr hb
    go_wp2_with fail
    go_ret
    exact ⟨rfl, HR2.out, HB2.out⟩
  | ok at' =>
    obtain ⟨n, t⟩ := at'
    rintro en w1 ⟨v, rfl, rfl, hr, hb⟩
    have HR1 := hidm hr
    have HB1 := hidm hb
    clear hr hb h1
    go_wp2_with fail
    refine (end_ok r s _ p w1 HR1.out).mono ?_
    rintro en w2 ⟨rfl, rfl⟩
    go_wp2_with fail
    go_ret
    exact ⟨_, rfl, rfl, HR1.out, HB1.out⟩
end Rr
end Go.Proofs.YtopmbhpjdmcabaaGreat
namespace Go.Proofs.YtopmbhpjdmcabaaGreat
open Go.RowKit
namespace Rr
open Cod
theorem uint_stay (r : Nat) (s : ByteArray) (p e : Int) (he : (e != 0) = true) (w : World) (h : Rrd r s p e w) :
    Calls Tryz.prog 52 #[.pointer (some ⟨r, 0, none⟩)] w fun en w' => en = .returned (.int .u64 0) ∧ Rrd r s p e w' ∧ But r w w' := by
  have hk := uint_kept r s p e he w h
  have h1 := h.c1
  have HR := hidm h
  clear h
  go_enter Tryz.func52, Tryz.ntmps52
  go_wp2_with fail
  refine hk.mono ?_
  rintro en w1 ⟨rfl, rfl⟩
  go_wp2_with fail
  refine (end_bad r s p p e he w HR.out).mono ?_
  rintro en w2 ⟨rfl, hr, hb⟩
  have HR2 := hidm hr
  have HB2 := hidm hb
  clear hr hb h1 hk
  go_wp2_with fail
  go_ret
  exact ⟨rfl, HR2.out, HB2.out⟩
theorem text_stay (r : Nat) (s : ByteArray) (p e : Int) (he : (e != 0) = true) (w : World) (h : Rrd r s p e w) :
    Calls Tryz.prog 78 #[.pointer (some ⟨r, 0, none⟩)] w fun en w' => en = .returned (.string ⟨#[]⟩) ∧ Rrd r s p e w' ∧ But r w w' := by
  have hk := text_kept r s p e 1000000 he w h
  have h1 := h.c1
  have HR := hidm h
  clear h
  go_enter Tryz.func78, Tryz.ntmps78
  go_wp2_with fail
  refine hk.mono ?_
  rintro en w1 ⟨rfl, rfl⟩
  go_wp2_with fail
  refine (end_bad r s p p e he w HR.out).mono ?_
  rintro en w2 ⟨rfl, hr, hb⟩
  have HR2 := hidm hr
  have HB2 := hidm hb
  clear hr hb h1 hk
  go_wp2_with fail
  go_ret
  exact ⟨rfl, HR2.out, HB2.out⟩
end Rr
end Go.Proofs.YtopmbhpjdmcabaaGreat
