import Derived.Test.YtkgbemkcnahkoaaGreatDoorZPqto
namespace Go.Proofs.YtkgbemkcnahkoaaGreatDoor
open Go.RowKit
namespace Rr
open Cod
def Rrd (r : Nat) (s : ByteArray) (p e : Int) (w : World) : Prop := w.heap[r]? = some (.cells #[.string s, .int .i64 p, .int .i64 e] 137 (0, 0))
section
variable {r : Nat} {s : ByteArray} {p e : Int} {w w' : World}
theorem Rrd.lt (h : Rrd r s p e w) : r < w.heap.size := lt_of_block h
theorem Rrd.c0 (h : Rrd r s p e w) : w.cell? ⟨r, 0, none⟩ = some (.string s) := by unfold Rrd at h; simp [World.cell?, h]
theorem Rrd.c1 (h : Rrd r s p e w) : w.cell? ⟨r, 1, none⟩ = some (.int .i64 p) := by unfold Rrd at h; simp [World.cell?, h]
theorem Rrd.c2 (h : Rrd r s p e w) : w.cell? ⟨r, 2, none⟩ = some (.int .i64 e) := by unfold Rrd at h; simp [World.cell?, h]
theorem Rrd.z1 (h : Rrd r s p e w) : w.frozen? ⟨r, 1, none⟩ = false := by unfold Rrd at h; simp [World.frozen?, h]
theorem Rrd.z2 (h : Rrd r s p e w) : w.frozen? ⟨r, 2, none⟩ = false := by unfold Rrd at h; simp [World.frozen?, h]
theorem Rrd.later (h : Rrd r s p e w) (hb : Below w.heap.size w w') : Rrd r s p e w' := below_keeps hb h
theorem Rrd.past (h : Rrd r s p e w) (o : Obj) : Rrd r s p e (w.alloc o) := h.later ((Below.refl _ _).alloc (Nat.le_refl _) _)
theorem Rrd.drewN (h : Rrd r s p e w) (n : Nat) : Rrd r s p e (w.drewN n) := h.later (below_drewN (Below.refl _ _) n)
theorem Rrd.set1 (h : Rrd r s p e w) (q : Int) : Rrd r s q e (w.setCell ⟨r, 1, none⟩ (.int .i64 q)) := by
 have hlt := lt_of_block h
 have h' : w.heap[r] = .cells #[.string s, .int .i64 p, .int .i64 e] 137 (0, 0) := by simpa [Rrd, Array.getElem?_eq_getElem hlt] using h
 show (w.heap.modify r _)[r]? = _
 rw [Array.getElem?_eq_getElem (by simpa using hlt), Array.getElem_modify_self, h']
 rfl
theorem Rrd.set2 (h : Rrd r s p e w) (q : Int) : Rrd r s p q (w.setCell ⟨r, 2, none⟩ (.int .i64 q)) := by
 have hlt := lt_of_block h
 have h' : w.heap[r] = .cells #[.string s, .int .i64 p, .int .i64 e] 137 (0, 0) := by simpa [Rrd, Array.getElem?_eq_getElem hlt] using h
 show (w.heap.modify r _)[r]? = _
 rw [Array.getElem?_eq_getElem (by simpa using hlt), Array.getElem_modify_self, h']
 rfl
theorem Rrd.new (w : World) (s : ByteArray) (p e : Int) : Rrd w.heap.size s p e (w.alloc (.cells #[.string s, .int .i64 p, .int .i64 e] 137)) := heap_alloc_new _ _
end
theorem new_any (s : ByteArray) (w : World) :
   Calls Tryz.prog 87 #[.string s] w fun e w' => ∃ r, w.heap.size ≤ r ∧ e = .returned (.pointer (some ⟨r, 0, none⟩)) ∧ Rrd r s 0 0 w' ∧ Below w.heap.size w w' := by
 go_enter Tryz.func87, Tryz.ntmps87
 go_wp2_with fail
 go_ret
 exact ⟨_, Nat.le_refl _, rfl, Rrd.new _ _ _ _, (Below.refl _ _).alloc (Nat.le_refl _) _⟩
theorem fail_any (r : Nat) (s : ByteArray) (p x : Int) (w : World) (h : Rrd r s p 0 w) :
   Calls Tryz.prog 171 #[.pointer (some ⟨r, 0, none⟩), .int .i64 x] w fun e w' => e = .returned (.tuple #[]) ∧ Rrd r s p x w' ∧ But r w w' := by
 have h2 := h.c2
 have z2 := h.z2
 have HR := hidm h
 clear h
 go_enter Tryz.func171, Tryz.ntmps171
 go_wp2_with fail
 go_end0
 exact ⟨rfl, HR.out.set2 x, (But.refl _ _).set _ _⟩
theorem next_kept (r : Nat) (s : ByteArray) (p e : Int) (he : (e != 0) = true) (w : World) (h : Rrd r s p e w) :
   Calls Tryz.prog 170 #[.pointer (some ⟨r, 0, none⟩)] w fun en w' => en = .returned (.int .i64 0) ∧ w = w' := by
 have h2 := h.c2
 clear h
 go_enter Tryz.func170, Tryz.ntmps170
 go_wp2_with fail
 go_ret
 exact ⟨rfl, rfl⟩
set_option maxHeartbeats 1000000 in
theorem next_short (r : Nat) (s : ByteArray) (w : World) (h : Rrd r s s.size 0 w) :
   Calls Tryz.prog 170 #[.pointer (some ⟨r, 0, none⟩)] w fun en w' => en = .returned (.int .i64 0) ∧ Rrd r s s.size 8 w' ∧ But r w w' := by
 have h0 := h.c0
 have h1 := h.c1
 have h2 := h.c2
 have HR := hidm h
 clear h
 go_enter Tryz.func170, Tryz.ntmps170
 go_wp2_with fail
 go_quiet (fail)
 go_wp2_with fail
 refine (fail_any r s s.size 8 _ (HR.out.drewN _)).mono ?_
 rintro e w1 ⟨rfl, hr, hb⟩
 have HR1 := hidm hr
 have HB1 := hidm (((But.refl r w).drewN _).trans hb)
 clear hr hb h0 h1 h2
 go_wp2_with fail
 go_ret
 exact ⟨rfl, HR1.out, HB1.out⟩
set_option maxHeartbeats 1000000 in
theorem next_ok (r : Nat) (s : ByteArray) (p : Nat) (w : World) (h : Rrd r s p 0 w) (hp : p < s.size) (hs : s.size ≤ 9223372036854775807) :
   Calls Tryz.prog 170 #[.pointer (some ⟨r, 0, none⟩)] w fun en w' => en = .returned (.int .i64 (s[p].toNat : Int)) ∧ Rrd r s (p + 1 : Nat) 0 w' ∧ But r w w' := by
 have h0 := h.c0
 have h1 := h.c1
 have h2 := h.c2
 have z1 := h.z1
 have hne : ¬ (p : Int) ≥ s.size := by omega
 have hne2 : ¬ s.size ≤ p := by omega
 go_enter Tryz.func170, Tryz.ntmps170
 go_wp2_with fail
 go_quiet (fail)
 go_wp2_with fail
 have h0' : ∀ a, (w.drewN a).cell? ⟨r, 0, none⟩ = some (.string s) := fun _ => h0
 have h1' : ∀ a, (w.drewN a).cell? ⟨r, 1, none⟩ = some (.int .i64 p) := fun _ => h1
 go_quiet (fail)
 have z2 : ∀ a b, ((w.drewN a).drewN b).frozen? ⟨r, 1, none⟩ = false := fun _ _ => z1
 have h2' : ∀ a b, ((w.drewN a).drewN b).cell? ⟨r, 1, none⟩ = some (.int .i64 p) := fun _ _ => h1
 go_wp2_with fail
 go_ret
 have hw : wrap64 (s[p].toNat : Int) = (s[p].toNat : Int) := by have := s[p].toNat_lt; unfold wrap64; omega
 exact ⟨congrArg (fun q => Ending.returned (.int .i64 q)) hw, (h.drewN _).set1 _, ((But.refl _ _).drewN _).set _ _⟩
def Out {α : Type} (r : Nat) (s : ByteArray) (w : World) (V : α → Value → World → Prop) (z : Value) : Except Nat (α × List UInt8) → Ending → World → Prop
 | .ok (a, t), en, w' => ∃ v, en = .returned v ∧ V a v w' ∧ Rrd r s (s.size - t.length : Nat) 0 w' ∧ But r w w'
 | .error x, en, w' => ∃ q : Int, en = .returned z ∧ Rrd r s q x w' ∧ But r w w'
theorem sum_step (k n : Nat) (c : UInt8) (hk : k ≤ 9) (hn : n < 128 ^ k) (h9 : k = 9 → c.toNat ≤ 1) : n + c.toNat % 128 * 128 ^ k < 18446744073709551616 := by
 have hc := c.toNat_lt
 rcases Nat.lt_or_ge k 9 with h8 | h8
 · have h1 : (128 : Nat) ^ (k + 1) ≤ 128 ^ 9 := Nat.pow_le_pow_right (by omega) (by omega)
   have := step_lt k n c hn
   rw [nine] at h1; omega
 · have hk9 : k = 9 := by omega
   have := h9 hk9
   subst hk9
   rw [nine] at hn ⊢; omega
end Rr
end Go.Proofs.YtkgbemkcnahkoaaGreatDoor
namespace Go.Proofs.YtkgbemkcnahkoaaGreatDoor
open Go.RowKit
namespace Rr
open Cod
set_option maxHeartbeats 8000000 in
set_option maxRecDepth 100000 in
theorem uint_part (r : Nat) (s : ByteArray) (p : Nat) (w : World) (h : Rrd r s p 0 w) (hp : p ≤ s.size) (hs : s.size ≤ 9223372036854775807) :
   Calls Tryz.prog 135 #[.pointer (some ⟨r, 0, none⟩)] w fun en w' => Out r s w VNat (.int .u64 0) (num 0 0 (s.data.toList.drop p)) en w' := by
 have Hs := hidm hs
 obtain ⟨R, hR⟩ : ∃ R, R = num 0 0 (s.data.toList.drop p) := ⟨_, rfl⟩
 rw [← hR]
 have HP := hidm hR
 clear hR hs
 go_enter Tryz.func135, Tryz.ntmps135
 go_wp2_with fail
 go_loopw [3, 4, 5] (fun nn sc kk wr => ∃ (k n q z : Nat), nn = .int .u64 n ∧ sc = .int .u64 z ∧ kk = .int .i64 k ∧ k ≤ 9 ∧ q ≤ s.size ∧ z < 18446744073709551616 ∧ n < 18446744073709551616 ∧ Hid (z = 128 ^ k) ∧ Hid (n < 128 ^ k) ∧ Hid (R = num k n (s.data.toList.drop q)) ∧ Hid (Rrd r s q 0 wr) ∧ Hid (But r w wr)) (fun _ _ kk _ => (10 - intOf kk).toNat)
 case atStart => exact ⟨0, 0, p, 1, rfl, rfl, rfl, by omega, hp, by omega, by omega, hidm (by simp), hidm (by simp), HP, hidm h, hidm (But.refl _ _)⟩
 case round =>
   obtain ⟨k, n, q, z, rfl, rfl, rfl, hk, hq, hz, hn64, HZ, HN, HM, HR, HB⟩ := hrel
   have f0 : (k : Int) < 10 := by omega
   rcases Nat.eq_or_lt_of_le hq with hqe | hqe
   · have HQ := hidm hqe
     clear hqe
     go_wp2_with fail
     refine (next_short r s wr (by rw [← HQ.out]; exact HR.out)).mono ?_
     rintro en w1 ⟨rfl, hr1, hb1⟩
     have e1 := hr1.c2
     have HR1 := hidm hr1
     have HB1 := hidm (HB.out.trans hb1)
     clear hr1 hb1
     go_wp2_with fail
     go_ret
     rw [HM.out, HQ.out, drop_end]
     exact ⟨_, rfl, HR1.out, HB1.out⟩
   · obtain ⟨c, hc⟩ : ∃ c : UInt8, s[q] = c := ⟨_, rfl⟩
     have hcl := c.toNat_lt
     have hnx := next_ok r s q wr HR.out hqe Hs.out
     rw [hc] at hnx
     have HC := hidm hc
     clear hc
     obtain ⟨x, hx⟩ : ∃ x, x = c.toNat % 128 := ⟨_, rfl⟩
     obtain ⟨y, hy⟩ : ∃ y, y = x * z := ⟨_, rfl⟩
     have hx1 : (c.toNat : Int).tmod 128 = (x : Int) := by rw [Int.tmod_eq_emod_of_nonneg (by omega)]; omega
     have hx2 : (c.toNat : Int) % 128 = (x : Int) := by omega
     have hxl : x < 128 := by omega
     have hyy : (x : Int) * (z : Int) = (y : Int) := by rw [hy]; push_cast; rfl
     have HY : Hid (y = c.toNat % 128 * 128 ^ k) := hidm (by rw [hy, hx, HZ.out])
     clear hx hy
     rcases (show ((k = 9) ∧ (1 < c.toNat)) ∨ ((k = 9) ∧ (c.toNat = 0)) ∨ ((k = 9) ∧ (c.toNat = 1)) ∨ ((k = 0) ∧ (c.toNat < 128)) ∨ ((k = 0) ∧ (128 ≤ c.toNat)) ∨ ((0 < k ∧ k < 9) ∧ (c.toNat = 0)) ∨ ((0 < k ∧ k < 9) ∧ (0 < c.toNat ∧ c.toNat < 128)) ∨ ((0 < k ∧ k < 9) ∧ (128 ≤ c.toNat)) by omega) with ⟨hk1, hc1⟩ | ⟨hk1, hc1⟩ | ⟨hk1, hc1⟩ | ⟨hk1, hc1⟩ | ⟨hk1, hc1⟩ | ⟨hk1, hc1⟩ | ⟨hk1, hc1⟩ | ⟨hk1, hc1⟩
     · have g1 : ((k : Int) == 9) = true := by simp; omega
       have g2 : (1 : Int) < (c.toNat : Int) := by omega
       have HX := hidm (num_bad (n := n) hqe HC.out (k := k) (by omega))
       have HK1 := hidm hk1
       have HC1 := hidm hc1
       clear hk1 hc1
       go_wp2_with fail
       refine hnx.mono ?_
       rintro en w1 ⟨rfl, hr1, hb1⟩
       have e1 := hr1.c2
       have HR1 := hidm hr1
       have HB1 := hidm (HB.out.trans hb1)
       clear hr1 hb1
       go_wp2_with fail
       refine (fail_any r s _ 7 w1 HR1.out).mono ?_
       rintro en w2 ⟨rfl, hr2, hb2⟩
       have HR2 := hidm hr2
       have HB2 := hidm (HB1.out.trans hb2)
       clear hr2 hb2 e1
       go_wp2_with fail
       go_ret
       rw [HM.out, HX.out]
       exact ⟨_, rfl, HR2.out, HB2.out⟩
     · have g1 : ((k : Int) == 9) = true := by simp; omega
       have g2 : ¬ (1 : Int) < (c.toNat : Int) := by omega
       have g3 : ((c.toNat : Int) == 0) = true := by simp; omega
       have g4 : (0 : Int) < (k : Int) := by omega
       have g4' : 0 < k := by omega
       have HX := hidm (num_bad (n := n) hqe HC.out (k := k) (by omega))
       have HK1 := hidm hk1
       have HC1 := hidm hc1
       clear hk1 hc1
       go_wp2_with fail
       refine hnx.mono ?_
       rintro en w1 ⟨rfl, hr1, hb1⟩
       have e1 := hr1.c2
       have HR1 := hidm hr1
       have HB1 := hidm (HB.out.trans hb1)
       clear hr1 hb1
       go_wp2_with fail
       refine (fail_any r s _ 7 w1 HR1.out).mono ?_
       rintro en w2 ⟨rfl, hr2, hb2⟩
       have HR2 := hidm hr2
       have HB2 := hidm (HB1.out.trans hb2)
       clear hr2 hb2 e1
       go_wp2_with fail
       go_ret
       rw [HM.out, HX.out]
       exact ⟨_, rfl, HR2.out, HB2.out⟩
     · have g1 : ((k : Int) == 9) = true := by simp; omega
       have g2 : ¬ (1 : Int) < (c.toNat : Int) := by omega
       have g3 : ((c.toNat : Int) == 0) = false := by simp; omega
       have g5 : (c.toNat : Int) < 128 := by omega
       have HSUM := hidm (sum_step k n c hk HN.out (by omega))
       have HL := hidm (step_lt k n c HN.out)
       have hsm : n + y < 18446744073709551616 := by have h1 := HSUM.out; have h2 := HY.out; omega
       have HX := hidm (num_end (n := n) hqe HC.out (k := k) (by omega) (by omega))
       have HK1 := hidm hk1
       have HC1 := hidm hc1
       clear hk1 hc1
       go_wp2_with fail
       refine hnx.mono ?_
       rintro en w1 ⟨rfl, hr1, hb1⟩
       have e1 := hr1.c2
       have HR1 := hidm hr1
       have HB1 := hidm (HB.out.trans hb1)
       clear hr1 hb1
       go_wp2_with fail
       go_ret
       rw [HM.out, HX.out]
       exact ⟨_, rfl, congrArg (Value.int .u64) (by have := HY.out; omega), by rw [back_at s (q + 1) hqe]; exact HR1.out, HB1.out⟩
     · have g1 : ((k : Int) == 9) = false := by simp; omega
       have g4 : ¬ (0 : Int) < (k : Int) := by omega
       have g4' : ¬ 0 < k := by omega
       have g5 : (c.toNat : Int) < 128 := by omega
       by_cases hcz : c.toNat = 0
       · have g3 : ((c.toNat : Int) == 0) = true := by simp; omega
         have HZ0 := hidm hcz
         clear hcz
         have HSUM := hidm (sum_step k n c hk HN.out (by omega))
         have HL := hidm (step_lt k n c HN.out)
         have hsm : n + y < 18446744073709551616 := by have h1 := HSUM.out; have h2 := HY.out; omega
         have HX := hidm (num_end (n := n) hqe HC.out (k := k) (by omega) (by omega))
         have HK1 := hidm hk1
         have HC1 := hidm hc1
         clear hk1 hc1
         go_wp2_with fail
         refine hnx.mono ?_
         rintro en w1 ⟨rfl, hr1, hb1⟩
         have e1 := hr1.c2
         have HR1 := hidm hr1
         have HB1 := hidm (HB.out.trans hb1)
         clear hr1 hb1
         go_wp2_with fail
         go_ret
         rw [HM.out, HX.out]
         exact ⟨_, rfl, congrArg (Value.int .u64) (by have := HY.out; omega), by rw [back_at s (q + 1) hqe]; exact HR1.out, HB1.out⟩
       · have g3 : ((c.toNat : Int) == 0) = false := by simp; omega
         have HZ0 := hidm hcz
         clear hcz
         have HSUM := hidm (sum_step k n c hk HN.out (by omega))
         have HL := hidm (step_lt k n c HN.out)
         have hsm : n + y < 18446744073709551616 := by have h1 := HSUM.out; have h2 := HY.out; omega
         have HX := hidm (num_end (n := n) hqe HC.out (k := k) (by omega) (by omega))
         have HK1 := hidm hk1
         have HC1 := hidm hc1
         clear hk1 hc1
         go_wp2_with fail
         refine hnx.mono ?_
         rintro en w1 ⟨rfl, hr1, hb1⟩
         have e1 := hr1.c2
         have HR1 := hidm hr1
         have HB1 := hidm (HB.out.trans hb1)
         clear hr1 hb1
         go_wp2_with fail
         go_ret
         rw [HM.out, HX.out]
         exact ⟨_, rfl, congrArg (Value.int .u64) (by have := HY.out; omega), by rw [back_at s (q + 1) hqe]; exact HR1.out, HB1.out⟩
     · have g1 : ((k : Int) == 9) = false := by simp; omega
       have g3 : ((c.toNat : Int) == 0) = false := by simp; omega
       have g5 : ¬ (c.toNat : Int) < 128 := by omega
       have HSUM := hidm (sum_step k n c hk HN.out (by omega))
       have HL := hidm (step_lt k n c HN.out)
       have hsm : n + y < 18446744073709551616 := by have h1 := HSUM.out; have h2 := HY.out; omega
       obtain ⟨z2, hz2⟩ : ∃ z2, z2 = 128 * z := ⟨_, rfl⟩
       have hz3 : (128 : Int) * (z : Int) = (z2 : Int) := by omega
       have HZ2 : Hid (z2 = 128 ^ (k + 1)) := hidm (by rw [hz2, HZ.out, Nat.pow_succ, Nat.mul_comm])
       have hz4 : z2 < 18446744073709551616 := by have h1 : (128 : Nat) ^ (k + 1) ≤ 128 ^ 9 := Nat.pow_le_pow_right (by omega) (by omega); rw [nine] at h1; have := HZ2.out; omega
       clear hz2
       have HX := hidm (num_more (n := n) hqe HC.out (k := k) (by omega) (by omega))
       have HK1 := hidm hk1
       have HC1 := hidm hc1
       clear hk1 hc1
       go_wp2_with fail
       refine hnx.mono ?_
       rintro en w1 ⟨rfl, hr1, hb1⟩
       have e1 := hr1.c2
       have HR1 := hidm hr1
       have HB1 := hidm (HB.out.trans hb1)
       clear hr1 hb1
       go_wp2_with fail
       go_roundw
       case rel => exact ⟨k + 1, n + y, q + 1, z2, by go_num, rfl, by go_num, by have := HK1.out; omega, hqe, hz4, hsm, HZ2, hidm (by have h1 := HL.out; have h2 := HY.out; omega), hidm (by rw [HM.out, HX.out, HY.out]), HR1, HB1⟩
       case measure => have := HK1.out; simp [intOf]; omega
     · have g1 : ((k : Int) == 9) = false := by simp; omega
       have g3 : ((c.toNat : Int) == 0) = true := by simp; omega
       have g4 : (0 : Int) < (k : Int) := by omega
       have g4' : 0 < k := by omega
       have HX := hidm (num_bad (n := n) hqe HC.out (k := k) (by omega))
       have HK1 := hidm hk1
       have HC1 := hidm hc1
       clear hk1 hc1
       go_wp2_with fail
       refine hnx.mono ?_
       rintro en w1 ⟨rfl, hr1, hb1⟩
       have e1 := hr1.c2
       have HR1 := hidm hr1
       have HB1 := hidm (HB.out.trans hb1)
       clear hr1 hb1
       go_wp2_with fail
       refine (fail_any r s _ 7 w1 HR1.out).mono ?_
       rintro en w2 ⟨rfl, hr2, hb2⟩
       have HR2 := hidm hr2
       have HB2 := hidm (HB1.out.trans hb2)
       clear hr2 hb2 e1
       go_wp2_with fail
       go_ret
       rw [HM.out, HX.out]
       exact ⟨_, rfl, HR2.out, HB2.out⟩
     · have g1 : ((k : Int) == 9) = false := by simp; omega
       have g3 : ((c.toNat : Int) == 0) = false := by simp; omega
       have g5 : (c.toNat : Int) < 128 := by omega
       have HSUM := hidm (sum_step k n c hk HN.out (by omega))
       have HL := hidm (step_lt k n c HN.out)
       have hsm : n + y < 18446744073709551616 := by have h1 := HSUM.out; have h2 := HY.out; omega
       have HX := hidm (num_end (n := n) hqe HC.out (k := k) (by omega) (by omega))
       have HK1 := hidm hk1
       have HC1 := hidm hc1
       clear hk1 hc1
       go_wp2_with fail
       refine hnx.mono ?_
       rintro en w1 ⟨rfl, hr1, hb1⟩
       have e1 := hr1.c2
       have HR1 := hidm hr1
       have HB1 := hidm (HB.out.trans hb1)
       clear hr1 hb1
       go_wp2_with fail
       go_ret
       rw [HM.out, HX.out]
       exact ⟨_, rfl, congrArg (Value.int .u64) (by have := HY.out; omega), by rw [back_at s (q + 1) hqe]; exact HR1.out, HB1.out⟩
     · have g1 : ((k : Int) == 9) = false := by simp; omega
       have g3 : ((c.toNat : Int) == 0) = false := by simp; omega
       have g5 : ¬ (c.toNat : Int) < 128 := by omega
       have HSUM := hidm (sum_step k n c hk HN.out (by omega))
       have HL := hidm (step_lt k n c HN.out)
       have hsm : n + y < 18446744073709551616 := by have h1 := HSUM.out; have h2 := HY.out; omega
       obtain ⟨z2, hz2⟩ : ∃ z2, z2 = 128 * z := ⟨_, rfl⟩
       have hz3 : (128 : Int) * (z : Int) = (z2 : Int) := by omega
       have HZ2 : Hid (z2 = 128 ^ (k + 1)) := hidm (by rw [hz2, HZ.out, Nat.pow_succ, Nat.mul_comm])
       have hz4 : z2 < 18446744073709551616 := by have h1 : (128 : Nat) ^ (k + 1) ≤ 128 ^ 9 := Nat.pow_le_pow_right (by omega) (by omega); rw [nine] at h1; have := HZ2.out; omega
       clear hz2
       have HX := hidm (num_more (n := n) hqe HC.out (k := k) (by omega) (by omega))
       have HK1 := hidm hk1
       have HC1 := hidm hc1
       clear hk1 hc1
       go_wp2_with fail
       refine hnx.mono ?_
       rintro en w1 ⟨rfl, hr1, hb1⟩
       have e1 := hr1.c2
       have HR1 := hidm hr1
       have HB1 := hidm (HB.out.trans hb1)
       clear hr1 hb1
       go_wp2_with fail
       go_roundw
       case rel => exact ⟨k + 1, n + y, q + 1, z2, by go_num, rfl, by go_num, by have := HK1.out; omega, hqe, hz4, hsm, HZ2, hidm (by have h1 := HL.out; have h2 := HY.out; omega), hidm (by rw [HM.out, HX.out, HY.out]), HR1, HB1⟩
       case measure => have := HK1.out; simp [intOf]; omega
end Rr
end Go.Proofs.YtkgbemkcnahkoaaGreatDoor
namespace Go.Proofs.YtkgbemkcnahkoaaGreatDoor
open Go.RowKit
namespace Rr
open Cod
theorem end_ok (r : Nat) (s : ByteArray) (p a : Int) (w : World) (h : Rrd r s p 0 w) :
   Calls Tryz.prog 136 #[.pointer (some ⟨r, 0, none⟩), .int .i64 a] w fun en w' => en = .returned (.bool true) ∧ w = w' := by
 have h2 := h.c2
 clear h
 go_enter Tryz.func136, Tryz.ntmps136
 go_wp2_with fail
 go_ret
 exact ⟨rfl, rfl⟩
theorem end_bad (r : Nat) (s : ByteArray) (p a e : Int) (he : (e != 0) = true) (w : World) (h : Rrd r s p e w) :
   Calls Tryz.prog 136 #[.pointer (some ⟨r, 0, none⟩), .int .i64 a] w fun en w' => en = .returned (.bool false) ∧ Rrd r s a e w' ∧ But r w w' := by
 have h2 := h.c2
 have h1 := h.c1
 have z1 := h.z1
 have HR := hidm h
 clear h
 go_enter Tryz.func136, Tryz.ntmps136
 go_wp2_with fail
 go_ret
 exact ⟨rfl, HR.out.set1 a, (But.refl _ _).set _ _⟩
def Does {α : Type} (r : Nat) (s : ByteArray) (p : Int) (w : World) (V : α → Value → World → Prop) (z : Value) : Except Nat (α × List UInt8) → Ending → World → Prop
 | .ok (a, t), en, w' => ∃ v, en = .returned v ∧ V a v w' ∧ Rrd r s (s.size - t.length : Nat) 0 w' ∧ But r w w'
 | .error x, en, w' => en = .returned z ∧ Rrd r s p x w' ∧ But r w w'
theorem uint_call (r : Nat) (s : ByteArray) (p : Nat) (w : World) (h : Rrd r s p 0 w) (hp : p ≤ s.size) (hs : s.size ≤ 281474976710656) :
   Calls Tryz.prog 88 #[.pointer (some ⟨r, 0, none⟩)] w fun en w' => Does r s p w VNat (.int .u64 0) (num 0 0 (s.data.toList.drop p)) en w' := by
 have hn := uint_part r s p w h hp (by omega)
 have h1 := h.c1
 obtain ⟨R, hR⟩ : ∃ R, R = num 0 0 (s.data.toList.drop p) := ⟨_, rfl⟩
 rw [← hR] at hn ⊢
 have HR := hidm hR
 clear hR
 go_enter Tryz.func88, Tryz.ntmps88
 go_wp2_with fail
 refine hn.mono ?_
 cases R with
 | error x =>
   rintro en w1 ⟨q, rfl, hr, hb⟩
   have hx : ((x : Int) != 0) = true := by have := num_err _ _ _ _ HR.out.symm; simp; omega
   have HR1 := hidm hr
   have HB1 := hidm hb
   clear hr hb h1
   go_wp2_with fail
   refine (end_bad r s q p x hx w1 HR1.out).mono ?_
   rintro en w2 ⟨rfl, hr, hb⟩
   have HR2 := hidm hr
   have HB2 := hidm (HB1.out.trans hb)
   clear hr hb
   go_wp2_with fail
   go_ret
   exact ⟨rfl, HR2.out, HB2.out⟩
 | ok at' =>
   obtain ⟨n, t⟩ := at'
   rintro en w1 ⟨v, rfl, rfl, hr, hb⟩
   have HR1 := hidm hr
   have HB1 := hidm hb
   clear hr hb h1
   go_wp2_with fail
   refine (end_ok r s _ p w1 HR1.out).mono ?_
   rintro en w2 ⟨rfl, rfl⟩
   go_wp2_with fail
   go_ret
   exact ⟨_, rfl, rfl, HR1.out, HB1.out⟩
set_option maxHeartbeats 2000000 in
set_option maxRecDepth 100000 in
theorem text_part (r : Nat) (s : ByteArray) (p most : Nat) (hm : most ≤ 9223372036854775807) (w : World) (h : Rrd r s p 0 w) (hp : p ≤ s.size) (hs : s.size ≤ 281474976710656) :
   Calls Tryz.prog 137 #[.pointer (some ⟨r, 0, none⟩), .int .u64 most] w fun en w' => Out r s w VStr (.string ⟨#[]⟩) (txt most (s.data.toList.drop p)) en w' := by
 have hn := uint_part r s p w h hp (by omega)
 obtain ⟨R, hR⟩ : ∃ R, R = num 0 0 (s.data.toList.drop p) := ⟨_, rfl⟩
 obtain ⟨F, hF⟩ : ∃ F, F = txt most (s.data.toList.drop p) := ⟨_, rfl⟩
 rw [← hF]
 unfold txt len at hF
 rw [← hR] at hn hF
 have HR := hidm hR
 have HF := hidm hF
 clear hR hF
 go_enter Tryz.func137, Tryz.ntmps137
 go_wp2_with fail
 refine hn.mono ?_
 cases R with
 | error x =>
   rintro en w1 ⟨q, rfl, hr, hb⟩
   have hx : ((x : Int) != 0) = true := by have := num_err _ _ _ _ HR.out.symm; simp; omega
   have e1 := hr.c2
   have HR1 := hidm hr
   have HB1 := hidm hb
   clear hr hb
   go_wp2_with fail
   go_ret
   rw [HF.out]
   exact ⟨q, rfl, HR1.out, HB1.out⟩
 | ok at' =>
   obtain ⟨n, t⟩ := at'
   rintro en w1 ⟨v, rfl, rfl, hr, hb⟩
   have hnb := (read_ok HR.out.symm)
   have hrest := rest_at hnb.1
   obtain ⟨q, hq⟩ : ∃ q, q = s.size - t.length := ⟨_, rfl⟩
   rw [← hq] at hrest hr
   have htq : s.size - q = t.length := by have := hrest.2.2; omega
   have e1 := hr.c2
   have HR1 := hidm hr
   have HB1 := hidm hb
   have HH := hidm hrest
   have hn64 := hnb.2
   have hq9 : q ≤ s.size := hrest.2.1
   have HTQ := hidm htq
   have HQ := hidm hq
   clear hr hb hrest hnb hq htq
   rcases Nat.lt_or_ge most n with h1 | h1
   · have g1 : (most : Int) < n := by omega
     go_wp2_with fail
     refine (fail_any r s q 19 w1 HR1.out).mono ?_
     rintro en w2 ⟨rfl, hr, hb⟩
     have HR2 := hidm hr
     have HB2 := hidm (HB1.out.trans hb)
     clear hr hb e1
     go_wp2_with fail
     go_ret
     have hf : F = .error 19 := by rw [HF.out]; simp only [lenR]; rw [if_pos h1]; rfl
     rw [hf]
     exact ⟨_, rfl, HR2.out, HB2.out⟩
   · have g1 : ¬ (most : Int) < n := by omega
     have k0 := HR1.out.c0
     have k1 := HR1.out.c1
     have z1 := HR1.out.z1
     have htl : t.length ≤ 281474976710656 := by have := HTQ.out; omega
     have hsub : (s.size : Int) - (q : Int) = (t.length : Int) := by have := HTQ.out; omega
     rcases Nat.lt_or_ge t.length n with h2 | h2
     · have g2 : (t.length : Int) < n := by omega
       go_wp2_with fail
       go_quiet (fail)
       go_wp2_with fail
       refine (fail_any r s q 8 _ (HR1.out.drewN _)).mono ?_
       rintro en w2 ⟨rfl, hr, hb⟩
       have HR2 := hidm hr
       have HB2 := hidm ((HB1.out.drewN _).trans hb)
       clear hr hb e1 k0 k1 z1
       go_wp2_with fail
       go_ret
       have hf : F = .error 8 := by rw [HF.out]; simp only [lenR]; rw [if_neg (by omega)]; simp only [txtR]; rw [if_pos h2]
       rw [hf]
       exact ⟨_, rfl, HR2.out, HB2.out⟩
     · have g2 : ¬ (t.length : Int) < n := by omega
       have hqn : q + n ≤ s.size := by have := HTQ.out; omega
       have b1 : (q : Int) ≤ (q : Int) + n := by omega
       have b2 : (q : Int) + n ≤ (s.size : Int) := by omega
       have g3 : ¬ t.length < n := by omega
       go_wp2_with fail
       go_quiet (fail)
       go_wp2_with fail
       have k0' : ∀ a, (w1.drewN a).cell? ⟨r, 0, none⟩ = some (.string s) := fun _ => k0
       have k1' : ∀ a, (w1.drewN a).cell? ⟨r, 1, none⟩ = some (.int .i64 q) := fun _ => k1
       go_region
       have z2 : ∀ a, ((w1.drewN a).drew).frozen? ⟨r, 1, none⟩ = false := fun _ => z1
       have k2 : ∀ a, ((w1.drewN a).drew).cell? ⟨r, 1, none⟩ = some (.int .i64 q) := fun _ => k1
       have z3 : ∀ a, (w1.drewN a).frozen? ⟨r, 1, none⟩ = false := fun _ => z1
       go_wp2_with fail
       go_ret
       have hf : F = .ok (t.take n, t.drop n) := by rw [HF.out]; simp only [lenR]; rw [if_neg (by omega)]; simp only [txtR]; rw [if_neg (by omega)]
       rw [hf]
       refine ⟨_, rfl, congrArg Value.string ?_, ?_, ?_⟩
       · rw [cut_bytes, HH.out.1]
       · have e2 : s.size - (t.drop n).length = q + n := by rw [List.length_drop]; have := HTQ.out; omega
         rw [e2]
         exact (HR1.out.drewN _).set1 _
       · exact (HB1.out.drewN _).set _ _
end Rr
end Go.Proofs.YtkgbemkcnahkoaaGreatDoor
namespace Go.Proofs.YtkgbemkcnahkoaaGreatDoor
open Go.RowKit
namespace Rr
open Cod
set_option maxHeartbeats 1000000 in
theorem uint_kept (r : Nat) (s : ByteArray) (p e : Int) (he : (e != 0) = true) (w : World) (h : Rrd r s p e w) :
   Calls Tryz.prog 135 #[.pointer (some ⟨r, 0, none⟩)] w fun en w' => en = .returned (.int .u64 0) ∧ w = w' := by
 have hk := next_kept r s p e he w h
 have h2 := h.c2
 clear h
 go_enter Tryz.func135, Tryz.ntmps135
 go_wp2_with fail
 go_loopw [3, 4, 5] (fun nn sc kk wr => nn = .int .u64 0 ∧ sc = .int .u64 1 ∧ kk = .int .i64 0 ∧ Hid (wr = w)) (fun _ _ kk _ => (10 - intOf kk).toNat)
 case atStart => exact ⟨rfl, rfl, rfl, hidm rfl⟩
 case round =>
   obtain ⟨rfl, rfl, rfl, HW⟩ := hrel
   obtain rfl : wr = w := HW.out
   go_wp2_with fail
   refine hk.mono ?_
   rintro en w1 ⟨rfl, rfl⟩
   go_wp2_with fail
   go_ret
   exact ⟨rfl, rfl⟩
theorem text_kept (r : Nat) (s : ByteArray) (p e most : Int) (he : (e != 0) = true) (w : World) (h : Rrd r s p e w) :
   Calls Tryz.prog 137 #[.pointer (some ⟨r, 0, none⟩), .int .u64 most] w fun en w' => en = .returned (.string ⟨#[]⟩) ∧ w = w' := by
 have hk := uint_kept r s p e he w h
 have h2 := h.c2
 clear h
 go_enter Tryz.func137, Tryz.ntmps137
 go_wp2_with fail
 refine hk.mono ?_
 rintro en w1 ⟨rfl, rfl⟩
 go_wp2_with fail
 go_ret
 exact ⟨rfl, rfl⟩
theorem txt_err {m : Nat} {l : List UInt8} {x : Nat} (h : txt m l = .error x) : x = 7 ∨ x = 8 ∨ x = 19 := by
 unfold txt txtR at h
 split at h
 · split at h
   · cases h; omega
   · cases h
 · rename_i y hy
   cases h
   unfold len lenR at hy
   split at hy
   · split at hy
     · cases hy; omega
     · cases hy
   · rename_i z hz; cases hy; have := num_err _ _ _ _ hz; omega
theorem text_call (r : Nat) (s : ByteArray) (p : Nat) (w : World) (h : Rrd r s p 0 w) (hp : p ≤ s.size) (hs : s.size ≤ 281474976710656) :
   Calls Tryz.prog 89 #[.pointer (some ⟨r, 0, none⟩)] w fun en w' => Does r s p w VStr (.string ⟨#[]⟩) (txt 1000000 (s.data.toList.drop p)) en w' := by
 have hn := text_part r s p 1000000 (by omega) w h hp hs
 have h1 := h.c1
 obtain ⟨R, hR⟩ : ∃ R, R = txt 1000000 (s.data.toList.drop p) := ⟨_, rfl⟩
 rw [← hR] at hn ⊢
 have HR := hidm hR
 clear hR
 go_enter Tryz.func89, Tryz.ntmps89
 go_wp2_with fail
 refine hn.mono ?_
 cases R with
 | error x =>
   rintro en w1 ⟨q, rfl, hr, hb⟩
   have hx : ((x : Int) != 0) = true := by have := txt_err HR.out.symm; simp; omega
   have HR1 := hidm hr
   have HB1 := hidm hb
   clear hr hb h1
   go_wp2_with fail
   refine (end_bad r s q p x hx w1 HR1.out).mono ?_
   rintro en w2 ⟨rfl, hr, hb⟩
   have HR2 := hidm hr
   have HB2 := hidm (HB1.out.trans hb)
   clear hr hb
   go_wp2_with fail
   go_ret
   exact ⟨rfl, HR2.out, HB2.out⟩
 | ok at' =>
   obtain ⟨n, t⟩ := at'
   rintro en w1 ⟨v, rfl, rfl, hr, hb⟩
   have HR1 := hidm hr
   have HB1 := hidm hb
   clear hr hb h1
   go_wp2_with fail
   refine (end_ok r s _ p w1 HR1.out).mono ?_
   rintro en w2 ⟨rfl, rfl⟩
   go_wp2_with fail
   go_ret
   exact ⟨_, rfl, rfl, HR1.out, HB1.out⟩
end Rr
end Go.Proofs.YtkgbemkcnahkoaaGreatDoor
namespace Go.Proofs.YtkgbemkcnahkoaaGreatDoor
open Go.RowKit
namespace Rr
open Cod
set_option maxHeartbeats 1000000 in
theorem left_any (r : Nat) (s : ByteArray) (p : Nat) (e : Int) (w : World) (h : Rrd r s p e w) (hp : p ≤ s.size) (hs : s.size ≤ 9223372036854775807) :
   Calls Tryz.prog 128 #[.pointer (some ⟨r, 0, none⟩)] w fun en w' => en = .returned (.int .i64 (s.size - p : Nat)) ∧ Below w.heap.size w w' := by
 have h0 := h.c0
 have h1 := h.c1
 have hd : (s.size : Int) - (p : Int) = ((s.size - p : Nat) : Int) := by omega
 clear h
 go_enter Tryz.func128, Tryz.ntmps128
 go_wp2_with fail
 go_quiet (fail)
 go_wp2_with fail
 go_ret
 exact ⟨rfl, below_drewN (Below.refl _ _) _⟩
theorem uint_stay (r : Nat) (s : ByteArray) (p e : Int) (he : (e != 0) = true) (w : World) (h : Rrd r s p e w) :
   Calls Tryz.prog 88 #[.pointer (some ⟨r, 0, none⟩)] w fun en w' => en = .returned (.int .u64 0) ∧ Rrd r s p e w' ∧ But r w w' := by
 have hk := uint_kept r s p e he w h
 have h1 := h.c1
 have HR := hidm h
 clear h
 go_enter Tryz.func88, Tryz.ntmps88
 go_wp2_with fail
 refine hk.mono ?_
 rintro en w1 ⟨rfl, rfl⟩
 go_wp2_with fail
 refine (end_bad r s p p e he w HR.out).mono ?_
 rintro en w2 ⟨rfl, hr, hb⟩
 have HR2 := hidm hr
 have HB2 := hidm hb
 clear hr hb h1 hk
 go_wp2_with fail
 go_ret
 exact ⟨rfl, HR2.out, HB2.out⟩
theorem text_stay (r : Nat) (s : ByteArray) (p e : Int) (he : (e != 0) = true) (w : World) (h : Rrd r s p e w) :
   Calls Tryz.prog 89 #[.pointer (some ⟨r, 0, none⟩)] w fun en w' => en = .returned (.string ⟨#[]⟩) ∧ Rrd r s p e w' ∧ But r w w' := by
 have hk := text_kept r s p e 1000000 he w h
 have h1 := h.c1
 have HR := hidm h
 clear h
 go_enter Tryz.func89, Tryz.ntmps89
 go_wp2_with fail
 refine hk.mono ?_
 rintro en w1 ⟨rfl, rfl⟩
 go_wp2_with fail
 refine (end_bad r s p p e he w HR.out).mono ?_
 rintro en w2 ⟨rfl, hr, hb⟩
 have HR2 := hidm hr
 have HB2 := hidm hb
 clear hr hb h1 hk
 go_wp2_with fail
 go_ret
 exact ⟨rfl, HR2.out, HB2.out⟩
end Rr
end Go.Proofs.YtkgbemkcnahkoaaGreatDoor
namespace Go.Proofs.YtkgbemkcnahkoaaGreatDoor
open Go.RowKit
namespace Sch
open Cod Rr
def RTextP (r : Nat) (s : ByteArray) (p : Nat) (e : Int) (w : World) (en : Ending) (w' : World) : Prop := ∃ (l : List UInt8) (p' : Nat) (e' : Int), en = .returned (.string (S l)) ∧ Rrd r s p' e' w' ∧ But r w w' ∧ p' ≤ s.size ∧ l.length ≤ s.size ∧ (∀ nm X, e = 0 → s.data.toList.drop p = tB nm ++ X → nm.length ≤ 1000000 → l = nm ∧ e' = 0 ∧ s.data.toList.drop p' = X)
def RNumP (r : Nat) (s : ByteArray) (p : Nat) (e : Int) (w : World) (en : Ending) (w' : World) : Prop := ∃ (v : Nat) (p' : Nat) (e' : Int), en = .returned (.int .u64 v) ∧ Rrd r s p' e' w' ∧ But r w w' ∧ p' ≤ s.size ∧ v < 18446744073709551616 ∧ (∀ n X, e = 0 → s.data.toList.drop p = uB n ++ X → n < 18446744073709551616 → v = n ∧ e' = 0 ∧ s.data.toList.drop p' = X)
theorem rtext_uni (r : Nat) (s : ByteArray) (p : Nat) (e : Int) (w : World) (h : Rrd r s p e w) (hp : p ≤ s.size) (hs : s.size ≤ 281474976710656) :
   Calls Tryz.prog 89 #[.pointer (some ⟨r, 0, none⟩)] w fun en w' => RTextP r s p e w en w' := by
 by_cases he : e = 0
 · subst he
   have hl : (s.data.toList.drop p).length ≤ s.size := by rw [List.length_drop, len_eq]; omega
   refine (Rr.text_call r s p w h hp hs).mono ?_
   cases hR : txt 1000000 (s.data.toList.drop p) with
   | ok at' =>
     obtain ⟨a, t⟩ := at'
     rintro en w' ⟨v, rfl, rfl, hr, hb⟩
     have hln := txt_len hR
     refine ⟨a, s.size - t.length, 0, rfl, hr, hb, Nat.sub_le _ _, by omega, fun nm X _ hd hn => ?_⟩
     rw [hd, txt_tB _ _ _ hn (by omega)] at hR
     simp only [Except.ok.injEq, Prod.mk.injEq] at hR
     obtain ⟨rfl, rfl⟩ := hR
     exact ⟨rfl, rfl, drop_tail hd⟩
   | error x =>
     rintro en w' ⟨rfl, hr, hb⟩
     refine ⟨[], p, x, rfl, hr, hb, hp, by simp, fun nm X _ hd hn => ?_⟩
     rw [hd, txt_tB _ _ _ hn (by omega)] at hR
     cases hR
 · refine (Rr.text_stay r s p e (by simpa using he) w h).mono ?_
   rintro en w' ⟨rfl, hr, hb⟩
   exact ⟨[], p, e, rfl, hr, hb, hp, by simp, fun _ _ h0 => absurd h0 he⟩
theorem rnum_uni (r : Nat) (s : ByteArray) (p : Nat) (e : Int) (w : World) (h : Rrd r s p e w) (hp : p ≤ s.size) (hs : s.size ≤ 281474976710656) :
   Calls Tryz.prog 88 #[.pointer (some ⟨r, 0, none⟩)] w fun en w' => RNumP r s p e w en w' := by
 by_cases he : e = 0
 · subst he
   refine (Rr.uint_call r s p w h hp hs).mono ?_
   cases hR : num 0 0 (s.data.toList.drop p) with
   | ok at' =>
     obtain ⟨a, t⟩ := at'
     rintro en w' ⟨v, rfl, rfl, hr, hb⟩
     refine ⟨a, s.size - t.length, 0, rfl, hr, hb, Nat.sub_le _ _, (read_ok hR).2, fun n X _ hd hn => ?_⟩
     rw [hd, read_uB _ _ hn] at hR
     simp only [Except.ok.injEq, Prod.mk.injEq] at hR
     obtain ⟨rfl, rfl⟩ := hR
     exact ⟨rfl, rfl, drop_tail hd⟩
   | error x =>
     rintro en w' ⟨rfl, hr, hb⟩
     refine ⟨0, p, x, rfl, hr, hb, hp, by omega, fun n X _ hd hn => ?_⟩
     rw [hd, read_uB _ _ hn] at hR
     cases hR
 · refine (Rr.uint_stay r s p e (by simpa using he) w h).mono ?_
   rintro en w' ⟨rfl, hr, hb⟩
   exact ⟨0, p, e, rfl, hr, hb, hp, by omega, fun _ _ h0 => absurd h0 he⟩
end Sch
end Go.Proofs.YtkgbemkcnahkoaaGreatDoor
namespace Go.Proofs.YtkgbemkcnahkoaaGreatDoor
open Go.RowKit
namespace Wr
open Cod
theorem str_one (n : Nat) (hn : n < 256) (w w' : World) (hb : Below (w.alloc (.cells #[.int .u8 n] 5)).heap.size (w.alloc (.cells #[.int .u8 n] 5)) w') :
   (convert 64 9 (.slice (some ⟨w.heap.size, 0, none⟩) 1 1)).run Tryz.prog w' = .ok (.string (S [n.toUInt8])) w' :=
 run_convert_bytes_back (P := Tryz.prog) w' 64 9 5 ⟨w.heap.size, 0, none⟩ 1 [n.toUInt8] Tryz.underlying64 Tryz.underlying5 Tryz.underlying9 (by
   intro j hj
   have hj0 : j = 0 := by simpa using hj
   subst hj0
   show World.cell? _ ⟨w.heap.size, 0, none⟩ = some (.int .u8 (n.toUInt8.toNat : Int))
   rw [toNat_lt hn, hb.cell (p := ⟨w.heap.size, 0, none⟩) (by simp)]
   simp [go_sem])
set_option maxRecDepth 100000 in
set_option maxHeartbeats 2000000 in
theorem ruint_any (n : Nat) : n < 18446744073709551616 → ∀ w : World,
   Calls Tryz.prog 138 #[.int .u64 n] w fun e w' => e = .returned (.string (S (uB n))) ∧ Below w.heap.size w w' := by
 induction n using Nat.strongRecOn with
 | _ n ih =>
   intro hn w
   rcases Nat.lt_or_ge n 128 with hlt | hge
   · have g : (n : Int) < 128 := by omega
     have hc := str_one n (by omega) w _ (Below.refl _ _)
     rw [uB_lt hlt]
     clear ih
     go_enter Tryz.func138, Tryz.ntmps138
     go_wp2_with fail
     go_ret
     exact ⟨rfl, (Below.refl _ _).alloc (Nat.le_refl _) _⟩
   · have g : ¬ (n : Int) < 128 := by omega
     obtain ⟨d, hd⟩ : ∃ d, d = n / 128 := ⟨_, rfl⟩
     obtain ⟨c, hc⟩ : ∃ c, c = 128 + n % 128 := ⟨_, rfl⟩
     have hrec := ih d (by omega) (by omega)
     have hx1 : (n : Int).tmod 128 = ((n % 128 : Nat) : Int) := by rw [Int.tmod_eq_emod_of_nonneg (by omega)]; omega
     have hx : IntKind.u8.wrap (IntKind.u64.wrap (128 + (n : Int).tmod 128)) = (c : Int) := by
       rw [hx1]; simp only [IntKind.wrap_u64, IntKind.wrap_u8]; omega
     have hy : IntKind.u64.wrap ((n : Int) / 128) = (d : Int) := by simp only [IntKind.wrap_u64]; omega
     have hcl : c < 256 := by omega
     clear ih hx1
     obtain ⟨a, ha⟩ : ∃ a, a = S (uB d) := ⟨_, rfl⟩
     rw [← ha] at hrec
     have hl : a.size ≤ 10 := by rw [ha, S_size]; exact uB_ten d (by omega)
     obtain ⟨b, hb0⟩ : ∃ b, b = S [c.toUInt8] := ⟨_, rfl⟩
     have hl2 : b.size = 1 := by rw [hb0, S_size]; rfl
     have HE : Hid (b ++ a = S (uB n)) := by
       refine hidm ?_
       rw [hb0, ha, S_append, uB_ge hge, ← hd, ← hc]; rfl
     have E1 : ∀ w0 : World, (convert 64 9 (.slice (some ⟨w0.heap.size, 0, none⟩) 1 1)).run Tryz.prog (w0.alloc (.cells #[.int .u8 c] 5)) = .ok (.string b) (w0.alloc (.cells #[.int .u8 c] 5)) := fun w0 => by
       rw [hb0]; exact str_one c hcl w0 _ (Below.refl _ _)
     have E2 : ∀ w0 w' : World, Below (w0.alloc (.cells #[.int .u8 c] 5)).heap.size (w0.alloc (.cells #[.int .u8 c] 5)) w' → (convert 64 9 (.slice (some ⟨w0.heap.size, 0, none⟩) 1 1)).run Tryz.prog w' = .ok (.string b) w' := fun w0 w' hb => by
       rw [hb0]; exact str_one c hcl w0 w' hb
     have E3 : ∀ w0 : World, (convert 64 9 (.slice (some ⟨w0.heap.size, 0, none⟩) 1 1)).run Tryz.prog (w0.alloc (.cells #[.int .u8 c] 5)).drew = .ok (.string b) (w0.alloc (.cells #[.int .u8 c] 5)).drew := fun w0 => E2 w0 _ (Below.refl _ _).drew
     have E4 := fun n => E2 w ((w.alloc (.cells #[.int .u8 c] 5)).drewN n) (below_drewN (Below.refl _ _) n)
     have HD := hidm hd
     have HC := hidm hc
     clear hd hc ha hb0
     go_enter Tryz.func138, Tryz.ntmps138
     go_wp2_with fail
     go_region_with (go_at_call 138; (with_reducible refine (hrec _).mono ?_); rintro e w' ⟨rfl, hb⟩; (try (have hcv := E2 w _ hb)); (try (have hcv := E2 w _ ((Below.refl _ _).drew.trans hb))))
     all_goals go_wp2_with fail
     all_goals go_ret
     all_goals refine ⟨congrArg (fun q => Ending.returned (.string q)) HE.out, ?_⟩
     all_goals first
       | exact ((Below.refl w.heap.size w).alloc (Nat.le_refl _) _).drew.trans (hb.mono (by simp))
       | exact ((Below.refl w.heap.size w).alloc (Nat.le_refl _) _).drew.drew.trans (hb.mono (by simp))
       | exact (((Below.refl w.heap.size w).drew.trans hb).alloc hb.size _)
       | exact (((Below.refl w.heap.size w).drew.trans hb).alloc hb.size _).drew
theorem rtext_any (t : ByteArray) (ht : t.size ≤ 9223372036854775700) (w : World) :
   Calls Tryz.prog 139 #[.string t] w fun e w' => e = .returned (.string (S (tB t.data.toList))) ∧ Below w.heap.size w w' := by
 have hl := uB_ten t.size (by omega)
 have hn : ¬ 9223372036854775807 < (uB t.size).length + t.size := by omega
 go_enter Tryz.func139, Tryz.ntmps139
 go_wp2_with fail
 refine (ruint_any t.size (by omega) _).mono ?_
 rintro e w' ⟨rfl, hb⟩
 go_wp2_with fail
 go_ret
 exact ⟨congrArg (fun x => Ending.returned (.string x)) (S_tB t), hb⟩
end Wr
end Go.Proofs.YtkgbemkcnahkoaaGreatDoor
