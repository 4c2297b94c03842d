/- What must come of the law's fixed calls. No condition. -/
import Derived.Test.YtkgbemkcnahkoaaGreatDoorZPpto
namespace Go.Proofs.YtkgbemkcnahkoaaGreatDoor
open Go.RowKit
namespace Pgr
open Wal (Pair PL R np)
open Dsk (PD Mine KeepQ Only below_keeps cell_later sec vals pad zeros upd IntsAt ints BoolsAt)
open Crc (S S_of S_size)
section
variable {W : World} {Q : Nat → Prop} {P L D n N K : Nat} {u : Bool} {ch : Ch} {V : Nat → List UInt8} {w w' : World}
theorem Lv.arg (h : Lv W Q P L D n N K u ch V w) (lg : Nat) (hlg : lg = 2 + n + N) : Calls Tryz.prog 12 #[.pointer (some ⟨D, 0, none⟩), .int .i64 (lg : Int)] w fun e w' => e = .returned (.tuple #[.pointer none, .int .i64 1]) ∧ w = w' := by
  obtain ⟨d, t, b, hp, _⟩ := h.ex
  have := hp.fit
  have h2 := hp.dok.1
  have h3 : 2 + n + N = d.n := this
  exact popen_arg (mine_of hp) lg (by omega) (.inl (by omega))
theorem Lv.lost (h : Lv W Q P L D n N K u ch V w) : Calls Tryz.prog 17 #[.pointer (some ⟨D, 0, none⟩), .slice none 0 0] w fun e w' => e = .returned (.int .i64 0) ∧ Re W Q D n N K V w' ∧ KeepQ Q w w' := by
  obtain ⟨nd, _, _, hc⟩ := h.h2.crash
  refine (hc w (Below.refl _ _) [] none 0 (Nat.zero_le _) ⟨Nat.le_refl _, by omega, fun hne => absurd rfl hne⟩ (fun hne => absurd rfl hne)).mono fun e w' h1 => ?_
  obtain ⟨he, h2, h3⟩ := h1
  exact ⟨he, h2.elim id id, h3⟩
end
theorem record_few2 {N : Nat} {ch : Ch} (h : Ok N ch) (hN : N ≤ 127) : (record ch).length ≤ 1 + ch.length * 131 := by
  have h0 := h.count
  have h1 := flat_len (ch := ch) (m := 131) (fun p hp => (rec1_len (h.len p hp) (by have := h.lt p hp; omega)).2 (by have := h.lt p hp; omega))
  unfold record
  rw [List.length_append, Cod.uB_lt (show ch.length < 128 by omega), List.length_singleton]; omega
theorem np_few {N c : Nat} {ch : Ch} (h : Ok N ch) (hN : N ≤ 127) (hc : ch.length ≤ c) {n : Nat} (hn : c * 131 / 100 + 1 ≤ n) : np (record ch) ≤ n := by
  have h1 := record_few2 h hN
  have h2 : ch.length * 131 ≤ c * 131 := Nat.mul_le_mul_right _ hc
  unfold np
  omega
set_option maxHeartbeats 16000000 in
set_option maxRecDepth 100000 in
theorem known_any (w : World) : Calls Tryz.prog 32 #[] w fun e w' => e = .returned (.bool true) ∧ Below w.heap.size w w' := by
  have N0 := hidm (Dsk.m_new (W := w) (w := w) 40 (by omega) (by omega) (Below.refl _ _))
  obtain ⟨z0, hz0⟩ : ∃ z0, z0 = takeB zeros 1 := ⟨_, rfl⟩
  obtain ⟨pa, hpa⟩ : ∃ pa, pa = pad ([97] : List UInt8) := ⟨_, rfl⟩
  have b1 : useB zeros 1 = false := by decide +kernel
  have b2 : useB z0 1 = true := by rw [hz0]; decide +kernel
  have b3 : useB z0 2 = false := by rw [hz0]; decide +kernel
  have b4 : freeN z0 20 = 18 := by rw [hz0]; decide +kernel
  have hz0l : z0.length = 128 := by rw [hz0]; exact take_len Dsk.zeros_len
  have HB := hidm (show useB zeros 1 = false ∧ useB z0 1 = true ∧ useB z0 2 = false ∧ freeN z0 20 = 18 from ⟨b1, b2, b3, b4⟩)
  have HZ := hidm hz0
  have HPA := hidm hpa
  clear b1 b2 b3 b4 hz0 hpa
  go_enter Tryz.func32, Tryz.ntmps32
  go_wp2_with fail
  refine N0.out.mono ?_
  rintro e w1 ⟨rfl, hm1, hb1⟩
  have R1 := hidm (Re.new (n := 18) (N := 20) (by omega) hm1)
  obtain ⟨D, hD⟩ : ∃ D, D = w.heap.size + 1 := ⟨_, rfl⟩
  rw [← hD] at R1 ⊢
  clear hD hm1 hb1 N0
  go_wp2_with fail
  refine (R1.out.open (by omega) (by omega) (by omega) 20 rfl).mono ?_
  rintro e w2 ⟨P, L, rfl, h2, _⟩
  have H2 := hidm h2
  clear h2 R1
  go_wp2_with fail
  refine (H2.out.arg 40 rfl).mono ?_
  rintro e w3 ⟨rfl, rfl⟩
  go_wp2_with fail
  refine H2.out.alloc.mono ?_
  rintro e w3 hal
  rcases hal with ⟨k, k1, k2, k3, k4, rfl, h3, _⟩ | ⟨k1, _⟩
  rotate_left
  · exact absurd (k1 1 (by omega)) (by rw [show over [] (fun _ => zeros) 0 = zeros from rfl, HB.out.1]; simp)
  have hk1 : k = 1 := by
    rcases Nat.lt_or_ge 1 k with h9 | h9
    · have := k4 1 h9
      rw [show over [] (fun _ => zeros) 0 = zeros from rfl, HB.out.1] at this
      cases this
    · omega
  subst hk1
  have H3 := hidm (show Lv w _ P L D 18 20 _ true [(0, z0), (1, zeros)] (fun _ => zeros) w3 from by
    have : allocCh [] (over [] (fun _ => zeros) 0) 1 = [(0, z0), (1, zeros)] := by rw [HZ.out]; rfl
    rw [this] at h3; exact h3)
  clear h3 k1 k2 k3 k4 H2
  go_wp2_with fail
  refine (H3.out.write 1 ⟨#[97]⟩ (by decide) (by omega) (by omega)).mono ?_
  rintro e w4 ⟨rfl, h4, _⟩
  have H4 := hidm (show Lv w _ P L D 18 20 _ true [(0, z0), (1, pa)] (fun _ => zeros) w4 from by
    have : put [(0, z0), (1, zeros)] 1 (pad (⟨#[97]⟩ : ByteArray).data.toList) = [(0, z0), (1, pa)] := by rw [HPA.out]; rfl
    rw [this] at h4; exact h4)
  clear h4 H3
  go_wp2_with fail
  refine H4.out.dirty.mono ?_
  rintro e w5 ⟨x, rfl, hx, hb⟩
  have HX := hidm (show IntsAt w4.heap.size [0, 1] x w5 from hx)
  have H5 := hidm (H4.out.guard hb)
  clear hx hb
  go_wp2_with fail
  refine (H5.out.commit (by omega) (np_few (c := 2) H5.out.ok.2.2 (by omega) (Nat.le_refl 2) (by omega)) (by omega)).mono ?_
  rintro e w6 hcm
  rcases hcm with ⟨rfl, h6, k6⟩ | ⟨hu, _⟩
  rotate_left
  · cases hu
  have H6 := hidm h6
  have HX6 := hidm (Dsk.IntsQ.keep (show Dsk.IntsQ _ [0, 1] x w5 from ⟨Dsk.IntsAt.zero HX.out, fun g hg => .inr (HX.out.lt g hg)⟩) k6)
  clear h6 k6 H4 H5 HX
  obtain ⟨V, hV⟩ : ∃ V, V = over [(0, z0), (1, pa)] (fun _ => zeros) := ⟨_, rfl⟩
  rw [← hV] at H6
  have HV := hidm (show V 0 = z0 ∧ V 1 = pa from by rw [hV]; exact ⟨rfl, rfl⟩)
  clear hV
  go_wp2_with fail
  refine H6.out.alloc.mono ?_
  rintro e w7 hal
  rcases hal with ⟨k, k1, k2, k3, k4, rfl, h7, k7⟩ | ⟨k1, _⟩
  rotate_left
  · exact absurd (k1 2 (by omega)) (by rw [show over [] V 0 = V 0 from rfl, HV.out.1, HB.out.2.2.1]; simp)
  have hk2 : k = 2 := by
    rw [show over [] V 0 = V 0 from rfl, HV.out.1] at k3 k4
    rcases Nat.lt_or_ge 2 k with h9 | h9
    · have := k4 2 h9
      rw [HB.out.2.2.1] at this
      cases this
    · rcases (show k = 1 ∨ k = 2 by omega) with e1 | e1
      · rw [e1, HB.out.2.1] at k3; cases k3
      · exact e1
  subst hk2
  have H7 := hidm h7
  have HX7 := hidm (HX6.out.keep k7)
  clear h7 k7 k1 k2 k3 k4 H6 HX6
  go_wp2_with fail
  refine H7.out.abort.mono ?_
  rintro e w8 ⟨rfl, h8, k8⟩
  have H8 := hidm h8
  have HX8 := hidm (HX7.out.keep k8)
  clear h8 k8 H7 HX7
  go_wp2_with fail
  refine H8.out.lost.mono ?_
  rintro e w9 ⟨rfl, h9, k9⟩
  have H9 := hidm h9
  have HX9 := hidm (HX8.out.keep k9)
  clear h9 k9 H8 HX8
  go_wp2_with fail
  refine (H9.out.open (by omega) (by omega) (by omega) 20 rfl).mono ?_
  rintro e w10 ⟨P2, L2, rfl, h10, k10⟩
  have H10 := hidm h10
  have HX10 := hidm (HX9.out.keep k10)
  clear h10 k10 H9 HX9
  go_wp2_with fail
  refine (H10.out.read 1 (by omega)).mono ?_
  rintro e w11 ⟨rfl, hb⟩
  rw [show over [] V 1 = V 1 from rfl, HV.out.2]
  have H11 := hidm (H10.out.later hb)
  have HX11 := hidm (HX10.out.keep (H10.out.kept hb))
  clear hb H10 HX10
  have HL := hidm (Dsk.ints_new w11 [0, 1] (by decide))
  have H12 := hidm (H11.out.later ((Below.refl _ _).alloc (Nat.le_refl _) (.cells #[.int .i64 0, .int .i64 1] 3)))
  have HX12 := hidm (HX11.out.keep (H11.out.kept ((Below.refl _ _).alloc (Nat.le_refl _) (.cells #[.int .i64 0, .int .i64 1] 3))))
  go_wp2_with fail
  refine (Dsk.rints_any 0 w11.heap.size [0, 1] [0, 1] x _ _ HX12.out.1 HL.out).mono ?_
  rintro e w12 ⟨rfl, hb⟩
  have H13 := hidm (H12.out.later hb)
  clear hb HL H12 HX12 HX11 H11
  go_wp2_with fail
  refine (Dsk.rpad_any ⟨#[97]⟩ (by decide) w12).mono ?_
  rintro e w13 ⟨rfl, hb⟩
  have H14 := hidm (H13.out.later hb)
  clear hb H13
  have hpe := HPA.out
  obtain ⟨ps, hps⟩ : ∃ ps, ps = S pa := ⟨_, rfl⟩
  have e1 : Dsk.S (pad (⟨#[97]⟩ : ByteArray).data.toList) = ps := by rw [hps, hpe]
  have e2 : S pa = ps := hps.symm
  rw [e1]
  simp only [e2]
  clear e1 e2 hps hpe
  go_wp2_with fail
  refine (H14.out.isfree 2 (by omega)).mono ?_
  rintro e w14 ⟨rfl, hb⟩
  rw [show over [] V 0 = V 0 from rfl, HV.out.1, HB.out.2.2.1]
  have H15 := hidm (H14.out.later hb)
  clear hb H14
  go_wp2_with fail
  refine (H15.out.isfree 1 (by omega)).mono ?_
  rintro e w15 ⟨rfl, hb⟩
  rw [show over [] V 0 = V 0 from rfl, HV.out.1, HB.out.2.1]
  have H16 := hidm (H15.out.later hb)
  clear hb H15
  go_wp2_with fail
  refine H16.out.frees.mono ?_
  rintro e w16 ⟨rfl, hb⟩
  rw [show over [] V 0 = V 0 from rfl, HV.out.1, HB.out.2.2.2]
  have H17 := hidm (H16.out.later hb)
  clear hb H16
  go_wp2_with fail
  refine H17.out.plen.mono ?_
  rintro e w17 ⟨rfl, rfl⟩
  go_wp2_with fail
  refine (H17.out.free_idle 2 (by omega) (by omega) (by rw [show over [] V 0 = V 0 from rfl, HV.out.1, HB.out.2.2.1])).mono ?_
  rintro e w17 ⟨rfl, hb⟩
  have H18 := hidm (H17.out.later hb)
  clear hb H17
  go_wp2_with fail
  refine H18.out.free_zero.mono ?_
  rintro e w18 ⟨rfl, rfl⟩
  go_wp2_with fail
  refine (H18.out.write_off 20 ⟨#[]⟩ (.inr (by decide))).mono ?_
  rintro e w18 ⟨rfl, rfl⟩
  go_wp2_with fail
  refine H18.out.dirty.mono ?_
  rintro e w18 ⟨y, rfl, hy, hb⟩
  obtain ⟨yo, yc, rfl, _, _⟩ := hy.form
  have H19 := hidm (H18.out.later hb)
  clear hy hb H18
  go_wp2_with fail
  go_ret
  exact ⟨by trivial, H19.out.bel⟩
end Pgr
end Go.Proofs.YtkgbemkcnahkoaaGreatDoor
