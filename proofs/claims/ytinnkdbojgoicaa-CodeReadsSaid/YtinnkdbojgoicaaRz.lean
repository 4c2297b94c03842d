/- The document's reader: its value, of floats; all of them. Conditions: the pointer is to such a reader whose place is within its bytes; the bytes are at most 2^48. -/
import Derived.Test.YtinnkdbojgoicaaRy
import Derived.Deep.LoopGhost
namespace Go.Proofs.Ytinnkdbojgoicaa
open Go.RowKit
namespace Rr
open Cod
theorem oct_num (n : Nat) (c : UInt8) (i : Nat) (hn : n < 256 ^ i) : n * 256 + c.toNat < 256 ^ (i + 1) := by
  have hc := c.toNat_lt
  rw [Nat.pow_succ]; omega
theorem pow8 (i : Nat) (hi : i ≤ 8) : (256 : Nat) ^ i ≤ 18446744073709551616 := by
  have h1 : (256 : Nat) ^ i ≤ 256 ^ 8 := Nat.pow_le_pow_right (by omega) hi
  have h2 : (256 : Nat) ^ 8 = 18446744073709551616 := by decide
  omega
/-- How the eight bytes stand: x is what is read so far; all is well, or a byte was lacking. -/
def Eight (s : ByteArray) (R : Except Nat (Nat × List UInt8)) (i q x : Nat) (e : Int) : Prop :=
  (e = 0 ∧ q ≤ s.size ∧ x < 256 ^ i ∧ R = oct (8 - i) x (s.data.toList.drop q)) ∨ (e = 8 ∧ R = .error 8)
/-- The reader, and both boxes. -/
def St (r : Nat) (s : ByteArray) (q e : Int) (w : World) (A B : Nat) (x : Nat) (u : World) : Prop := Rrd r s q e u ∧ But r w u ∧ Vb A 0 0 0 ⟨#[]⟩ u ∧ Vb B 3 0 x ⟨#[]⟩ u
section
variable {r : Nat} {s : ByteArray} {q e q' e' : Int} {w u u' : World} {A B x : Nat}
theorem St.later (h : St r s q e w A B x u) (hb : Below u.heap.size u u') : St r s q e w A B x u' := ⟨h.1.later hb, h.2.1.trans (.of hb), h.2.2.1.later hb, h.2.2.2.later hb⟩
theorem St.step (h : St r s q e w A B x u) (hr : Rrd r s q' e' u') (hb : But r u u') (hA : A ≠ r) (hB : B ≠ r) : St r s q' e' w A B x u' := ⟨hr, h.2.1.trans hb, h.2.2.1.but hA hb, h.2.2.2.but hB hb⟩
theorem St.put (h : St r s q e w A B x u) (hA : A ≠ B) (hr : r ≠ B) (hw : w.heap.size ≤ B) (y : Nat) : St r s q e w A B y (u.setCell ⟨B, 2, none⟩ (.int .u64 (y : Int))) :=
  ⟨h.1.other (a := ⟨B, 2, none⟩) hr _, h.2.1.setNew (p := ⟨B, 2, none⟩) hw _, h.2.2.1.other (a := ⟨B, 2, none⟩) hA _, h.2.2.2.set2 y⟩
end
/-- The next byte, in any world that stands so. -/
theorem next_st (s : ByteArray) (R : Except Nat (Nat × List UInt8)) (r A B : Nat) (w : World) (hs : s.size ≤ 281474976710656) (hA : A ≠ r) (hB : B ≠ r) (i q x : Nat) (e : Int) (hi : i < 8) (h : Eight s R i q x e) :
    ∃ (c q2 : Nat) (e2 : Int), c < 256 ∧ Eight s R (i + 1) q2 ((256 * x + c) % 18446744073709551616) e2 ∧
      ∀ u, St r s q e w A B x u → Calls Try.prog 69 #[.pointer (some ⟨r, 0, none⟩)] u fun en w' => en = .returned (.int .i64 (c : Int)) ∧ St r s q2 e2 w A B x w' := by
  rcases h with ⟨rfl, hq, hxi, hR⟩ | ⟨rfl, hR⟩
  · rcases Nat.eq_or_lt_of_le hq with hqe | hqe
    · refine ⟨0, q, 8, by omega, .inr ⟨rfl, by rw [hR, hqe, drop_end, show 8 - i = (7 - i) + 1 by omega]; rfl⟩, fun u hu => ?_⟩
      have hr := hu.1
      rw [hqe] at hr ⊢
      refine (next_short r s u hr).mono ?_
      rintro en w' ⟨rfl, h1, h2⟩
      rw [← hqe] at h1
      exact ⟨rfl, hu.step (by rw [← hqe]; exact h1) h2 hA hB⟩
    · have hy := oct_num x (s[q]) i hxi
      have hp := pow8 (i + 1) (by omega)
      have e1 : (256 * x + (s[q]).toNat) % 18446744073709551616 = x * 256 + (s[q]).toNat := by
        rw [Nat.mod_eq_of_lt (by omega)]; omega
      refine ⟨(s[q]).toNat, q + 1, 0, (s[q]).toNat_lt, .inl ⟨rfl, hqe, by rw [e1]; exact hy, by rw [hR, e1, drop_at s q hqe, show 8 - i = (8 - (i + 1)) + 1 by omega]; rfl⟩, fun u hu => ?_⟩
      refine (next_ok r s q u hu.1 hqe (by omega)).mono ?_
      rintro en w' ⟨rfl, h1, h2⟩
      exact ⟨rfl, hu.step h1 h2 hA hB⟩
  · refine ⟨0, q, 8, by omega, .inr ⟨rfl, hR⟩, fun u hu => ?_⟩
    refine (next_kept r s q 8 (by decide) u hu.1).mono ?_
    rintro en w' ⟨rfl, rfl⟩
    exact ⟨rfl, hu⟩
set_option maxHeartbeats 4000000 in
set_option maxRecDepth 100000 in
theorem value_float (r : Nat) (s : ByteArray) (p : Nat) (w : World) (h : Rrd r s p 0 w) (hp : p < s.size) (hs : s.size ≤ 281474976710656) (c : UInt8) (hc : s[p] = c) (hk : c.toNat = 3) :
    Calls Try.prog 55 #[.pointer (some ⟨r, 0, none⟩)] w fun en w' => OutV r s w (val (s.data.toList.drop p)) en w' := by
  rw [val_at s p hp c hc]
  have hrlt := h.lt
  have H0 := hidm (h.past (.cells #[.int .i64 0, .int .i64 0, .int .u64 0, .string ⟨#[]⟩] 33))
  have B0 := hidm ((But.refl r w).alloc (.cells #[.int .i64 0, .int .i64 0, .int .u64 0, .string ⟨#[]⟩] 33))
  have A0 := hidm (Vb.new w 0 0 0 ⟨#[]⟩)
  have hoct := next_ok r s p _ H0.out hp (by omega)
  rw [hc] at hoct
  rw [hk] at hoct ⊢
  obtain ⟨R, hR⟩ : ∃ R, R = oct 8 0 (s.data.toList.drop (p + 1)) := ⟨_, rfl⟩
  have hbody : chk (body 3 (s.data.toList.drop (p + 1))) = chk (toV (fun b => ⟨3, 0, b, []⟩) R) := by rw [hR]; rfl
  rw [hbody]
  have HT := hidm hR
  clear hbody hR hc h
  go_enter Try.func55, Try.ntmps55
  go_wp2_with fail
  refine hoct.mono ?_
  rintro en w1 ⟨rfl, hr1, hb1⟩
  have HR1 := hidm (hr1.past (.cells #[.int .i64 3, .int .i64 0, .int .u64 0, .string ⟨#[]⟩] 33))
  have HB1 := hidm ((B0.out.trans hb1).alloc (.cells #[.int .i64 3, .int .i64 0, .int .u64 0, .string ⟨#[]⟩] 33))
  have HA1 := hidm ((A0.out.but (by omega) hb1).past (.cells #[.int .i64 3, .int .i64 0, .int .u64 0, .string ⟨#[]⟩] 33))
  have hV1 := Vb.new w1 3 0 0 ⟨#[]⟩
  have sz1 : w.heap.size < w1.heap.size := by have := hb1.size; simp at this; omega
  have HV1 := hidm hV1
  clear hr1 hb1 hoct
  have kk0 := hV1.c0
  clear hV1
  go_wp2_with fail
  clear kk0
  have HSZ := hidm hs
  go_loopg [4] 8 (fun g ii wx => ∃ i q x : Nat, ∃ e : Int, i + g = 8 ∧ ii = .int .i64 i ∧ x < 18446744073709551616 ∧ Hid (Eight s R i q x e) ∧ Hid (St r s q e w w.heap.size w1.heap.size x wx))
  case atStart => exact ⟨0, p + 1, 0, 0, rfl, rfl, by omega, hidm (.inl ⟨rfl, hp, by simp, HT.out⟩), hidm ⟨HR1.out, HB1.out, HA1.out, HV1.out⟩⟩
  case round =>
    clear HR1 HB1 HA1 HV1
    obtain ⟨i, q, x, e, hig, rfl, hx, H8, HS⟩ := hrel
    have kk2 := HS.out.2.2.2.c2
    have kz := HS.out.2.2.2.z
    cases gk with
    | zero =>
      obtain rfl : i = 8 := by omega
      have hcan := Ref.canon_any x hx
      obtain ⟨y, hy⟩ : ∃ y, y = Flo.canon x := ⟨_, rfl⟩
      rw [← hy] at hcan
      have hi8 : ¬ ((8 : Nat) : Int) < 8 := by omega
      have HY := hidm hy
      have hkk2 : ∀ n, (wr.drewN n).cell? ⟨w1.heap.size, 2, none⟩ = some (.int .u64 (x : Int)) := fun _ => kk2
      clear hy
      go_wp2_with fail
      go_region_held3 (fun u => u.cell? ⟨w1.heap.size, 2, none⟩ = some (.int .u64 (x : Int)) ∧ Hid (St r s q e w w.heap.size w1.heap.size x u))
        (first | assumption | (exact ⟨kk2, HS⟩) | (exact ⟨kk2, hidm (HS.out.later (Below.refl _ _).drew)⟩) | (exact ⟨kk2, hidm (HS.out.later (below_drewN (Below.refl _ _) 1))⟩) | go_keep)
        (first | (go_at_call 75; (with_reducible refine (hcan _).mono ?_); rintro e w' ⟨rfl, rfl⟩))
      rename_i hS
      have HST := hS.2
      clear hS hcan hkk2 kk2 kz hi8 HS
      generalize wr.drew = u at HST ⊢
      rcases H8.out with ⟨rfl, hq, hxi, hR⟩ | ⟨rfl, hR⟩
      · by_cases hyx : y = x
        · have HRR : Hid (chk (toV (fun b => (⟨3, 0, b, []⟩ : V)) R) = .ok (⟨3, 0, x, []⟩, s.data.toList.drop q)) := by
            refine hidm ?_
            rw [hR]
            exact chk_yes ((right_3 x).trans (decide_eq_true (by rw [← HY.out, hyx])))
          have HE := hidm (back_at s q hq)
          obtain rfl := hyx
          clear hR hxi H8
          have HVf := hidm HST.out.2.2.2
          have HRf := hidm HST.out.1
          have HBf := hidm HST.out.2.1
          have HAf := hidm HST.out.2.2.1
          have q0 := HVf.out.c0
          have q1 := HVf.out.c1
          have q2 := HVf.out.c2
          have q3 := HVf.out.c3
          have a0 := HAf.out.c0
          have a1 := HAf.out.c1
          have a2 := HAf.out.c2
          have a3 := HAf.out.c3
          have az := HAf.out.z
          have HP := hidm (put4_vb (k := 3) (n := 0) (x := (y : Nat)) (t := ⟨#[]⟩) HAf.out)
          go_wp2_with fail
          have p0 := HP.out.c0
          have p1 := HP.out.c1
          have p2 := HP.out.c2
          have p3 := HP.out.c3
          show bodyPost _ _ _ _ _ (put4 u w.heap.size (.int .i64 3) (.int .i64 0) (.int .u64 (y : Nat)) (.string ⟨#[]⟩))
          refine bodyPost_ret (v := .agg #[.int .i64 3, .int .i64 0, .int .u64 (y : Nat), .string ⟨#[]⟩]) (by simp [results, Try.results55, go_sem, p0, p1, p2, p3]) rfl ?_
          rw [HRR.out]
          exact ⟨rfl, put4_rrd (by rw [HE.out]; exact HRf.out) (by omega), put4_but HBf.out (Nat.le_refl _)⟩
        · have HRR : Hid (chk (toV (fun b => (⟨3, 0, b, []⟩ : V)) R) = .error 7) := by
            refine hidm ?_
            rw [hR]
            exact chk_no ((right_3 x).trans (decide_eq_false (by rw [← HY.out]; exact fun h => hyx h.symm)))
          have g1 : ((y : Int) != (x : Int)) = true := by simp; omega
          have g2 : ((y : Int) == (x : Int)) = false := by simp; omega
          clear hR hxi H8 hyx
          go_wp2_with fail
          refine (fail_any r s _ 7 _ HST.out.1).mono ?_
          rintro en w3 ⟨rfl, hr3, hb3⟩
          have HST := hidm (HST.out.step hr3 hb3 (by omega) (by omega))
          clear hr3 hb3
          have HVf := hidm HST.out.2.2.2
          have HRf := hidm HST.out.1
          have HBf := hidm HST.out.2.1
          have HAf := hidm HST.out.2.2.1
          have q0 := HVf.out.c0
          have q1 := HVf.out.c1
          have q2 := HVf.out.c2
          have q3 := HVf.out.c3
          have a0 := HAf.out.c0
          have a1 := HAf.out.c1
          have a2 := HAf.out.c2
          have a3 := HAf.out.c3
          have az := HAf.out.z
          have HP := hidm (put4_vb (k := 3) (n := 0) (x := (x : Nat)) (t := ⟨#[]⟩) HAf.out)
          go_wp2_with fail
          have p0 := HP.out.c0
          have p1 := HP.out.c1
          have p2 := HP.out.c2
          have p3 := HP.out.c3
          show bodyPost _ _ _ _ _ (put4 _ w.heap.size (.int .i64 3) (.int .i64 0) (.int .u64 (x : Nat)) (.string ⟨#[]⟩))
          refine bodyPost_ret (v := .agg #[.int .i64 3, .int .i64 0, .int .u64 (x : Nat), .string ⟨#[]⟩]) (by simp [results, Try.results55, go_sem, p0, p1, p2, p3]) rfl ?_
          rw [HRR.out]
          exact ⟨_, ⟨3, 0, x, []⟩, rfl, put4_rrd HRf.out (by omega), put4_but HBf.out (Nat.le_refl _)⟩
      · have HRR : Hid (chk (toV (fun b => (⟨3, 0, b, []⟩ : V)) R) = .error 8) := hidm (by rw [hR]; rfl)
        clear hR H8
        by_cases hyx : y = x
        · obtain rfl := hyx
          have HVf := hidm HST.out.2.2.2
          have HRf := hidm HST.out.1
          have HBf := hidm HST.out.2.1
          have HAf := hidm HST.out.2.2.1
          have q0 := HVf.out.c0
          have q1 := HVf.out.c1
          have q2 := HVf.out.c2
          have q3 := HVf.out.c3
          have a0 := HAf.out.c0
          have a1 := HAf.out.c1
          have a2 := HAf.out.c2
          have a3 := HAf.out.c3
          have az := HAf.out.z
          have HP := hidm (put4_vb (k := 3) (n := 0) (x := (y : Nat)) (t := ⟨#[]⟩) HAf.out)
          go_wp2_with fail
          have p0 := HP.out.c0
          have p1 := HP.out.c1
          have p2 := HP.out.c2
          have p3 := HP.out.c3
          show bodyPost _ _ _ _ _ (put4 u w.heap.size (.int .i64 3) (.int .i64 0) (.int .u64 (y : Nat)) (.string ⟨#[]⟩))
          refine bodyPost_ret (v := .agg #[.int .i64 3, .int .i64 0, .int .u64 (y : Nat), .string ⟨#[]⟩]) (by simp [results, Try.results55, go_sem, p0, p1, p2, p3]) rfl ?_
          rw [HRR.out]
          exact ⟨_, ⟨3, 0, y, []⟩, rfl, put4_rrd HRf.out (by omega), put4_but HBf.out (Nat.le_refl _)⟩
        · have g1 : ((y : Int) != (x : Int)) = true := by simp; omega
          have g2 : ((y : Int) == (x : Int)) = false := by simp; omega
          clear hyx
          go_wp2_with fail
          refine (fail_kept r s _ 8 7 (by decide) _ HST.out.1).mono ?_
          rintro en w3 ⟨rfl, rfl⟩
          have HVf := hidm HST.out.2.2.2
          have HRf := hidm HST.out.1
          have HBf := hidm HST.out.2.1
          have HAf := hidm HST.out.2.2.1
          have q0 := HVf.out.c0
          have q1 := HVf.out.c1
          have q2 := HVf.out.c2
          have q3 := HVf.out.c3
          have a0 := HAf.out.c0
          have a1 := HAf.out.c1
          have a2 := HAf.out.c2
          have a3 := HAf.out.c3
          have az := HAf.out.z
          have HP := hidm (put4_vb (k := 3) (n := 0) (x := (x : Nat)) (t := ⟨#[]⟩) HAf.out)
          go_wp2_with fail
          have p0 := HP.out.c0
          have p1 := HP.out.c1
          have p2 := HP.out.c2
          have p3 := HP.out.c3
          show bodyPost _ _ _ _ _ (put4 _ w.heap.size (.int .i64 3) (.int .i64 0) (.int .u64 (x : Nat)) (.string ⟨#[]⟩))
          refine bodyPost_ret (v := .agg #[.int .i64 3, .int .i64 0, .int .u64 (x : Nat), .string ⟨#[]⟩]) (by simp [results, Try.results55, go_sem, p0, p1, p2, p3]) rfl ?_
          rw [HRR.out]
          exact ⟨_, ⟨3, 0, x, []⟩, rfl, put4_rrd HRf.out (by omega), put4_but HBf.out (Nat.le_refl _)⟩
    | succ g =>
      have hi8 : (i : Int) < 8 := by omega
      obtain ⟨c, q2, e2, hc, HE2, hnx⟩ := next_st s R r w.heap.size w1.heap.size w hs (by omega) (by omega) i q x e (by omega) H8.out
      obtain ⟨y, hy⟩ : ∃ y, y = (256 * x + c) % 18446744073709551616 := ⟨_, rfl⟩
      have hyl : y < 18446744073709551616 := by rw [hy]; exact Nat.mod_lt _ (by decide)
      rw [← hy] at HE2
      have H9 := hidm HE2
      have HS1 := hidm (HS.out.later (Below.refl _ _).drew)
      have HS2 := hidm (HS.out.later (below_drewN (Below.refl _ _) 1))
      have hwr : IntKind.u64.wrap (IntKind.u64.wrap (256 * (x : Int)) + IntKind.u64.wrap (c : Int)) = (y : Int) := by
        simp only [IntKind.wrap_u64]; omega
      clear HE2 H8 hy
      go_wp2_with fail
      go_region_with (go_at_call 69; (with_reducible refine (hnx _ ?_).mono ?_); (first | exact HS.out | exact HS1.out | exact HS2.out); rintro en w2 ⟨rfl, hst⟩; have hc2 := hst.2.2.2.c2; have hz2 := hst.2.2.2.z)
      all_goals (try simp only [hwr])
      all_goals (have HST := hidm (hst.put (by omega) (by omega) (Nat.le_of_lt sz1) y); clear hst hc2 hz2)
      all_goals go_wp2_with fail
      all_goals go_roundg g
      all_goals first | omega | exact ⟨i + 1, q2, y, e2, by omega, by go_num, hyl, H9, HST⟩ | exact ⟨i + 1, q2, y, e2, by omega, by go_num, hyl, H9, hidm (HST.out.later (Below.refl _ _).drew)⟩
theorem value_part (r : Nat) (s : ByteArray) (p : Nat) (w : World) (h : Rrd r s p 0 w) (hp : p ≤ s.size) (hs : s.size ≤ 281474976710656) :
    Calls Try.prog 55 #[.pointer (some ⟨r, 0, none⟩)] w fun en w' => OutV r s w (val (s.data.toList.drop p)) en w' := by
  rcases Nat.eq_or_lt_of_le hp with hpe | hpe
  · subst hpe; exact value_short r s w h
  · obtain ⟨c, hc⟩ : ∃ c : UInt8, s[p] = c := ⟨_, rfl⟩
    by_cases h0 : c.toNat = 0
    · exact value_null r s p w h hpe hs c hc h0
    by_cases h1 : c.toNat = 1
    · exact value_bool r s p w h hpe hs c hc h1
    by_cases h2 : c.toNat = 2
    · exact value_int r s p w h hpe hs c hc h2
    by_cases h3 : c.toNat = 3
    · exact value_float r s p w h hpe hs c hc h3
    by_cases h4 : c.toNat = 4
    · exact value_bytes r s p w h hpe hs c hc h4
    by_cases h5 : c.toNat = 5
    · exact value_text r s p w h hpe hs c hc h5
    exact value_else r s p w h hpe hs c hc (by omega)
end Rr
end Go.Proofs.Ytinnkdbojgoicaa
