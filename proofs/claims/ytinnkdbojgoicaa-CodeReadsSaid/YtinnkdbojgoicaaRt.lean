/- The document's reader: end, text, and the methods Uint, Int. Conditions: the pointer is to such a reader whose place is within its bytes; the bytes are at most 2^48. -/
import Derived.Test.YtinnkdbojgoicaaRs
import Derived.Test.YtinnkdbojgoicaaCv
namespace Go.Proofs.Ytinnkdbojgoicaa
open Go.RowKit
namespace Rr
open Cod
theorem end_ok (r : Nat) (s : ByteArray) (p a : Int) (w : World) (h : Rrd r s p 0 w) :
    Calls Try.prog 45 #[.pointer (some ⟨r, 0, none⟩), .int .i64 a] w fun en w' => en = .returned (.bool true) ∧ w = w' := by
  have h2 := h.c2
  clear h
  go_enter Try.func45, Try.ntmps45
  go_wp2_with fail
  go_ret
  exact ⟨rfl, rfl⟩
theorem end_bad (r : Nat) (s : ByteArray) (p a e : Int) (he : (e != 0) = true) (w : World) (h : Rrd r s p e w) :
    Calls Try.prog 45 #[.pointer (some ⟨r, 0, none⟩), .int .i64 a] w fun en w' => en = .returned (.bool false) ∧ Rrd r s a e w' ∧ But r w w' := by
  have h2 := h.c2
  have h1 := h.c1
  have z1 := h.z1
  have HR := hidm h
  clear h
  go_enter Try.func45, Try.ntmps45
  go_wp2_with fail
  go_ret
  exact ⟨rfl, HR.out.set1 a, (But.refl _ _).set _ _⟩
/-- What a call of the document's reader comes to: the answer, or the zero z, the error, and the place where it began. -/
def Does {α : Type} (r : Nat) (s : ByteArray) (p : Int) (w : World) (V : α → Value → World → Prop) (z : Value) : Except Nat (α × List UInt8) → Ending → World → Prop
  | .ok (a, t), en, w' => ∃ v, en = .returned v ∧ V a v w' ∧ Rrd r s (s.size - t.length : Nat) 0 w' ∧ But r w w'
  | .error x, en, w' => en = .returned z ∧ Rrd r s p x w' ∧ But r w w'
theorem uint_call (r : Nat) (s : ByteArray) (p : Nat) (w : World) (h : Rrd r s p 0 w) (hp : p ≤ s.size) (hs : s.size ≤ 281474976710656) :
    Calls Try.prog 14 #[.pointer (some ⟨r, 0, none⟩)] w fun en w' => Does r s p w VNat (.int .u64 0) (num 0 0 (s.data.toList.drop p)) en w' := by
  have hn := uint_part r s p w h hp (by omega)
  have h1 := h.c1
  obtain ⟨R, hR⟩ : ∃ R, R = num 0 0 (s.data.toList.drop p) := ⟨_, rfl⟩
  rw [← hR] at hn ⊢
  have HR := hidm hR
  clear hR
  go_enter Try.func14, Try.ntmps14
  go_wp2_with fail
  refine hn.mono ?_
  cases R with
  | error x =>
    rintro en w1 ⟨q, rfl, hr, hb⟩
    have hx : ((x : Int) != 0) = true := by have := num_err _ _ _ _ HR.out.symm; simp; omega
    have HR1 := hidm hr
    have HB1 := hidm hb
    clear hr hb h1
    go_wp2_with fail
    refine (end_bad r s q p x hx w1 HR1.out).mono ?_
    rintro en w2 ⟨rfl, hr, hb⟩
    have HR2 := hidm hr
    have HB2 := hidm (HB1.out.trans hb)
    clear hr hb
    go_wp2_with fail
    go_ret
    exact ⟨rfl, HR2.out, HB2.out⟩
  | ok at' =>
    obtain ⟨n, t⟩ := at'
    rintro en w1 ⟨v, rfl, rfl, hr, hb⟩
    have HR1 := hidm hr
    have HB1 := hidm hb
    clear hr hb h1
    go_wp2_with fail
    refine (end_ok r s _ p w1 HR1.out).mono ?_
    rintro en w2 ⟨rfl, rfl⟩
    go_wp2_with fail
    go_ret
    exact ⟨_, rfl, rfl, HR1.out, HB1.out⟩
theorem sig_err {l : List UInt8} {x : Nat} (h : sig l = .error x) : x = 7 ∨ x = 8 := by
  unfold sig sigR at h
  split at h
  · cases h
  · rename_i y hy; cases h; exact num_err _ _ _ _ hy
theorem int_call (r : Nat) (s : ByteArray) (p : Nat) (w : World) (h : Rrd r s p 0 w) (hp : p ≤ s.size) (hs : s.size ≤ 281474976710656) :
    Calls Try.prog 16 #[.pointer (some ⟨r, 0, none⟩)] w fun en w' => Does r s p w VInt (.int .i64 0) (sig (s.data.toList.drop p)) en w' := by
  have hn := whole_part r s p w h hp hs
  have h1 := h.c1
  obtain ⟨R, hR⟩ : ∃ R, R = sig (s.data.toList.drop p) := ⟨_, rfl⟩
  rw [← hR] at hn ⊢
  have HR := hidm hR
  clear hR
  go_enter Try.func16, Try.ntmps16
  go_wp2_with fail
  refine hn.mono ?_
  cases R with
  | error x =>
    rintro en w1 ⟨q, rfl, hr, hb⟩
    have hx : ((x : Int) != 0) = true := by have := sig_err HR.out.symm; simp; omega
    have HR1 := hidm hr
    have HB1 := hidm hb
    clear hr hb h1
    go_wp2_with fail
    refine (end_bad r s q p x hx w1 HR1.out).mono ?_
    rintro en w2 ⟨rfl, hr, hb⟩
    have HR2 := hidm hr
    have HB2 := hidm (HB1.out.trans hb)
    clear hr hb
    go_wp2_with fail
    go_ret
    exact ⟨rfl, HR2.out, HB2.out⟩
  | ok at' =>
    obtain ⟨n, t⟩ := at'
    rintro en w1 ⟨v, rfl, rfl, hr, hb⟩
    have HR1 := hidm hr
    have HB1 := hidm hb
    clear hr hb h1
    go_wp2_with fail
    refine (end_ok r s _ p w1 HR1.out).mono ?_
    rintro en w2 ⟨rfl, rfl⟩
    go_wp2_with fail
    go_ret
    exact ⟨_, rfl, rfl, HR1.out, HB1.out⟩
theorem rrs_of2 {r : Nat} {s : ByteArray} {q e : Int} {w w' : World} (h : Rrd r s q e w') (b : But r w w') : w'.cell? ⟨r, 0, none⟩ = some (.string s) ∧ w'.cell? ⟨r, 1, none⟩ = some (.int .i64 q) ∧ Hid (Rrd r s q e w' ∧ But r w w') := ⟨h.c0, h.c1, ⟨h, b⟩⟩
set_option maxHeartbeats 2000000 in
set_option maxRecDepth 100000 in
theorem text_part (r : Nat) (s : ByteArray) (p most : Nat) (hm : most ≤ 9223372036854775807) (w : World) (h : Rrd r s p 0 w) (hp : p ≤ s.size) (hs : s.size ≤ 281474976710656) :
    Calls Try.prog 52 #[.pointer (some ⟨r, 0, none⟩), .int .u64 most] w fun en w' => Out r s w VStr (.string ⟨#[]⟩) (txt most (s.data.toList.drop p)) en w' := by
  have hn := uint_part r s p w h hp (by omega)
  obtain ⟨R, hR⟩ : ∃ R, R = num 0 0 (s.data.toList.drop p) := ⟨_, rfl⟩
  obtain ⟨F, hF⟩ : ∃ F, F = txt most (s.data.toList.drop p) := ⟨_, rfl⟩
  rw [← hF]
  unfold txt len at hF
  rw [← hR] at hn hF
  have HR := hidm hR
  have HF := hidm hF
  clear hR hF
  go_enter Try.func52, Try.ntmps52
  go_wp2_with fail
  refine hn.mono ?_
  cases R with
  | error x =>
    rintro en w1 ⟨q, rfl, hr, hb⟩
    have hx : ((x : Int) != 0) = true := by have := num_err _ _ _ _ HR.out.symm; simp; omega
    have e1 := hr.c2
    have HR1 := hidm hr
    have HB1 := hidm hb
    clear hr hb
    go_wp2_with fail
    go_ret
    rw [HF.out]
    exact ⟨q, rfl, HR1.out, HB1.out⟩
  | ok at' =>
    obtain ⟨n, t⟩ := at'
    rintro en w1 ⟨v, rfl, rfl, hr, hb⟩
    have hnb := (read_ok HR.out.symm)
    have hrest := rest_at hnb.1
    obtain ⟨q, hq⟩ : ∃ q, q = s.size - t.length := ⟨_, rfl⟩
    rw [← hq] at hrest hr
    have htq : s.size - q = t.length := by have := hrest.2.2; omega
    have e1 := hr.c2
    have HR1 := hidm hr
    have HB1 := hidm hb
    have HH := hidm hrest
    have hn64 := hnb.2
    have hq9 : q ≤ s.size := hrest.2.1
    have HTQ := hidm htq
    have HQ := hidm hq
    clear hr hb hrest hnb hq htq
    rcases Nat.lt_or_ge most n with h1 | h1
    · have g1 : (most : Int) < n := by omega
      go_wp2_with fail
      refine (fail_any r s q 19 w1 HR1.out).mono ?_
      rintro en w2 ⟨rfl, hr, hb⟩
      have HR2 := hidm hr
      have HB2 := hidm (HB1.out.trans hb)
      clear hr hb e1
      go_wp2_with fail
      go_ret
      have hf : F = .error 19 := by rw [HF.out]; simp only [lenR]; rw [if_pos h1]; rfl
      rw [hf]
      exact ⟨_, rfl, HR2.out, HB2.out⟩
    · have g1 : ¬ (most : Int) < n := by omega
      have k0 := HR1.out.c0
      have k1 := HR1.out.c1
      have z1 := HR1.out.z1
      have htl : t.length ≤ 281474976710656 := by have := HTQ.out; omega
      have hsub : (s.size : Int) - (q : Int) = (t.length : Int) := by have := HTQ.out; omega
      rcases Nat.lt_or_ge t.length n with h2 | h2
      · have g2 : (t.length : Int) < n := by omega
        go_wp2_with fail
        go_quiet (fail)
        go_wp2_with fail
        refine (fail_any r s q 8 _ (HR1.out.drewN _)).mono ?_
        rintro en w2 ⟨rfl, hr, hb⟩
        have HR2 := hidm hr
        have HB2 := hidm ((HB1.out.drewN _).trans hb)
        clear hr hb e1 k0 k1 z1
        go_wp2_with fail
        go_ret
        have hf : F = .error 8 := by rw [HF.out]; simp only [lenR]; rw [if_neg (by omega)]; simp only [txtR]; rw [if_pos h2]
        rw [hf]
        exact ⟨_, rfl, HR2.out, HB2.out⟩
      · have g2 : ¬ (t.length : Int) < n := by omega
        have hqn : q + n ≤ s.size := by have := HTQ.out; omega
        have b1 : (q : Int) ≤ (q : Int) + n := by omega
        have b2 : (q : Int) + n ≤ (s.size : Int) := by omega
        have g3 : ¬ t.length < n := by omega
        go_wp2_with fail
        go_quiet (fail)
        go_wp2_with fail
        have k0' : ∀ a, (w1.drewN a).cell? ⟨r, 0, none⟩ = some (.string s) := fun _ => k0
        have k1' : ∀ a, (w1.drewN a).cell? ⟨r, 1, none⟩ = some (.int .i64 q) := fun _ => k1
        go_region
        have z2 : ∀ a, ((w1.drewN a).drew).frozen? ⟨r, 1, none⟩ = false := fun _ => z1
        have k2 : ∀ a, ((w1.drewN a).drew).cell? ⟨r, 1, none⟩ = some (.int .i64 q) := fun _ => k1
        have z3 : ∀ a, (w1.drewN a).frozen? ⟨r, 1, none⟩ = false := fun _ => z1
        go_wp2_with fail
        go_ret
        have hf : F = .ok (t.take n, t.drop n) := by rw [HF.out]; simp only [lenR]; rw [if_neg (by omega)]; simp only [txtR]; rw [if_neg (by omega)]
        rw [hf]
        refine ⟨_, rfl, congrArg Value.string ?_, ?_, ?_⟩
        · rw [cut_bytes, HH.out.1]
        · have e2 : s.size - (t.drop n).length = q + n := by rw [List.length_drop]; have := HTQ.out; omega
          rw [e2]
          exact (HR1.out.drewN _).set1 _
        · exact (HB1.out.drewN _).set _ _
end Rr
end Go.Proofs.Ytinnkdbojgoicaa
