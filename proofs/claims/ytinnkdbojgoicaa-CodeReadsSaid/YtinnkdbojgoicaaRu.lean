/- The document's reader at an error that stays: uint, whole, text answer zeros and change nothing; the method Text. Conditions: the pointer is to such a reader whose place is within its bytes; the bytes are at most 2^48. -/
import Derived.Test.YtinnkdbojgoicaaRt
namespace Go.Proofs.Ytinnkdbojgoicaa
open Go.RowKit
namespace Rr
open Cod
set_option maxHeartbeats 1000000 in
theorem uint_kept (r : Nat) (s : ByteArray) (p e : Int) (he : (e != 0) = true) (w : World) (h : Rrd r s p e w) :
    Calls Try.prog 44 #[.pointer (some ⟨r, 0, none⟩)] w fun en w' => en = .returned (.int .u64 0) ∧ w = w' := by
  have hk := next_kept r s p e he w h
  have h2 := h.c2
  clear h
  go_enter Try.func44, Try.ntmps44
  go_wp2_with fail
  go_loopw [3, 4, 5] (fun nn sc kk wr => nn = .int .u64 0 ∧ sc = .int .u64 1 ∧ kk = .int .i64 0 ∧ Hid (wr = w)) (fun _ _ kk _ => (10 - intOf kk).toNat)
  case atStart => exact ⟨rfl, rfl, rfl, hidm rfl⟩
  case round =>
    obtain ⟨rfl, rfl, rfl, HW⟩ := hrel
    obtain rfl : wr = w := HW.out
    go_wp2_with fail
    refine hk.mono ?_
    rintro en w1 ⟨rfl, rfl⟩
    go_wp2_with fail
    go_ret
    exact ⟨rfl, rfl⟩
theorem whole_kept (r : Nat) (s : ByteArray) (p e : Int) (he : (e != 0) = true) (w : World) (h : Rrd r s p e w) :
    Calls Try.prog 48 #[.pointer (some ⟨r, 0, none⟩)] w fun en w' => en = .returned (.int .i64 0) ∧ w = w' := by
  have hk := uint_kept r s p e he w h
  clear h
  go_enter Try.func48, Try.ntmps48
  go_wp2_with fail
  refine hk.mono ?_
  rintro en w1 ⟨rfl, rfl⟩
  go_wp2_with fail
  go_ret
  exact ⟨rfl, rfl⟩
theorem text_kept (r : Nat) (s : ByteArray) (p e most : Int) (he : (e != 0) = true) (w : World) (h : Rrd r s p e w) :
    Calls Try.prog 52 #[.pointer (some ⟨r, 0, none⟩), .int .u64 most] w fun en w' => en = .returned (.string ⟨#[]⟩) ∧ w = w' := by
  have hk := uint_kept r s p e he w h
  have h2 := h.c2
  clear h
  go_enter Try.func52, Try.ntmps52
  go_wp2_with fail
  refine hk.mono ?_
  rintro en w1 ⟨rfl, rfl⟩
  go_wp2_with fail
  go_ret
  exact ⟨rfl, rfl⟩
theorem txt_err {m : Nat} {l : List UInt8} {x : Nat} (h : txt m l = .error x) : x = 7 ∨ x = 8 ∨ x = 19 := by
  unfold txt txtR at h
  split at h
  · split at h
    · cases h; omega
    · cases h
  · rename_i y hy
    cases h
    unfold len lenR at hy
    split at hy
    · split at hy
      · cases hy; omega
      · cases hy
    · rename_i z hz; cases hy; have := num_err _ _ _ _ hz; omega
theorem text_call (r : Nat) (s : ByteArray) (p : Nat) (w : World) (h : Rrd r s p 0 w) (hp : p ≤ s.size) (hs : s.size ≤ 281474976710656) :
    Calls Try.prog 18 #[.pointer (some ⟨r, 0, none⟩)] w fun en w' => Does r s p w VStr (.string ⟨#[]⟩) (txt 1000000 (s.data.toList.drop p)) en w' := by
  have hn := text_part r s p 1000000 (by omega) w h hp hs
  have h1 := h.c1
  obtain ⟨R, hR⟩ : ∃ R, R = txt 1000000 (s.data.toList.drop p) := ⟨_, rfl⟩
  rw [← hR] at hn ⊢
  have HR := hidm hR
  clear hR
  go_enter Try.func18, Try.ntmps18
  go_wp2_with fail
  refine hn.mono ?_
  cases R with
  | error x =>
    rintro en w1 ⟨q, rfl, hr, hb⟩
    have hx : ((x : Int) != 0) = true := by have := txt_err HR.out.symm; simp; omega
    have HR1 := hidm hr
    have HB1 := hidm hb
    clear hr hb h1
    go_wp2_with fail
    refine (end_bad r s q p x hx w1 HR1.out).mono ?_
    rintro en w2 ⟨rfl, hr, hb⟩
    have HR2 := hidm hr
    have HB2 := hidm (HB1.out.trans hb)
    clear hr hb
    go_wp2_with fail
    go_ret
    exact ⟨rfl, HR2.out, HB2.out⟩
  | ok at' =>
    obtain ⟨n, t⟩ := at'
    rintro en w1 ⟨v, rfl, rfl, hr, hb⟩
    have HR1 := hidm hr
    have HB1 := hidm hb
    clear hr hb h1
    go_wp2_with fail
    refine (end_ok r s _ p w1 HR1.out).mono ?_
    rintro en w2 ⟨rfl, rfl⟩
    go_wp2_with fail
    go_ret
    exact ⟨_, rfl, rfl, HR1.out, HB1.out⟩
end Rr
end Go.Proofs.Ytinnkdbojgoicaa
