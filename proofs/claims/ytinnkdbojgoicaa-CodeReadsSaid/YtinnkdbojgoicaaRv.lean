/- The document's reader: Left; the methods Uint, Int, Text at a reader with an error. Conditions: the pointer is to such a reader whose place is within its bytes. -/
import Derived.Test.YtinnkdbojgoicaaRu
namespace Go.Proofs.Ytinnkdbojgoicaa
open Go.RowKit
namespace Rr
open Cod
set_option maxHeartbeats 1000000 in
theorem left_any (r : Nat) (s : ByteArray) (p : Nat) (e : Int) (w : World) (h : Rrd r s p e w) (hp : p ≤ s.size) (hs : s.size ≤ 9223372036854775807) :
    Calls Try.prog 25 #[.pointer (some ⟨r, 0, none⟩)] w fun en w' => en = .returned (.int .i64 (s.size - p : Nat)) ∧ Below w.heap.size w w' := by
  have h0 := h.c0
  have h1 := h.c1
  have hd : (s.size : Int) - (p : Int) = ((s.size - p : Nat) : Int) := by omega
  clear h
  go_enter Try.func25, Try.ntmps25
  go_wp2_with fail
  go_quiet (fail)
  go_wp2_with fail
  go_ret
  exact ⟨rfl, below_drewN (Below.refl _ _) _⟩
theorem uint_stay (r : Nat) (s : ByteArray) (p e : Int) (he : (e != 0) = true) (w : World) (h : Rrd r s p e w) :
    Calls Try.prog 14 #[.pointer (some ⟨r, 0, none⟩)] w fun en w' => en = .returned (.int .u64 0) ∧ Rrd r s p e w' ∧ But r w w' := by
  have hk := uint_kept r s p e he w h
  have h1 := h.c1
  have HR := hidm h
  clear h
  go_enter Try.func14, Try.ntmps14
  go_wp2_with fail
  refine hk.mono ?_
  rintro en w1 ⟨rfl, rfl⟩
  go_wp2_with fail
  refine (end_bad r s p p e he w HR.out).mono ?_
  rintro en w2 ⟨rfl, hr, hb⟩
  have HR2 := hidm hr
  have HB2 := hidm hb
  clear hr hb h1 hk
  go_wp2_with fail
  go_ret
  exact ⟨rfl, HR2.out, HB2.out⟩
theorem int_stay (r : Nat) (s : ByteArray) (p e : Int) (he : (e != 0) = true) (w : World) (h : Rrd r s p e w) :
    Calls Try.prog 16 #[.pointer (some ⟨r, 0, none⟩)] w fun en w' => en = .returned (.int .i64 0) ∧ Rrd r s p e w' ∧ But r w w' := by
  have hk := whole_kept r s p e he w h
  have h1 := h.c1
  have HR := hidm h
  clear h
  go_enter Try.func16, Try.ntmps16
  go_wp2_with fail
  refine hk.mono ?_
  rintro en w1 ⟨rfl, rfl⟩
  go_wp2_with fail
  refine (end_bad r s p p e he w HR.out).mono ?_
  rintro en w2 ⟨rfl, hr, hb⟩
  have HR2 := hidm hr
  have HB2 := hidm hb
  clear hr hb h1 hk
  go_wp2_with fail
  go_ret
  exact ⟨rfl, HR2.out, HB2.out⟩
theorem text_stay (r : Nat) (s : ByteArray) (p e : Int) (he : (e != 0) = true) (w : World) (h : Rrd r s p e w) :
    Calls Try.prog 18 #[.pointer (some ⟨r, 0, none⟩)] w fun en w' => en = .returned (.string ⟨#[]⟩) ∧ Rrd r s p e w' ∧ But r w w' := by
  have hk := text_kept r s p e 1000000 he w h
  have h1 := h.c1
  have HR := hidm h
  clear h
  go_enter Try.func18, Try.ntmps18
  go_wp2_with fail
  refine hk.mono ?_
  rintro en w1 ⟨rfl, rfl⟩
  go_wp2_with fail
  refine (end_bad r s p p e he w HR.out).mono ?_
  rintro en w2 ⟨rfl, hr, hb⟩
  have HR2 := hidm hr
  have HB2 := hidm hb
  clear hr hb h1 hk
  go_wp2_with fail
  go_ret
  exact ⟨rfl, HR2.out, HB2.out⟩
end Rr
end Go.Proofs.Ytinnkdbojgoicaa
