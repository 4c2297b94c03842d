/- The reader's parts: New, Left, Err, octet, number, signed, length. Conditions: the pointer is to a reader whose place is within its bytes. -/
import Derived.Test.YtpamffheapnoaaaRdr
import Derived.Test.YtpamffheapnoaaaCod
import Derived.Laws.BitsAllLaws
import Derived.Laws.BitsLemmas
namespace Go.Proofs.Ytpamffheapnoaaa
open Go.RowKit
namespace Cod
theorem left_nil (w : World) : Calls Try.prog 65 #[.pointer none] w fun e w' => e = .returned (.int .i64 0) ∧ w = w' := by
  go_enter Try.func65, Try.ntmps65
  go_wp2_with fail
  go_ret
  exact ⟨rfl, rfl⟩
theorem err_nil (w : World) : Calls Try.prog 64 #[.pointer none] w fun e w' => e = .returned (.int .i64 13) ∧ w = w' := by
  go_enter Try.func64, Try.ntmps64
  go_wp2_with fail
  go_ret
  exact ⟨rfl, rfl⟩
theorem err_any (r : Nat) (s : ByteArray) (p e : Int) (w : World) (h : Rdr r s p e w) : Calls Try.prog 64 #[.pointer (some ⟨r, 0, none⟩)] w fun en w' => en = .returned (.int .i64 e) ∧ w = w' := by
  have h2 := h.c2
  go_enter Try.func64, Try.ntmps64
  go_wp2_with fail
  go_ret
  exact ⟨rfl, rfl⟩
set_option maxHeartbeats 1000000 in
theorem left_any (r : Nat) (s : ByteArray) (p : Nat) (e : Int) (w : World) (h : Rdr r s p e w) (hp : p ≤ s.size) (hs : s.size ≤ 9223372036854775807) :
    Calls Try.prog 65 #[.pointer (some ⟨r, 0, none⟩)] w fun en w' => en = .returned (.int .i64 (s.size - p : Nat)) ∧ Below w.heap.size w w' := by
  have h0 := h.c0
  have h1 := h.c1
  have hd : (s.size : Int) - (p : Int) = ((s.size - p : Nat) : Int) := by omega
  go_enter Try.func65, Try.ntmps65
  go_wp2_with fail
  go_quiet (fail)
  go_wp2_with fail
  go_ret
  exact ⟨rfl, below_drewN (Below.refl _ _) _⟩
set_option maxHeartbeats 1000000 in
theorem octet_short (r : Nat) (s : ByteArray) (e : Int) (w : World) (h : Rdr r s s.size e w) :
    Calls Try.prog 77 #[.pointer (some ⟨r, 0, none⟩)] w fun en w' => en = .panicked (pan 8) ∧ Below w.heap.size w w' := by
  have h0 := h.c0
  have h1 := h.c1
  go_enter Try.func77, Try.ntmps77
  go_wp2_with fail
  go_quiet (fail)
  go_wp2_with fail
  exact ⟨rfl, rfl, below_drewN (Below.refl _ _) _⟩
set_option maxHeartbeats 1000000 in
theorem octet_ok (r : Nat) (s : ByteArray) (p : Nat) (e : Int) (w : World) (h : Rdr r s p e w) (hp : p < s.size) (hs : s.size ≤ 9223372036854775807) :
    Calls Try.prog 77 #[.pointer (some ⟨r, 0, none⟩)] w fun en w' => en = .returned (.int .u8 (s[p].toNat : Int)) ∧ Rdr r s (p + 1 : Nat) e w' ∧ But r w w' := by
  have h0 := h.c0
  have h1 := h.c1
  have z1 := h.z1
  have hne : ((p : Int) == (s.size : Int)) = false := by simp; omega
  go_enter Try.func77, Try.ntmps77
  go_wp2_with fail
  go_quiet (fail)
  go_wp2_with fail
  have h0' : ∀ a, (w.drewN a).cell? ⟨r, 0, none⟩ = some (.string s) := fun _ => h0
  have h1' : ∀ a, (w.drewN a).cell? ⟨r, 1, none⟩ = some (.int .i64 p) := fun _ => h1
  go_quiet (fail)
  have z2 : ∀ a b, ((w.drewN a).drewN b).frozen? ⟨r, 1, none⟩ = false := fun _ _ => z1
  have h2' : ∀ a b, ((w.drewN a).drewN b).cell? ⟨r, 1, none⟩ = some (.int .i64 p) := fun _ _ => h1
  go_wp2_with fail
  go_ret
  exact ⟨rfl, (h.drewN _).set1 _, ((But.refl _ _).drewN _).set _ _⟩
end Cod
end Go.Proofs.Ytpamffheapnoaaa
