/- burn, place, New, Len, Count, Fuse, lay. Conditions: as each says. -/
import Derived.Test.YtpamffheapnoaaaDb
namespace Go.Proofs.Ytpamffheapnoaaa
open Go.RowKit
namespace Dsk
def PD.burn (d : PD) : PD := { d with lf := if d.fu then d.lf - 1 else d.lf }
set_option maxHeartbeats 1000000 in
theorem burn_any {D : Nat} {d : PD} {T : Nat → Prop} (w : World) (h : DiskIs D d T w) (hb : d.fu = true → 1 ≤ d.lf) :
    Calls Try.prog 69 #[.pointer (some ⟨D, 0, none⟩)] w fun e w' => e = .returned (.tuple #[]) ∧ DiskIs D d.burn T w' ∧ Only T w w' := by
  obtain ⟨M, ao, cap, hA⟩ := h
  have HA := hidm hA
  have h6 := hA.c6
  have h7 := hA.c7
  have z7 := hA.z 7
  have ok := hA.ok
  obtain ⟨o1, o2, o3, o4, o5, o6⟩ := ok
  clear hA
  rcases hfu : d.fu with _ | _
  · rw [hfu] at h6
    have HF := hidm hfu
    clear hfu
    go_enter Try.func69, Try.ntmps69
    go_wp2_with fail
    go_end0
    refine ⟨rfl, ⟨M, ao, cap, ?_⟩, Only.refl _ _⟩
    have : d.burn = d := by
      have h := HF.out
      unfold PD.burn
      cases d
      simp_all
    rw [this]
    exact HA.out
  · rw [hfu] at h6
    have HF := hidm hfu
    have hb' := hb hfu
    clear hb hfu
    have f1 : wrap64 ((d.lf : Int) - 1) = ((d.lf - 1 : Nat) : Int) := by unfold wrap64; omega
    go_enter Try.func69, Try.ntmps69
    go_wp2_with fail
    go_end0
    refine ⟨rfl, ⟨M, ao, cap, ?_⟩, (Only.refl _ _).set (.inl HA.out.tD) _⟩
    refine HA.out.put 7 _ d.burn ?_ rfl rfl ?_
    · unfold dcells PD.burn; rw [HF.out]
      first | (rw [← f1]; simp; done) | (simp; omega)
    · exact ⟨o1, o2, o3, o4, o5, by unfold PD.burn; rw [HF.out]; simp; omega⟩
/-- Whether there is no such sector. -/
def off (n : Nat) (k : Int) : Prop := k < 0 ∨ (n : Int) ≤ k
set_option maxHeartbeats 1000000 in
theorem place_none (p : Option Addr) (k : Int) (w : World) (h : NotGiven p w) : Calls Try.prog 67 #[.pointer p, .int .i64 k] w fun e w' => e = .returned (.int .i64 13) ∧ w = w' := by
  have G := hidm (given_no p w h)
  go_enter Try.func67, Try.ntmps67
  go_wp2_with fail
  refine G.out.mono ?_
  rintro e w1 ⟨rfl, rfl⟩
  go_wp2_with fail
  go_ret
  exact ⟨rfl, rfl⟩
set_option maxHeartbeats 1000000 in
theorem place_off {D : Nat} {d : PD} {T : Nat → Prop} (k : Int) (w : World) (h : DiskIs D d T w) (hk : off d.n k) :
    Calls Try.prog 67 #[.pointer (some ⟨D, 0, none⟩), .int .i64 k] w fun e w' => e = .returned (.int .i64 2) ∧ w = w' := by
  obtain ⟨M, ao, cap, hA⟩ := h
  have h1 := hA.c1
  have G := hidm (given_yes D w hA.c0)
  clear hA
  rcases hk with hk | hk
  · go_enter Try.func67, Try.ntmps67
    go_wp2_with fail
    refine G.out.mono ?_
    rintro e w1 ⟨rfl, rfl⟩
    go_wp2_with fail
    go_ret
    exact ⟨rfl, rfl⟩
  · have f1 : ¬ k < 0 := by omega
    go_enter Try.func67, Try.ntmps67
    go_wp2_with fail
    refine G.out.mono ?_
    rintro e w1 ⟨rfl, rfl⟩
    go_wp2_with fail
    go_ret
    exact ⟨rfl, rfl⟩
set_option maxHeartbeats 1000000 in
theorem place_on {D : Nat} {d : PD} {T : Nat → Prop} (k : Nat) (w : World) (h : DiskIs D d T w) (hk : k < d.n) :
    Calls Try.prog 67 #[.pointer (some ⟨D, 0, none⟩), .int .i64 (k : Int)] w fun e w' => e = .returned (.int .i64 0) ∧ w = w' := by
  obtain ⟨M, ao, cap, hA⟩ := h
  have h1 := hA.c1
  have G := hidm (given_yes D w hA.c0)
  clear hA
  have f1 : ¬ (d.n : Int) ≤ (k : Int) := by omega
  go_enter Try.func67, Try.ntmps67
  go_wp2_with fail
  refine G.out.mono ?_
  rintro e w1 ⟨rfl, rfl⟩
  go_wp2_with fail
  go_ret
  exact ⟨rfl, rfl⟩
set_option maxHeartbeats 1000000 in
theorem len_none (p : Option Addr) (w : World) (h : NotGiven p w) : Calls Try.prog 31 #[.pointer p] w fun e w' => e = .returned (.int .i64 0) ∧ w = w' := by
  have G := hidm (given_no p w h)
  go_enter Try.func31, Try.ntmps31
  go_wp2_with fail
  refine G.out.mono ?_
  rintro e w1 ⟨rfl, rfl⟩
  go_wp2_with fail
  go_ret
  exact ⟨rfl, rfl⟩
set_option maxHeartbeats 1000000 in
theorem len_any {D : Nat} {d : PD} {T : Nat → Prop} (w : World) (h : DiskIs D d T w) :
    Calls Try.prog 31 #[.pointer (some ⟨D, 0, none⟩)] w fun e w' => e = .returned (.int .i64 (d.n : Int)) ∧ w = w' := by
  obtain ⟨M, ao, cap, hA⟩ := h
  have h1 := hA.c1
  have G := hidm (given_yes D w hA.c0)
  clear hA
  go_enter Try.func31, Try.ntmps31
  go_wp2_with fail
  refine G.out.mono ?_
  rintro e w1 ⟨rfl, rfl⟩
  go_wp2_with fail
  go_ret
  exact ⟨rfl, rfl⟩
set_option maxHeartbeats 1000000 in
theorem fuse_any {D : Nat} {d : PD} {T : Nat → Prop} (k : Int) (hk : k ≤ 9223372036854775807) (w : World) (h : DiskIs D d T w) :
    Calls Try.prog 16 #[.pointer (some ⟨D, 0, none⟩), .int .i64 k] w fun e w' => e = .returned (.tuple #[]) ∧ DiskIs D { d with fu := true, lf := k.toNat } T w' ∧ Only T w w' := by
  obtain ⟨M, ao, cap, hA⟩ := h
  have HA := hidm hA
  have z6 := hA.z 6
  have z7 := hA.z 7
  have h6 := hA.c6
  have h7 := hA.c7
  have G := hidm (given_yes D w hA.c0)
  obtain ⟨o1, o2, o3, o4, o5, o6⟩ := hA.ok
  clear hA
  obtain ⟨kn, hkn⟩ : ∃ kn, kn = k.toNat := ⟨_, rfl⟩
  have hmax : max k 0 = (kn : Int) := by omega
  have hkm : kn ≤ 9223372036854775807 := by omega
  rw [← hkn]
  clear hkn
  go_enter Try.func16, Try.ntmps16
  go_wp2_with fail
  refine G.out.mono ?_
  rintro e w1 ⟨rfl, rfl⟩
  go_wp2_with fail
  go_end0
  have HB := HA.out.put 6 (.bool true) { d with fu := true } rfl rfl rfl ⟨o1, o2, o3, o4, o5, o6⟩
  refine ⟨rfl, ⟨M, ao, cap, ?_⟩, ((Only.refl _ _).set (.inl HA.out.tD) _).set (.inl HA.out.tD) _⟩
  refine HB.put 7 _ { d with fu := true, lf := kn } ?_ rfl rfl ⟨o1, o2, o3, o4, o5, hkm⟩
  unfold dcells
  first | rfl | (simp only [← hmax]; simp; done) | (simp; omega)
end Dsk
end Go.Proofs.Ytpamffheapnoaaa
