/- The program's sums: More, Of, fourBytes, Put, Take. Conditions: the bytes are at most 2^62. -/
import Derived.Test.YtpamffheapnoaaaKs
import Derived.Deep.QuietTactic
import Derived.BigQuiet
import Derived.Deep.RegionHeld3
import Derived.Laws.IdiomStrings
import Derived.Lib.AppendStr
namespace Go.Proofs.Ytpamffheapnoaaa
open Go.RowKit
namespace Crc
theorem not32 (n : Nat) (hn : n < 4294967296) : bits .xor .u32 IntKind.u32.max (n : Int) = ((4294967295 - n : Nat) : Int) := by
  have := u32_xor_nat 4294967295 n (by decide) hn
  rw [not_xor hn, ← this]; rfl
theorem take_succ' (s : ByteArray) (k : Nat) (h : k < s.size) : s.data.toList.take (k + 1) = s.data.toList.take k ++ [s[k]] := by
  rw [List.take_succ_eq_append_getElem (by simpa using h)]; rfl
theorem tab_at (i : Nat) (hi : i < 256) : (tabs 8)[i]? = some (tab i) := by
  rw [tabs_all]; simp [hi]
set_option maxHeartbeats 4000000 in
set_option maxRecDepth 100000 in
theorem more_any (n : Nat) (hn : n < 4294967296) (s : ByteArray) (hs : s.size < 4611686018427387904) (w : World) :
    Calls Try.prog 59 #[.int .u32 n, .string s] w fun e w' => e = .returned (.int .u32 (more n s.data.toList : Nat)) ∧ Below w.heap.size w w' := by
  obtain ⟨zv, zs⟩ := zero_of_info (P := Try.prog) (t := 101) (v := .agg (cl (tabs 0))) (n := 256) (by kernel_rfl)
  have tT := Try.underlying101
  have HM := hidm (show more n s.data.toList = 4294967295 - run (4294967295 - n) s.data.toList from rfl)
  have hnot := not32 n hn
  go_enter Try.func59, Try.ntmps59
  go_wp2_with fail
  refine (sums_any w).mono ?_
  rintro e w1 ⟨rfl, hb⟩
  have HB1 := hidm hb
  clear hb
  obtain ⟨Z, hZ⟩ : ∃ Z, Z = cl (tabs 0) := ⟨_, rfl⟩
  obtain ⟨C, hC⟩ : ∃ C, C = cl (tabs 8) := ⟨_, rfl⟩
  have hi : (Try.prog.info? 101).map (·.size) = some C.size := by rw [hC, cl_size, tabs_len]; exact zs
  have hC1 : C.all (·.oneCell') = true := by rw [hC]; exact cl_one _
  have hCs : C.size = 256 := by rw [hC, cl_size, tabs_len]
  have hsc := run_storeCells_new (P := Try.prog) w1 101 Z C hi (by rw [hCs, hZ, cl_size, tabs_len]) hC1
  rw [← hZ] at zv
  rw [← hC]
  have HZ := hidm hZ
  have HC := hidm hC
  clear hZ hC
  have hrun := fun k => run_lt (n := 4294967295 - n) (by omega) (s.data.toList.take k)
  have HRN := hidm hrun
  have hcells : Hid (∀ y, y < 256 → (w1.alloc (.cells C 101)).cell? ⟨w1.heap.size, y, none⟩ = some (.int .u32 (tab y : Nat))) := by
    refine hidm ?_
    intro y hy
    rw [cell_of_row _ _ y _ _ (0, 0) (heap_alloc_last w1 _), HC.out, cl_at, tab_at y hy]; rfl
  clear hrun hC1 hi zs tT
  go_wp2_with fail
  clear hsc zv hCs
  clear hnot
  obtain ⟨W, hW⟩ : ∃ W, W = w1.alloc (.cells C 101) := ⟨_, rfl⟩
  rw [← hW] at hcells ⊢
  have HW := hidm hW
  clear hW
  go_loop [6, 13] (fun nn ii => ∃ k m : Nat, k ≤ s.size ∧ ii = .int .i64 k ∧ m < 4294967296 ∧ nn = .int .u32 m ∧ Hid (m = run (4294967295 - n) (s.data.toList.take k))) (fun _ ii => s.size - (intOf ii).toNat)
  case atStart => exact ⟨0, 4294967295 - n, Nat.zero_le _, rfl, by omega, rfl, hidm rfl⟩
  case round =>
    obtain ⟨k, m, hk, rfl, hm, rfl, HR⟩ := hrel
    by_cases hlt : k < s.size
    · obtain ⟨c, hc⟩ : ∃ c : UInt8, s[k] = c := ⟨_, rfl⟩
      have hcl := c.toNat_lt
      have hx8 := u8_xor_nat (m % 256) c.toNat (by omega) (by omega)
      obtain ⟨y, hy⟩ : ∃ y, y = m % 256 ^^^ c.toNat := ⟨_, rfl⟩
      have hy8 : y < 256 := by rw [hy]; exact Nat.xor_lt_two_pow (n := 8) (by omega) (by omega)
      have hcell := hcells.out y hy8
      have htl : tab y < 4294967296 := hvs_lt (by omega)
      have hx32 := u32_xor_nat (m / 256) (tab y) (by omega) htl
      have hst := stp_eq m c
      rw [← hy] at hx8 hst
      rw [← hst] at hx32
      have HS : Hid (stp m c = run (4294967295 - n) (s.data.toList.take (k + 1))) := by
        refine hidm ?_
        rw [take_succ' s k hlt, run_snoc, ← HR.out, hc]
      have hsl := stp_lt hm c
      rw [show ((m % 256 : Nat) : Int) = (m : Int) % 256 by omega] at hx8
      rw [show ((m / 256 : Nat) : Int) = (m : Int) / 256 by omega] at hx32
      obtain ⟨q, hq⟩ : ∃ q, q = tab y := ⟨_, rfl⟩
      rw [← hq] at hcell hx32
      obtain ⟨z, hz⟩ : ∃ z, z = stp m c := ⟨_, rfl⟩
      rw [← hz] at hx32 HS hsl
      clear hy hst hq hz htl
      go_wp2_with fail
      go_round
      case rel => exact ⟨k + 1, z, by omega, by go_num, hsl, rfl, HS⟩
      case measure => simp [intOf]; omega
    · obtain rfl : k = s.size := by omega
      have hnn := not32 m hm
      have hmm := hidm (show 4294967295 - m = more n s.data.toList by rw [HM.out, HR.out, List.take_of_length_le (by simp)])
      have hnl : ¬ (s.size : Int) < s.size := by omega
      clear hlt
      go_wp2_with fail
      go_ret
      refine ⟨?_, ?_⟩
      · rw [← hmm.out]; rfl
      · rw [HW.out]; exact HB1.out.alloc HB1.out.size _
end Crc
end Go.Proofs.Ytpamffheapnoaaa
