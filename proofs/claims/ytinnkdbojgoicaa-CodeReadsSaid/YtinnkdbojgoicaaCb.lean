/- The writers of package code: Int, Text, oneByte, eightBytes. No condition but that a text's length is below 2^63 - 16. -/
import Derived.Test.YtinnkdbojgoicaaCa
import Derived.Laws.BitsAllLaws
namespace Go.Proofs.Ytinnkdbojgoicaa
open Go.RowKit
namespace Cod
theorem xor_full (b : Nat) (hb : b < 18446744073709551616) : 18446744073709551615 ^^^ b = 18446744073709551615 - b := by
  have e : 18446744073709551615 - b = 2 ^ 64 - (b + 1) := by
    have : (2 : Nat) ^ 64 = 18446744073709551616 := by decide
    omega
  have e2 : 18446744073709551615 = 2 ^ 64 - 1 := by decide
  rw [e]
  apply Nat.eq_of_testBit_eq
  intro i
  rw [Nat.testBit_two_pow_sub_succ hb, Nat.testBit_xor, e2, Nat.testBit_two_pow_sub_one]
  by_cases h : i < 64
  · simp [h]
  · have : b.testBit i = false := Nat.testBit_lt_two_pow (Nat.lt_of_lt_of_le hb (by
      have : (18446744073709551616 : Nat) = 2 ^ 64 := by decide
      rw [this]; exact Nat.pow_le_pow_right (by omega) (by omega)))
    simp [h, this]
theorem zig_neg (n : Int) (h0 : -9223372036854775808 ≤ n) (hn : n < 0) : bits .xor .u64 IntKind.u64.max (IntKind.u64.wrap (2 * IntKind.u64.wrap n)) = (zig n : Int) := by
  have e : IntKind.u64.wrap (2 * IntKind.u64.wrap n) = ((2 * n + 18446744073709551616).toNat : Int) := by
    simp only [IntKind.wrap_u64]; omega
  have e2 : IntKind.u64.max = ((18446744073709551615 : Nat) : Int) := by decide
  rw [e, e2, u64_xor_nat _ _ (by omega) (by omega), xor_full _ (by omega)]
  unfold zig; rw [if_neg (by omega)]; omega
set_option maxHeartbeats 1000000 in
theorem int_any (n : Int) (h0 : -9223372036854775808 ≤ n) (h1 : n ≤ 9223372036854775807) (w : World) :
    Calls Try.prog 37 #[.int .i64 n] w fun e w' => e = .returned (.string (S (iB n))) ∧ Below w.heap.size w w' := by
  rcases Int.lt_or_le n 0 with hn | hn
  · have hz := hidm (zig_neg n h0 hn)
    have hu := uint_any (zig n) (zig_lt h0 h1) w
    rw [← hz.out] at hu
    go_enter Try.func37, Try.ntmps37
    go_wp2_with fail
    refine hu.mono ?_
    rintro e w' ⟨rfl, hb⟩
    go_wp2_with fail
    go_ret
    exact ⟨rfl, hb⟩
  · have hz : (2 * n) = ((zig n : Nat) : Int) := by unfold zig; rw [if_pos hn]; omega
    have HZ := hidm hz
    have hu := uint_any (zig n) (zig_lt h0 h1) w
    rw [← hz] at hu
    clear hz
    go_enter Try.func37, Try.ntmps37
    go_wp2_with fail
    refine hu.mono ?_
    rintro e w' ⟨rfl, hb⟩
    go_wp2_with fail
    go_ret
    exact ⟨rfl, hb⟩
theorem S_tB (t : ByteArray) : S (uB t.size) ++ t = S (tB t.data.toList) := by
  have : t.size = t.data.toList.length := (Array.length_toList).symm
  conv => lhs; rhs; rw [← S_of t]
  rw [S_append]; unfold tB; rw [this]
theorem text_any (t : ByteArray) (ht : t.size ≤ 9223372036854775700) (w : World) :
    Calls Try.prog 38 #[.string t] w fun e w' => e = .returned (.string (S (tB t.data.toList))) ∧ Below w.heap.size w w' := by
  have hl := uB_ten t.size (by omega)
  have hn : ¬ 9223372036854775807 < (uB t.size).length + t.size := by omega
  go_enter Try.func38, Try.ntmps38
  go_wp2_with fail
  refine (uint_any t.size (by omega) _).mono ?_
  rintro e w' ⟨rfl, hb⟩
  go_wp2_with fail
  go_ret
  exact ⟨congrArg (fun x => Ending.returned (.string x)) (S_tB t), hb⟩
set_option maxRecDepth 100000 in
theorem onebyte_any (n : Nat) (hn : n < 256) (w : World) :
    Calls Try.prog 62 #[.int .i64 n] w fun e w' => e = .returned (.string (S [n.toUInt8])) ∧ Below w.heap.size w w' := by
  have hc := run_convert_bytes_back (P := Try.prog) (w.alloc (.cells #[.int .u8 n] 5)) 22 9 5 ⟨w.heap.size, 0, none⟩ 1 [n.toUInt8] Try.underlying22 Try.underlying5 Try.underlying9 (by
    intro j hj
    have hj0 : j = 0 := by simpa using hj
    subst hj0
    show World.cell? _ ⟨w.heap.size, 0, none⟩ = some (.int .u8 (n.toUInt8.toNat : Int))
    rw [toNat_lt hn]
    simp [go_sem])
  have HC : (convert 22 9 (.slice (some ⟨w.heap.size, 0, none⟩) 1 1)).run Try.prog (w.alloc (.cells #[.int .u8 n] 5)) = .ok (.string (S [n.toUInt8])) (w.alloc (.cells #[.int .u8 n] 5)) := hc
  clear hc
  go_enter Try.func62, Try.ntmps62
  go_wp2_with fail
  go_ret
  exact ⟨rfl, (Below.refl _ _).alloc (Nat.le_refl _) _⟩
/-- A number's eight bytes, the highest first, those that are written by the time that the shift is 56 - 8 i. -/
def eTo (n i : Nat) : List UInt8 := (List.range i).map fun j => (n / 2 ^ (56 - 8 * j)).toUInt8
def eB (n : Nat) : List UInt8 := eTo n 8
theorem eTo_succ (n i : Nat) : eTo n (i + 1) = eTo n i ++ [(n / 2 ^ (56 - 8 * i)).toUInt8] := by
  unfold eTo; rw [List.range_succ, List.map_append]; rfl
theorem eTo_len (n i : Nat) : (eTo n i).length = i := by simp [eTo]
set_option maxHeartbeats 2000000 in
set_option maxRecDepth 100000 in
theorem eight_any (n : Nat) (w : World) :
    Calls Try.prog 80 #[.int .u64 n] w fun e w' => e = .returned (.string (S (eB n))) ∧ Below w.heap.size w w' := by
  obtain ⟨i0, hi, hz0, hz1, hz2⟩ := info_parts (P := Try.prog) (e := 5) (z := .int .u8 0) (size := 1) (bytes := 1) (by kernel_rfl)
  go_enter Try.func80, Try.ntmps80
  go_wp2_with fail
  go_loopw [3, 4] (fun v s wr => ∃ i : Nat, i ≤ 8 ∧ s = .int .i64 (56 - 8 * (i : Int)) ∧ wr.ownsRow w.heap.size 5 1 v i (Lib.byteCells (eTo n i)) ∧ Below w.heap.size w wr) (fun _ s _ => (intOf s + 8).toNat)
  case atStart => exact ⟨0, by omega, rfl, World.ownsRow_nil _ _ _ _, Below.refl _ _⟩
  case round =>
    obtain ⟨i, hi8, rfl, hown, hb⟩ := hrel
    have hb' := hb
    rcases Nat.lt_or_ge i 8 with hlt | hge
    · have h1 : (0 : Int) ≤ 56 - 8 * (i : Int) := by omega
      have hv : ((n : Int) / 2 ^ (56 - 8 * i) % 256) = ((n / 2 ^ (56 - 8 * i)).toUInt8.toNat : Int) := by
        show _ = ((n / 2 ^ (56 - 8 * i) % 256 : Nat) : Int)
        push_cast; rfl
      have HV := hidm hv
      clear hv
      go_wp2_with (at_builtin; refine wpList_append_own _ rfl _ _ 22 rfl w.heap.size 5 i0 (.int .u8 0) 1 1 Try.underlying22 hi hz0 hz1 hz2 rfl (by decide) _ _ _ rfl (hown.alloc _) ⟨wr.heap.size, 0, none⟩ 1 1 [.int .u8 ((n : Int) / 2 ^ (56 - 8 * i) % 256)] rfl rfl ?c1 ?c2 ?c3 ?c4 ?c5 ?_)
      case c1 => intro j u hj; obtain ⟨rfl, rfl⟩ := cell_one _ j u hj; simp [Addr.add]
      case c2 => first | rfl | (intro u hu; simp at hu; subst hu; rfl)
      case c3 => unfold maxLen; omega
      case c4 => omega
      case c5 => have := hb.size; simp; omega
      intro v' w1 hown' hgrow _
      have hB := (hb'.alloc hb'.size (.cells #[.int .u8 ((n : Int) / 2 ^ (56 - 8 * i) % 256)] 5)).grown hgrow (by have := hb'.size; simp; omega) (fun k hk => (hown.lt k hk).1)
      have hc : Lib.byteCells (eTo n i) ++ [.int .u8 ((n : Int) / 2 ^ (56 - 8 * i) % 256)] = Lib.byteCells (eTo n (i + 1)) := by
        rw [eTo_succ, Lib.byteCells_append, HV.out]; rfl
      rw [hc] at hown'
      clear hgrow hown hb hb' hc HV
      go_wp2
      go_roundw
      case rel => exact ⟨i + 1, by omega, by go_num, by simpa using hown', hB⟩
      case measure => simp [intOf]; omega
    · obtain rfl : i = 8 := by omega
      have hstr := str_of_own hown (by rw [eTo_len]) (by intro h; have := congrArg List.length h; rw [eTo_len] at this; cases this)
      clear hown hb'
      go_wp2_with fail
      go_ret
      exact ⟨rfl, hb⟩
end Cod
end Go.Proofs.Ytinnkdbojgoicaa
