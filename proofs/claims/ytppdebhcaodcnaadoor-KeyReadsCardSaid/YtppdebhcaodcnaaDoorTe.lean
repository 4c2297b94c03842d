/- The contract of the document's own Show (layer 1). Conditions: a word below 2^64. -/
import Derived.Test.YtppdebhcaodcnaaDoorTd
namespace Go.Proofs.YtppdebhcaodcnaaDoor
open Go.RowKit
namespace Ref
theorem chr_at (s : ByteArray) (i : Nat) (h : i < s.size) : s.extract i (i + 1) = Tx [s[i]] := by
  apply ByteArray.ext
  apply Array.toList_inj.1
  simp only [ByteArray.data_extract, Array.toList_extract, List.extract_eq_take_drop]
  rw [drop_one s i h, show i + 1 - i = 1 by omega]
  rfl
theorem hex2_low (c : UInt8) : lowhex c.toNat 2 = Txt.hex2 c := by
  have := c.toNat_lt
  unfold Txt.hex2
  simp only [lowhex]
  rw [show c.toNat / 16 ^ 1 % 16 = c.toNat / 16 by omega, show c.toNat / 16 ^ 0 % 16 = c.toNat % 16 by omega]
theorem bits_low16 (n : Nat) : Tx (102 :: lowhex n 16) = Tx (Txt.showBits n) := by
  congr 2
  unfold Txt.byteAt Txt.hex2
  simp only [lowhex, List.range_succ, List.range_zero, List.nil_append, List.flatMap_cons, List.flatMap_nil, List.append_nil, List.cons_append, UInt8.toNat_ofNat', Nat.toUInt8_eq]
  rw [show n / 2 ^ (56 - 8 * 0) % 2 ^ 8 / 16 = n / 16 ^ 15 % 16 by omega, show n / 2 ^ (56 - 8 * 0) % 2 ^ 8 % 16 = n / 16 ^ 14 % 16 by omega, show n / 2 ^ (56 - 8 * 1) % 2 ^ 8 / 16 = n / 16 ^ 13 % 16 by omega, show n / 2 ^ (56 - 8 * 1) % 2 ^ 8 % 16 = n / 16 ^ 12 % 16 by omega, show n / 2 ^ (56 - 8 * 2) % 2 ^ 8 / 16 = n / 16 ^ 11 % 16 by omega, show n / 2 ^ (56 - 8 * 2) % 2 ^ 8 % 16 = n / 16 ^ 10 % 16 by omega, show n / 2 ^ (56 - 8 * 3) % 2 ^ 8 / 16 = n / 16 ^ 9 % 16 by omega, show n / 2 ^ (56 - 8 * 3) % 2 ^ 8 % 16 = n / 16 ^ 8 % 16 by omega, show n / 2 ^ (56 - 8 * 4) % 2 ^ 8 / 16 = n / 16 ^ 7 % 16 by omega, show n / 2 ^ (56 - 8 * 4) % 2 ^ 8 % 16 = n / 16 ^ 6 % 16 by omega, show n / 2 ^ (56 - 8 * 5) % 2 ^ 8 / 16 = n / 16 ^ 5 % 16 by omega, show n / 2 ^ (56 - 8 * 5) % 2 ^ 8 % 16 = n / 16 ^ 4 % 16 by omega, show n / 2 ^ (56 - 8 * 6) % 2 ^ 8 / 16 = n / 16 ^ 3 % 16 by omega, show n / 2 ^ (56 - 8 * 6) % 2 ^ 8 % 16 = n / 16 ^ 2 % 16 by omega, show n / 2 ^ (56 - 8 * 7) % 2 ^ 8 / 16 = n / 16 ^ 1 % 16 by omega, show n / 2 ^ (56 - 8 * 7) % 2 ^ 8 % 16 = n / 16 ^ 0 % 16 by omega]
set_option maxHeartbeats 4000000 in
set_option maxRecDepth 100000 in
theorem show_wrong (k n : Int) (b : Nat) (s : ByteArray) (hb : b < 18446744073709551616) (w : World) (hr : Val.rightB k n b s = false) : Calls Tryd.prog 39 #[.agg #[.int .i64 k, .int .i64 n, .int .u64 b, .string s]] w fun e w' => e = .returned (.string ⟨#[]⟩) ∧ Below w.heap.size w w' := by
  have T0 := Lib.hid (Rd.Box.new w k n b s)
  have B0 := Lib.hid ((Below.refl w.heap.size w).alloc (Nat.le_refl _) (.cells #[.int .i64 k, .int .i64 n, .int .u64 b, .string s] 25))
  have Z0 : w.heap.size ≤ (w.alloc (.cells #[.int .i64 k, .int .i64 n, .int .u64 b, .string s] 25)).heap.size := by simp
  have ca := fun u => right_any k n b s hb u
  rw [hr] at ca
  clear hr
  go_enter Tryd.func39, Tryd.ntmps39
  go_wp2_with fail
  refine (ca _).mono ?_
  rintro e w1 ⟨rfl, hbn⟩
  have T1 := Lib.hid (T0.out.below hbn)
  have B1 := Lib.hid (B0.out.trans (hbn.mono Z0))
  clear hbn T0 B0 Z0 ca
  have p0 := T1.out.c0
  have p1 := T1.out.c1
  have p2 := T1.out.c2
  have p3 := T1.out.c3
  clear p0 p1 p2 p3
  go_wp2_with fail
  go_ret
  exact ⟨rfl, B1.out⟩
set_option maxHeartbeats 4000000 in
set_option maxRecDepth 100000 in
theorem show_null (n : Int) (b : Nat) (s : ByteArray) (hb : b < 18446744073709551616) (w : World) (hr : Val.rightB 0 n b s = true) : Calls Tryd.prog 39 #[.agg #[.int .i64 0, .int .i64 n, .int .u64 b, .string s]] w fun e w' => e = .returned (.string ⟨#[110, 117, 108, 108]⟩) ∧ Below w.heap.size w w' := by
  have T0 := Lib.hid (Rd.Box.new w 0 n b s)
  have B0 := Lib.hid ((Below.refl w.heap.size w).alloc (Nat.le_refl _) (.cells #[.int .i64 0, .int .i64 n, .int .u64 b, .string s] 25))
  have Z0 : w.heap.size ≤ (w.alloc (.cells #[.int .i64 0, .int .i64 n, .int .u64 b, .string s] 25)).heap.size := by simp
  have ca := fun u => right_any 0 n b s hb u
  rw [hr] at ca
  clear hr
  go_enter Tryd.func39, Tryd.ntmps39
  go_wp2_with fail
  refine (ca _).mono ?_
  rintro e w1 ⟨rfl, hbn⟩
  have T1 := Lib.hid (T0.out.below hbn)
  have B1 := Lib.hid (B0.out.trans (hbn.mono Z0))
  clear hbn T0 B0 Z0 ca
  have p0 := T1.out.c0
  have p1 := T1.out.c1
  have p2 := T1.out.c2
  have p3 := T1.out.c3
  go_wp2_with fail
  go_ret
  exact ⟨rfl, B1.out⟩
set_option maxHeartbeats 4000000 in
set_option maxRecDepth 100000 in
theorem show_bool0 (b : Nat) (s : ByteArray) (hb : b < 18446744073709551616) (w : World) (hr : Val.rightB 1 0 b s = true) : Calls Tryd.prog 39 #[.agg #[.int .i64 1, .int .i64 0, .int .u64 b, .string s]] w fun e w' => e = .returned (.string ⟨#[102, 97, 108, 115, 101]⟩) ∧ Below w.heap.size w w' := by
  have T0 := Lib.hid (Rd.Box.new w 1 0 b s)
  have B0 := Lib.hid ((Below.refl w.heap.size w).alloc (Nat.le_refl _) (.cells #[.int .i64 1, .int .i64 0, .int .u64 b, .string s] 25))
  have Z0 : w.heap.size ≤ (w.alloc (.cells #[.int .i64 1, .int .i64 0, .int .u64 b, .string s] 25)).heap.size := by simp
  have ca := fun u => right_any 1 0 b s hb u
  rw [hr] at ca
  clear hr
  go_enter Tryd.func39, Tryd.ntmps39
  go_wp2_with fail
  refine (ca _).mono ?_
  rintro e w1 ⟨rfl, hbn⟩
  have T1 := Lib.hid (T0.out.below hbn)
  have B1 := Lib.hid (B0.out.trans (hbn.mono Z0))
  clear hbn T0 B0 Z0 ca
  have p0 := T1.out.c0
  have p1 := T1.out.c1
  have p2 := T1.out.c2
  have p3 := T1.out.c3
  have hz := lt_of_block T1.out
  go_wp2_with fail
  go_ret
  exact ⟨rfl, B1.out.alloc B1.out.size _⟩
set_option maxHeartbeats 4000000 in
set_option maxRecDepth 100000 in
theorem show_bool1 (b : Nat) (s : ByteArray) (hb : b < 18446744073709551616) (w : World) (hr : Val.rightB 1 1 b s = true) : Calls Tryd.prog 39 #[.agg #[.int .i64 1, .int .i64 1, .int .u64 b, .string s]] w fun e w' => e = .returned (.string ⟨#[116, 114, 117, 101]⟩) ∧ Below w.heap.size w w' := by
  have T0 := Lib.hid (Rd.Box.new w 1 1 b s)
  have B0 := Lib.hid ((Below.refl w.heap.size w).alloc (Nat.le_refl _) (.cells #[.int .i64 1, .int .i64 1, .int .u64 b, .string s] 25))
  have Z0 : w.heap.size ≤ (w.alloc (.cells #[.int .i64 1, .int .i64 1, .int .u64 b, .string s] 25)).heap.size := by simp
  have ca := fun u => right_any 1 1 b s hb u
  rw [hr] at ca
  clear hr
  go_enter Tryd.func39, Tryd.ntmps39
  go_wp2_with fail
  refine (ca _).mono ?_
  rintro e w1 ⟨rfl, hbn⟩
  have T1 := Lib.hid (T0.out.below hbn)
  have B1 := Lib.hid (B0.out.trans (hbn.mono Z0))
  clear hbn T0 B0 Z0 ca
  have p0 := T1.out.c0
  have p1 := T1.out.c1
  have p2 := T1.out.c2
  have p3 := T1.out.c3
  have hz := lt_of_block T1.out
  go_wp2_with fail
  go_ret
  exact ⟨rfl, B1.out.alloc B1.out.size _⟩
set_option maxHeartbeats 4000000 in
set_option maxRecDepth 100000 in
theorem show_int (n : Int) (b : Nat) (s : ByteArray) (hb : b < 18446744073709551616) (w : World) (hr : Val.rightB 2 n b s = true) (h0 : -9223372036854775808 ≤ n) (h1 : n ≤ 9223372036854775807) : Calls Tryd.prog 39 #[.agg #[.int .i64 2, .int .i64 n, .int .u64 b, .string s]] w fun e w' => e = .returned (.string (Tx (Lib.itoa n))) ∧ Below w.heap.size w w' := by
  have cd := fun u => digits_any n h0 h1 u
  have T0 := Lib.hid (Rd.Box.new w 2 n b s)
  have B0 := Lib.hid ((Below.refl w.heap.size w).alloc (Nat.le_refl _) (.cells #[.int .i64 2, .int .i64 n, .int .u64 b, .string s] 25))
  have Z0 : w.heap.size ≤ (w.alloc (.cells #[.int .i64 2, .int .i64 n, .int .u64 b, .string s] 25)).heap.size := by simp
  have ca := fun u => right_any 2 n b s hb u
  rw [hr] at ca
  clear hr
  go_enter Tryd.func39, Tryd.ntmps39
  go_wp2_with fail
  refine (ca _).mono ?_
  rintro e w1 ⟨rfl, hbn⟩
  have T1 := Lib.hid (T0.out.below hbn)
  have B1 := Lib.hid (B0.out.trans (hbn.mono Z0))
  clear hbn T0 B0 Z0 ca
  have p0 := T1.out.c0
  have p1 := T1.out.c1
  have p2 := T1.out.c2
  have p3 := T1.out.c3
  go_wp2_with fail
  refine (cd _).mono ?_
  rintro e w2 ⟨rfl, hbn⟩
  have B2 := Lib.hid (B1.out.trans (hbn.mono B1.out.size))
  clear hbn
  go_wp2_with fail
  go_ret
  exact ⟨rfl, B2.out⟩
set_option maxHeartbeats 4000000 in
set_option maxRecDepth 100000 in
theorem show_float (n : Int) (b : Nat) (s : ByteArray) (hb : b < 18446744073709551616) (w : World) (hr : Val.rightB 3 n b s = true) : Calls Tryd.prog 39 #[.agg #[.int .i64 3, .int .i64 n, .int .u64 b, .string s]] w fun e w' => e = .returned (.string (Tx (Txt.showBits b))) ∧ Below w.heap.size w w' := by
  obtain ⟨f, hf⟩ : ∃ f, f = Tx (lowhex b 16) := ⟨_, rfl⟩
  have ch : ∀ u, Calls Tryd.prog 70 #[.int .u64 b, .int .i64 16] u fun e w' => e = .returned (.string (Tx (lowhex b 16))) ∧ u = w' := fun u => hex_any b 16 hb (by omega) u
  rw [← hf] at ch
  have hfs : f.size ≤ 16 := by rw [hf, Tx_size, lowhex_len]; omega
  have hl : ¬ 9223372036854775807 < 1 + f.size := by omega
  have HF : Hid ((⟨#[102]⟩ : ByteArray) ++ f = Tx (Txt.showBits b)) := Lib.hid (by rw [hf, ← bits_low16]; exact Tx_append [102] _)
  clear hf
  have T0 := Lib.hid (Rd.Box.new w 3 n b s)
  have B0 := Lib.hid ((Below.refl w.heap.size w).alloc (Nat.le_refl _) (.cells #[.int .i64 3, .int .i64 n, .int .u64 b, .string s] 25))
  have Z0 : w.heap.size ≤ (w.alloc (.cells #[.int .i64 3, .int .i64 n, .int .u64 b, .string s] 25)).heap.size := by simp
  have ca := fun u => right_any 3 n b s hb u
  rw [hr] at ca
  clear hr
  go_enter Tryd.func39, Tryd.ntmps39
  go_wp2_with fail
  refine (ca _).mono ?_
  rintro e w1 ⟨rfl, hbn⟩
  have T1 := Lib.hid (T0.out.below hbn)
  have B1 := Lib.hid (B0.out.trans (hbn.mono Z0))
  clear hbn T0 B0 Z0 ca
  have p0 := T1.out.c0
  have p1 := T1.out.c1
  have p2 := T1.out.c2
  have p3 := T1.out.c3
  go_wp2_with fail
  refine (ch _).mono ?_
  rintro e w2 ⟨rfl, rfl⟩
  go_wp2_with fail
  go_ret
  exact ⟨congrArg (fun q => Ending.returned (.string q)) HF.out, B1.out⟩
set_option maxHeartbeats 4000000 in
set_option maxRecDepth 100000 in
theorem show_bytes (n : Int) (b : Nat) (s : ByteArray) (hb : b < 18446744073709551616) (w : World) (hr : Val.rightB 4 n b s = true) (hs : s.size ≤ 4096) : Calls Tryd.prog 39 #[.agg #[.int .i64 4, .int .i64 n, .int .u64 b, .string s]] w fun e w' => e = .returned (.string (Tx (Txt.showBytes s.data.toList))) ∧ Below w.heap.size w w' := by
  have T0 := Lib.hid (Rd.Box.new w 4 n b s)
  have B0 := Lib.hid ((Below.refl w.heap.size w).alloc (Nat.le_refl _) (.cells #[.int .i64 4, .int .i64 n, .int .u64 b, .string s] 25))
  have Z0 : w.heap.size ≤ (w.alloc (.cells #[.int .i64 4, .int .i64 n, .int .u64 b, .string s] 25)).heap.size := by simp
  have ca := fun u => right_any 4 n b s hb u
  rw [hr] at ca
  clear hr
  go_enter Tryd.func39, Tryd.ntmps39
  go_wp2_with fail
  refine (ca _).mono ?_
  rintro e w1 ⟨rfl, hbn⟩
  have T1 := Lib.hid (T0.out.below hbn)
  have B1 := Lib.hid (B0.out.trans (hbn.mono Z0))
  clear hbn T0 B0 Z0 ca
  have p0 := T1.out.c0
  have p1 := T1.out.c1
  have p2 := T1.out.c2
  have p3 := T1.out.c3
  go_wp2_with fail
  go_loopw [3, 4] (fun ss ii wr => ∃ (i : Nat) (t : ByteArray), ii = .int .i64 i ∧ ss = .string t ∧ i ≤ s.size ∧ t.size ≤ 1 + 4 * s.size ∧ Hid (t = Tx (Txt.bytesTo s.data.toList i)) ∧ Hid (wr = w1)) (fun _ ii _ => s.size - (intOf ii).toNat)
  case atStart => exact ⟨0, _, rfl, rfl, by omega, by show 1 ≤ _; omega, Lib.hid (by simp [Txt.bytesTo]), Lib.hid rfl⟩
  case round =>
    obtain ⟨i, t, rfl, rfl, hi, ht, HT, HW⟩ := hrel
    obtain rfl : w1 = wr := HW.out.symm
    rcases Nat.eq_or_lt_of_le hi with h1 | h1
    · have f1 : ¬ (i : Int) < (s.size : Int) := by omega
      have H1 := Lib.hid h1
      clear h1
      go_wp2_with fail
      go_ret
      refine ⟨congrArg (fun q => Ending.returned (.string q)) ?_, B1.out⟩
      rw [HT.out, H1.out]
      unfold Txt.showBytes
      rw [show s.data.toList.length = s.size by simp]
    · have f1 : (i : Int) < (s.size : Int) := by omega
      obtain ⟨c, hc⟩ : ∃ c : UInt8, s[i] = c := ⟨_, rfl⟩
      have hcl := c.toNat_lt
      have hlt : i < s.data.toList.length := by simpa using h1
      have hsu := Txt.bytesTo_succ s.data.toList i hlt
      rw [show s.data.toList[i] = c from hc] at hsu
      obtain ⟨f, hf⟩ : ∃ f, f = Tx (Txt.hex2 c) := ⟨_, rfl⟩
      have ch : ∀ u, Calls Tryd.prog 70 #[.int .u64 (c.toNat : Int), .int .i64 2] u fun e w' => e = .returned (.string (Tx (lowhex c.toNat 2))) ∧ u = w' := fun u => hex_any c.toNat 2 (by omega) (by omega) u
      rw [hex2_low, ← hf] at ch
      have hfs : f.size = 2 := by rw [hf, Tx_size]; rfl
      have HT2 : Hid (t ++ f = Tx (Txt.bytesTo s.data.toList (i + 1))) := Lib.hid (by rw [hsu, HT.out, hf, Tx_append])
      have HZ : (t ++ f).size ≤ 1 + 4 * s.size := by
        have := Txt.bytesTo_len s.data.toList (i + 1)
        rw [HT2.out, Tx_size]
        simp at this
        omega
      have hl : ¬ 9223372036854775807 < t.size + f.size := by omega
      clear hsu hf hfs hlt
      go_wp2_with fail
      refine (ch _).mono ?_
      rintro e w2 ⟨rfl, rfl⟩
      go_wp2_with fail
      go_roundw
      case rel => exact ⟨i + 1, t ++ f, by go_num, rfl, by omega, HZ, HT2, Lib.hid (by trivial)⟩
      case measure => simp [intOf]; omega
set_option maxHeartbeats 4000000 in
set_option maxRecDepth 100000 in
theorem show_text (n : Int) (b : Nat) (s : ByteArray) (hb : b < 18446744073709551616) (w : World) (hr : Val.rightB 5 n b s = true) (hs : s.size ≤ 4096) : Calls Tryd.prog 39 #[.agg #[.int .i64 5, .int .i64 n, .int .u64 b, .string s]] w fun e w' => e = .returned (.string (Tx (Txt.showText s.data.toList))) ∧ Below w.heap.size w w' := by
  have T0 := Lib.hid (Rd.Box.new w 5 n b s)
  have B0 := Lib.hid ((Below.refl w.heap.size w).alloc (Nat.le_refl _) (.cells #[.int .i64 5, .int .i64 n, .int .u64 b, .string s] 25))
  have Z0 : w.heap.size ≤ (w.alloc (.cells #[.int .i64 5, .int .i64 n, .int .u64 b, .string s] 25)).heap.size := by simp
  have ca := fun u => right_any 5 n b s hb u
  rw [hr] at ca
  clear hr
  go_enter Tryd.func39, Tryd.ntmps39
  go_wp2_with fail
  refine (ca _).mono ?_
  rintro e w1 ⟨rfl, hbn⟩
  have T1 := Lib.hid (T0.out.below hbn)
  have B1 := Lib.hid (B0.out.trans (hbn.mono Z0))
  clear hbn T0 B0 Z0 ca
  have p0 := T1.out.c0
  have p1 := T1.out.c1
  have p2 := T1.out.c2
  have p3 := T1.out.c3
  go_wp2_with fail
  go_loopw [3, 4] (fun ss ii wr => ∃ (i : Nat) (t : ByteArray), ii = .int .i64 i ∧ ss = .string t ∧ i ≤ s.size ∧ t.size ≤ 1 + 4 * s.size ∧ Hid (t = Tx (Txt.textTo s.data.toList i)) ∧ Hid (wr = w1)) (fun _ ii _ => s.size - (intOf ii).toNat)
  case atStart => exact ⟨0, _, rfl, rfl, by omega, by show 1 ≤ _; omega, Lib.hid (by simp [Txt.textTo]), Lib.hid rfl⟩
  case round =>
    obtain ⟨i, t, rfl, rfl, hi, ht, HT, HW⟩ := hrel
    obtain rfl : w1 = wr := HW.out.symm
    rcases Nat.eq_or_lt_of_le hi with h1 | h1
    · have f1 : ¬ (i : Int) < (s.size : Int) := by omega
      have H1 := Lib.hid h1
      clear h1
      have hl : ¬ 9223372036854775807 < t.size + 1 := by omega
      go_wp2_with fail
      go_ret
      refine ⟨congrArg (fun q => Ending.returned (.string q)) ?_, B1.out⟩
      rw [HT.out, H1.out, show (⟨#[34]⟩ : ByteArray) = Tx [34] from rfl, Tx_append]
      unfold Txt.showText
      rw [show s.data.toList.length = s.size by simp]
    · have f1 : (i : Int) < (s.size : Int) := by omega
      obtain ⟨c, hc⟩ : ∃ c : UInt8, s[i] = c := ⟨_, rfl⟩
      have hcl := c.toNat_lt
      have hlt : i < s.data.toList.length := by simpa using h1
      have hsu := Txt.textTo_succ s.data.toList i hlt
      rw [show s.data.toList[i] = c from hc] at hsu
      have he34 : c = 34 ↔ c.toNat = 34 := by rw [← UInt8.toNat_inj]; rfl
      have he92 : c = 92 ↔ c.toNat = 92 := by rw [← UInt8.toNat_inj]; rfl
      have hlo : c < 32 ↔ c.toNat < 32 := by rw [UInt8.lt_iff_toNat_lt]; rfl
      have hhi : 126 < c ↔ 126 < c.toNat := by rw [UInt8.lt_iff_toNat_lt]; rfl
      by_cases h34 : c.toNat = 34
      · have hesc : c = 34 ∨ c = 92 := by rw [he34]; exact Or.inl h34
        have g1 : ((c.toNat : Int) == 34) = true := by simp; omega
        have g2 : ((c.toNat : Int) == 92) = false := by simp; omega
        clear he34 he92 hlo hhi h34
        obtain ⟨g, hg⟩ : ∃ g, g = Tx [c] := ⟨_, rfl⟩
        have hx := chr_at s i h1
        rw [hc, ← hg] at hx
        have hgs : g.size = 1 := by rw [hg, Tx_size]; rfl
        have hi1 : (i : Int) + 1 ≤ (s.size : Int) := by omega
        have hi2 : (i : Int) ≤ (i : Int) + 1 := by omega
        have hlet : Txt.letter c = [92, c] := by unfold Txt.letter; rw [if_pos hesc]
        rw [hlet] at hsu
        have hl1 : ¬ 9223372036854775807 < t.size + 1 := by omega
        have hl2 : ¬ 9223372036854775807 < (t ++ (⟨#[92]⟩ : ByteArray)).size + g.size := by rw [ByteArray.size_append]; show ¬ 9223372036854775807 < t.size + 1 + g.size; omega
        have hl3 : ¬ 9223372036854775807 < t.size + 1 + g.size := by omega
        have HT2 : Hid (t ++ (⟨#[92]⟩ : ByteArray) ++ g = Tx (Txt.textTo s.data.toList (i + 1))) := Lib.hid (by rw [hsu, HT.out]; rw [hg, show (⟨#[92]⟩ : ByteArray) = Tx [92] from rfl, Tx_append, Tx_append, List.append_assoc]; rfl)
        have HZ : (t ++ (⟨#[92]⟩ : ByteArray) ++ g).size ≤ 1 + 4 * s.size := by
          have := Txt.textTo_len s.data.toList (i + 1)
          rw [HT2.out, Tx_size]
          simp at this
          omega
        clear hsu hg hgs hlt hlet hesc
        go_wp2_with fail
        go_roundw
        case rel => exact ⟨i + 1, t ++ (⟨#[92]⟩ : ByteArray) ++ g, by go_num, rfl, by omega, HZ, HT2, Lib.hid (by trivial)⟩
        case measure => simp [intOf]; omega
      · by_cases h92 : c.toNat = 92
        · have hesc : c = 34 ∨ c = 92 := by rw [he92]; exact Or.inr h92
          have g1 : ((c.toNat : Int) == 34) = false := by simp; omega
          have g2 : ((c.toNat : Int) == 92) = true := by simp; omega
          clear he34 he92 hlo hhi h34 h92
          obtain ⟨g, hg⟩ : ∃ g, g = Tx [c] := ⟨_, rfl⟩
          have hx := chr_at s i h1
          rw [hc, ← hg] at hx
          have hgs : g.size = 1 := by rw [hg, Tx_size]; rfl
          have hi1 : (i : Int) + 1 ≤ (s.size : Int) := by omega
          have hi2 : (i : Int) ≤ (i : Int) + 1 := by omega
          have hlet : Txt.letter c = [92, c] := by unfold Txt.letter; rw [if_pos hesc]
          rw [hlet] at hsu
          have hl1 : ¬ 9223372036854775807 < t.size + 1 := by omega
          have hl2 : ¬ 9223372036854775807 < (t ++ (⟨#[92]⟩ : ByteArray)).size + g.size := by rw [ByteArray.size_append]; show ¬ 9223372036854775807 < t.size + 1 + g.size; omega
          have hl3 : ¬ 9223372036854775807 < t.size + 1 + g.size := by omega
          have HT2 : Hid (t ++ (⟨#[92]⟩ : ByteArray) ++ g = Tx (Txt.textTo s.data.toList (i + 1))) := Lib.hid (by rw [hsu, HT.out]; rw [hg, show (⟨#[92]⟩ : ByteArray) = Tx [92] from rfl, Tx_append, Tx_append, List.append_assoc]; rfl)
          have HZ : (t ++ (⟨#[92]⟩ : ByteArray) ++ g).size ≤ 1 + 4 * s.size := by
            have := Txt.textTo_len s.data.toList (i + 1)
            rw [HT2.out, Tx_size]
            simp at this
            omega
          clear hsu hg hgs hlt hlet hesc
          go_wp2_with fail
          go_roundw
          case rel => exact ⟨i + 1, t ++ (⟨#[92]⟩ : ByteArray) ++ g, by go_num, rfl, by omega, HZ, HT2, Lib.hid (by trivial)⟩
          case measure => simp [intOf]; omega
        · have hesc : ¬ (c = 34 ∨ c = 92) := by rw [he34, he92]; omega
          by_cases hl : c.toNat < 32
          · have hrange : c < 32 ∨ 126 < c := by rw [hlo]; exact Or.inl hl
            have g1 : ((c.toNat : Int) == 34) = false := by simp; omega
            have g2 : ((c.toNat : Int) == 92) = false := by simp; omega
            have g3 : (c.toNat : Int) < 32 := by omega
            have g4 : ¬ (126 : Int) < (c.toNat : Int) := by omega
            clear he34 he92 hlo hhi h34 h92
            obtain ⟨f, hf⟩ : ∃ f, f = Tx (Txt.hex2 c) := ⟨_, rfl⟩
            have ch : ∀ u, Calls Tryd.prog 70 #[.int .u64 (c.toNat : Int), .int .i64 2] u fun e w' => e = .returned (.string (Tx (lowhex c.toNat 2))) ∧ u = w' := fun u => hex_any c.toNat 2 (by omega) (by omega) u
            rw [hex2_low, ← hf] at ch
            have hfs : f.size = 2 := by rw [hf, Tx_size]; rfl
            have hlet : Txt.letter c = [92, 120] ++ Txt.hex2 c := by unfold Txt.letter; rw [if_neg hesc, if_pos hrange]
            rw [hlet] at hsu
            have hl1 : ¬ 9223372036854775807 < t.size + 2 := by omega
            have hl2 : ¬ 9223372036854775807 < (t ++ (⟨#[92, 120]⟩ : ByteArray)).size + f.size := by rw [ByteArray.size_append]; show ¬ 9223372036854775807 < t.size + 2 + f.size; omega
            have hl3 : ¬ 9223372036854775807 < t.size + 2 + f.size := by omega
            have HT2 : Hid (t ++ (⟨#[92, 120]⟩ : ByteArray) ++ f = Tx (Txt.textTo s.data.toList (i + 1))) := Lib.hid (by rw [hsu, HT.out]; rw [hf, show (⟨#[92, 120]⟩ : ByteArray) = Tx [92, 120] from rfl, Tx_append, Tx_append, List.append_assoc])
            have HZ : (t ++ (⟨#[92, 120]⟩ : ByteArray) ++ f).size ≤ 1 + 4 * s.size := by
              have := Txt.textTo_len s.data.toList (i + 1)
              rw [HT2.out, Tx_size]
              simp at this
              omega
            clear hsu hf hfs hlt hlet hesc hrange
            go_wp2_with fail
            refine (ch _).mono ?_
            rintro e w2 ⟨rfl, rfl⟩
            go_wp2_with fail
            go_roundw
            case rel => exact ⟨i + 1, t ++ (⟨#[92, 120]⟩ : ByteArray) ++ f, by go_num, rfl, by omega, HZ, HT2, Lib.hid (by trivial)⟩
            case measure => simp [intOf]; omega
          · by_cases hh : 126 < c.toNat
            · have hrange : c < 32 ∨ 126 < c := by rw [hhi]; exact Or.inr hh
              have g1 : ((c.toNat : Int) == 34) = false := by simp; omega
              have g2 : ((c.toNat : Int) == 92) = false := by simp; omega
              have g3 : ¬ (c.toNat : Int) < 32 := by omega
              have g4 : (126 : Int) < (c.toNat : Int) := by omega
              clear he34 he92 hlo hhi h34 h92
              obtain ⟨f, hf⟩ : ∃ f, f = Tx (Txt.hex2 c) := ⟨_, rfl⟩
              have ch : ∀ u, Calls Tryd.prog 70 #[.int .u64 (c.toNat : Int), .int .i64 2] u fun e w' => e = .returned (.string (Tx (lowhex c.toNat 2))) ∧ u = w' := fun u => hex_any c.toNat 2 (by omega) (by omega) u
              rw [hex2_low, ← hf] at ch
              have hfs : f.size = 2 := by rw [hf, Tx_size]; rfl
              have hlet : Txt.letter c = [92, 120] ++ Txt.hex2 c := by unfold Txt.letter; rw [if_neg hesc, if_pos hrange]
              rw [hlet] at hsu
              have hl1 : ¬ 9223372036854775807 < t.size + 2 := by omega
              have hl2 : ¬ 9223372036854775807 < (t ++ (⟨#[92, 120]⟩ : ByteArray)).size + f.size := by rw [ByteArray.size_append]; show ¬ 9223372036854775807 < t.size + 2 + f.size; omega
              have hl3 : ¬ 9223372036854775807 < t.size + 2 + f.size := by omega
              have HT2 : Hid (t ++ (⟨#[92, 120]⟩ : ByteArray) ++ f = Tx (Txt.textTo s.data.toList (i + 1))) := Lib.hid (by rw [hsu, HT.out]; rw [hf, show (⟨#[92, 120]⟩ : ByteArray) = Tx [92, 120] from rfl, Tx_append, Tx_append, List.append_assoc])
              have HZ : (t ++ (⟨#[92, 120]⟩ : ByteArray) ++ f).size ≤ 1 + 4 * s.size := by
                have := Txt.textTo_len s.data.toList (i + 1)
                rw [HT2.out, Tx_size]
                simp at this
                omega
              clear hsu hf hfs hlt hlet hesc hrange
              go_wp2_with fail
              refine (ch _).mono ?_
              rintro e w2 ⟨rfl, rfl⟩
              go_wp2_with fail
              go_roundw
              case rel => exact ⟨i + 1, t ++ (⟨#[92, 120]⟩ : ByteArray) ++ f, by go_num, rfl, by omega, HZ, HT2, Lib.hid (by trivial)⟩
              case measure => simp [intOf]; omega
            · have hrange : ¬ (c < 32 ∨ 126 < c) := by rw [hlo, hhi]; omega
              have g1 : ((c.toNat : Int) == 34) = false := by simp; omega
              have g2 : ((c.toNat : Int) == 92) = false := by simp; omega
              have g3 : ¬ (c.toNat : Int) < 32 := by omega
              have g4 : ¬ (126 : Int) < (c.toNat : Int) := by omega
              clear he34 he92 hlo hhi h34 h92
              obtain ⟨g, hg⟩ : ∃ g, g = Tx [c] := ⟨_, rfl⟩
              have hx := chr_at s i h1
              rw [hc, ← hg] at hx
              have hgs : g.size = 1 := by rw [hg, Tx_size]; rfl
              have hi1 : (i : Int) + 1 ≤ (s.size : Int) := by omega
              have hi2 : (i : Int) ≤ (i : Int) + 1 := by omega
              have hlet : Txt.letter c = [c] := by unfold Txt.letter; rw [if_neg hesc, if_neg hrange]
              rw [hlet] at hsu
              have hl1 : ¬ 9223372036854775807 < t.size + g.size := by omega
              have HT2 : Hid (t ++ g = Tx (Txt.textTo s.data.toList (i + 1))) := Lib.hid (by rw [hsu, HT.out]; rw [hg, Tx_append])
              have HZ : (t ++ g).size ≤ 1 + 4 * s.size := by
                have := Txt.textTo_len s.data.toList (i + 1)
                rw [HT2.out, Tx_size]
                simp at this
                omega
              clear hsu hg hgs hlt hlet hesc hrange
              go_wp2_with fail
              go_roundw
              case rel => exact ⟨i + 1, t ++ g, by go_num, rfl, by omega, HZ, HT2, Lib.hid (by trivial)⟩
              case measure => simp [intOf]; omega
theorem show_any (k n : Int) (b : Nat) (s : ByteArray) (hb : b < 18446744073709551616) (h0 : -9223372036854775808 ≤ n) (h1 : n ≤ 9223372036854775807) (w : World) :
    Calls Tryd.prog 39 #[.agg #[.int .i64 k, .int .i64 n, .int .u64 b, .string s]] w fun e w' => e = .returned (.string (Tx (Val.showL k n b s))) ∧ Below w.heap.size w w' := by
  cases hr : Val.rightB k n b s
  · rw [show Val.showL k n b s = [] by unfold Val.showL; rw [if_pos hr]]
    exact show_wrong k n b s hb w hr
  · have hk := Val.right_kind hr
    have e : Val.showL k n b s = if k = 0 then [110, 117, 108, 108] else if k = 1 then Lib.formatBool (n == 1) else if k = 2 then Lib.itoa n else if k = 3 then Txt.showBits b else if k = 4 then Txt.showBytes s.data.toList else Txt.showText s.data.toList := by
      unfold Val.showL; rw [if_neg (by rw [hr]; simp)]
    rw [e]
    rcases hk with rfl | rfl | rfl | rfl | rfl | rfl
    · exact show_null n b s hb w hr
    · have hn : n = 0 ∨ n = 1 := by
        have h := hr
        unfold Val.rightB at h
        simp at h
        omega
      rcases hn with rfl | rfl
      · exact show_bool0 b s hb w hr
      · exact show_bool1 b s hb w hr
    · exact show_int n b s hb w hr h0 h1
    · exact show_float n b s hb w hr
    · exact show_bytes n b s hb w hr (Val.right_size hr (Or.inl rfl))
    · exact show_text n b s hb w hr (Val.right_size hr (Or.inr rfl))
end Ref
end Go.Proofs.YtppdebhcaodcnaaDoor
