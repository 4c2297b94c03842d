/- The writers and the reader of package code. Conditions: as each theorem says. -/
import Derived.Test.YtopmbhpjdmcabaaGreatCa
import Derived.Laws.BitsAllLaws
import Derived.Test.YtopmbhpjdmcabaaGreatCs
import Derived.Test.YtopmbhpjdmcabaaGreatShelf
import Derived.Laws.DeepNot64
namespace Go.Proofs.YtopmbhpjdmcabaaGreat
open Go.RowKit
namespace Cod
theorem xor_full (b : Nat) (hb : b < 18446744073709551616) : 18446744073709551615 ^^^ b = 18446744073709551615 - b := by
  have e : 18446744073709551615 - b = 2 ^ 64 - (b + 1) := by
    have : (2 : Nat) ^ 64 = 18446744073709551616 := by decide
    omega
  have e2 : 18446744073709551615 = 2 ^ 64 - 1 := by decide
  rw [e]
  apply Nat.eq_of_testBit_eq
  intro i
  rw [Nat.testBit_two_pow_sub_succ hb, Nat.testBit_xor, e2, Nat.testBit_two_pow_sub_one]
  by_cases h : i < 64
  · simp [h]
  · have : b.testBit i = false := Nat.testBit_lt_two_pow (Nat.lt_of_lt_of_le hb (by
      have : (18446744073709551616 : Nat) = 2 ^ 64 := by decide
      rw [this]; exact Nat.pow_le_pow_right (by omega) (by omega)))
    simp [h, this]
theorem zig_neg (n : Int) (h0 : -9223372036854775808 ≤ n) (hn : n < 0) : bits .xor .u64 IntKind.u64.max (IntKind.u64.wrap (2 * IntKind.u64.wrap n)) = (zig n : Int) := by
  have e : IntKind.u64.wrap (2 * IntKind.u64.wrap n) = ((2 * n + 18446744073709551616).toNat : Int) := by
    simp only [IntKind.wrap_u64]; omega
  have e2 : IntKind.u64.max = ((18446744073709551615 : Nat) : Int) := by decide
  rw [e, e2, u64_xor_nat _ _ (by omega) (by omega), xor_full _ (by omega)]
  unfold zig; rw [if_neg (by omega)]; omega
set_option maxHeartbeats 1000000 in
theorem int_any (n : Int) (h0 : -9223372036854775808 ≤ n) (h1 : n ≤ 9223372036854775807) (w : World) :
    Calls Tryz.prog 137 #[.int .i64 n] w fun e w' => e = .returned (.string (S (iB n))) ∧ Below w.heap.size w w' := by
  rcases Int.lt_or_le n 0 with hn | hn
  · have hz := hidm (zig_neg n h0 hn)
    have hu := uint_any (zig n) (zig_lt h0 h1) w
    rw [← hz.out] at hu
    go_enter Tryz.func137, Tryz.ntmps137
    go_wp2_with fail
    refine hu.mono ?_
    rintro e w' ⟨rfl, hb⟩
    go_wp2_with fail
    go_ret
    exact ⟨rfl, hb⟩
  · have hz : (2 * n) = ((zig n : Nat) : Int) := by unfold zig; rw [if_pos hn]; omega
    have HZ := hidm hz
    have hu := uint_any (zig n) (zig_lt h0 h1) w
    rw [← hz] at hu
    clear hz
    go_enter Tryz.func137, Tryz.ntmps137
    go_wp2_with fail
    refine hu.mono ?_
    rintro e w' ⟨rfl, hb⟩
    go_wp2_with fail
    go_ret
    exact ⟨rfl, hb⟩
theorem S_tB (t : ByteArray) : S (uB t.size) ++ t = S (tB t.data.toList) := by
  have : t.size = t.data.toList.length := (Array.length_toList).symm
  conv => lhs; rhs; rw [← S_of t]
  rw [S_append]; unfold tB; rw [this]
theorem text_any (t : ByteArray) (ht : t.size ≤ 9223372036854775700) (w : World) :
    Calls Tryz.prog 90 #[.string t] w fun e w' => e = .returned (.string (S (tB t.data.toList))) ∧ Below w.heap.size w w' := by
  have hl := uB_ten t.size (by omega)
  have hn : ¬ 9223372036854775807 < (uB t.size).length + t.size := by omega
  go_enter Tryz.func90, Tryz.ntmps90
  go_wp2_with fail
  refine (uint_any t.size (by omega) _).mono ?_
  rintro e w' ⟨rfl, hb⟩
  go_wp2_with fail
  go_ret
  exact ⟨congrArg (fun x => Ending.returned (.string x)) (S_tB t), hb⟩
set_option maxRecDepth 100000 in
theorem onebyte_any (n : Nat) (hn : n < 256) (w : World) :
    Calls Tryz.prog 129 #[.int .i64 n] w fun e w' => e = .returned (.string (S [n.toUInt8])) ∧ Below w.heap.size w w' := by
  have hc := run_convert_bytes_back (P := Tryz.prog) (w.alloc (.cells #[.int .u8 n] 5)) 88 9 5 ⟨w.heap.size, 0, none⟩ 1 [n.toUInt8] Tryz.underlying88 Tryz.underlying5 Tryz.underlying9 (by
    intro j hj
    have hj0 : j = 0 := by simpa using hj
    subst hj0
    show World.cell? _ ⟨w.heap.size, 0, none⟩ = some (.int .u8 (n.toUInt8.toNat : Int))
    rw [toNat_lt hn]
    simp [go_sem])
  have HC : (convert 88 9 (.slice (some ⟨w.heap.size, 0, none⟩) 1 1)).run Tryz.prog (w.alloc (.cells #[.int .u8 n] 5)) = .ok (.string (S [n.toUInt8])) (w.alloc (.cells #[.int .u8 n] 5)) := hc
  clear hc
  go_enter Tryz.func129, Tryz.ntmps129
  go_wp2_with fail
  go_ret
  exact ⟨rfl, (Below.refl _ _).alloc (Nat.le_refl _) _⟩
/-- A number's eight bytes, the highest first, those that are written by the time that the shift is 56 - 8 i. -/
def eTo (n i : Nat) : List UInt8 := (List.range i).map fun j => (n / 2 ^ (56 - 8 * j)).toUInt8
def eB (n : Nat) : List UInt8 := eTo n 8
theorem eTo_succ (n i : Nat) : eTo n (i + 1) = eTo n i ++ [(n / 2 ^ (56 - 8 * i)).toUInt8] := by
  unfold eTo; rw [List.range_succ, List.map_append]; rfl
theorem eTo_len (n i : Nat) : (eTo n i).length = i := by simp [eTo]
set_option maxHeartbeats 2000000 in
set_option maxRecDepth 100000 in
theorem eight_any (n : Nat) (w : World) :
    Calls Tryz.prog 138 #[.int .u64 n] w fun e w' => e = .returned (.string (S (eB n))) ∧ Below w.heap.size w w' := by
  obtain ⟨i0, hi, hz0, hz1, hz2⟩ := info_parts (P := Tryz.prog) (e := 5) (z := .int .u8 0) (size := 1) (bytes := 1) (by kernel_rfl)
  go_enter Tryz.func138, Tryz.ntmps138
  go_wp2_with fail
  go_loopw [3, 4] (fun v s wr => ∃ i : Nat, i ≤ 8 ∧ s = .int .i64 (56 - 8 * (i : Int)) ∧ wr.ownsRow w.heap.size 5 1 v i (Lib.byteCells (eTo n i)) ∧ Below w.heap.size w wr) (fun _ s _ => (intOf s + 8).toNat)
  case atStart => exact ⟨0, by omega, rfl, World.ownsRow_nil _ _ _ _, Below.refl _ _⟩
  case round =>
    obtain ⟨i, hi8, rfl, hown, hb⟩ := hrel
    have hb' := hb
    rcases Nat.lt_or_ge i 8 with hlt | hge
    · have h1 : (0 : Int) ≤ 56 - 8 * (i : Int) := by omega
      have hv : ((n : Int) / 2 ^ (56 - 8 * i) % 256) = ((n / 2 ^ (56 - 8 * i)).toUInt8.toNat : Int) := by
        show _ = ((n / 2 ^ (56 - 8 * i) % 256 : Nat) : Int)
        push_cast; rfl
      have HV := hidm hv
      clear hv
      go_wp2_with (at_builtin; refine wpList_append_own _ rfl _ _ 88 rfl w.heap.size 5 i0 (.int .u8 0) 1 1 Tryz.underlying88 hi hz0 hz1 hz2 rfl (by decide) _ _ _ rfl (hown.alloc _) ⟨wr.heap.size, 0, none⟩ 1 1 [.int .u8 ((n : Int) / 2 ^ (56 - 8 * i) % 256)] rfl rfl ?c1 ?c2 ?c3 ?c4 ?c5 ?_)
      case c1 => intro j u hj; obtain ⟨rfl, rfl⟩ := cell_one _ j u hj; simp [Addr.add]
      case c2 => first | rfl | (intro u hu; simp at hu; subst hu; rfl)
      case c3 => unfold maxLen; omega
      case c4 => omega
      case c5 => have := hb.size; simp; omega
      intro v' w1 hown' hgrow _
      have hB := (hb'.alloc hb'.size (.cells #[.int .u8 ((n : Int) / 2 ^ (56 - 8 * i) % 256)] 5)).grown hgrow (by have := hb'.size; simp; omega) (fun k hk => (hown.lt k hk).1)
      have hc : Lib.byteCells (eTo n i) ++ [.int .u8 ((n : Int) / 2 ^ (56 - 8 * i) % 256)] = Lib.byteCells (eTo n (i + 1)) := by
        rw [eTo_succ, Lib.byteCells_append, HV.out]; rfl
      rw [hc] at hown'
      clear hgrow hown hb hb' hc HV
      go_wp2
      go_roundw
      case rel => exact ⟨i + 1, by omega, by go_num, by simpa using hown', hB⟩
      case measure => simp [intOf]; omega
    · obtain rfl : i = 8 := by omega
      have hstr := str_of_own hown (by rw [eTo_len]) (by intro h; have := congrArg List.length h; rw [eTo_len] at this; cases this)
      clear hown hb'
      go_wp2_with fail
      go_ret
      exact ⟨rfl, hb⟩
end Cod
namespace Cod
theorem len_eq (s : ByteArray) : s.data.toList.length = s.size := Array.length_toList
/-- A rest of the bytes, by its length. -/
theorem rest_at {s : ByteArray} {p : Nat} {pre t : List UInt8} (h : s.data.toList.drop p = pre ++ t) : s.data.toList.drop (s.size - t.length) = t ∧ s.size - t.length ≤ s.size ∧ t.length ≤ s.size := by
  have h1 : t <:+ s.data.toList := (List.suffix_append pre t).trans (h ▸ List.drop_suffix p _)
  have h2 := h1.length_le
  rw [len_eq] at h2
  obtain ⟨q, hq⟩ := h1
  refine ⟨?_, Nat.sub_le _ _, h2⟩
  have h3 : q.length = s.size - t.length := by
    have := congrArg List.length hq
    rw [len_eq, List.length_append] at this
    exact Nat.eq_sub_of_add_eq this
  rw [← h3, ← hq, List.drop_left]
theorem clone_any (s : ByteArray) (w : World) (hs : s.size ≤ 281474976710656) :
    Calls Tryz.prog 72 #[.string s] w fun e w' => e = .returned (.string s) ∧ Below w.heap.size w w' := by
  go_enter Tryz.func72, Tryz.ntmps72
  go_wp2_with fail
  refine (Tryz.stringslite_Clone s w hs).mono ?_
  rintro e w' ⟨rfl, hb⟩
  go_wp2_with fail
  go_ret
  exact ⟨rfl, hb⟩
theorem new_any (s : ByteArray) (w : World) (hs : s.size ≤ 281474976710656) :
    Calls Tryz.prog 49 #[.string s] w fun e w' => ∃ r, w.heap.size ≤ r ∧ e = .returned (.pointer (some ⟨r, 0, none⟩)) ∧ Rdr r s 0 0 w' ∧ Below w.heap.size w w' := by
  go_enter Tryz.func49, Tryz.ntmps49
  go_wp2_with fail
  refine (clone_any s w hs).mono ?_
  rintro e w1 ⟨rfl, hb⟩
  have HB := hidm hb
  have hsz := hb.size
  clear hb
  go_wp2_with fail
  go_ret
  exact ⟨_, hsz, rfl, Rdr.new _ _ _ _, HB.out.alloc hsz _⟩
def VInt (n : Int) (v : Value) (_ : World) : Prop := v = .int .i64 n
def VStr (l : List UInt8) (v : Value) (_ : World) : Prop := v = .string (S l)
def sigR : Except Nat (Nat × List UInt8) → Except Nat (Int × List UInt8)
  | .ok (n, t) => .ok (zag n, t)
  | .error x => .error x
def sig (l : List UInt8) : Except Nat (Int × List UInt8) := sigR (num 0 0 l)
def lenR (most : Nat) : Except Nat (Nat × List UInt8) → Except Nat (Nat × List UInt8)
  | .ok (n, t) => if most < n then .error 19 else .ok (n, t)
  | .error x => .error x
def len (most : Nat) (l : List UInt8) : Except Nat (Nat × List UInt8) := lenR most (num 0 0 l)
def txtR : Except Nat (Nat × List UInt8) → Except Nat (List UInt8 × List UInt8)
  | .ok (n, t) => if t.length < n then .error 8 else .ok (t.take n, t.drop n)
  | .error x => .error x
def txt (most : Nat) (l : List UInt8) : Except Nat (List UInt8 × List UInt8) := txtR (len most l)
theorem not_half (n : Nat) (hn : n < 18446744073709551616) (h : n % 2 = 1) : bits .xor .i64 (-1) ((n / 2 : Nat) : Int) = zag n := by
  rw [Go.i64_not _ (by omega)]
  unfold zag; rw [if_pos h]; omega
set_option maxHeartbeats 1000000 in
theorem signed_any (r : Nat) (s : ByteArray) (p : Nat) (e : Int) (w : World) (h : Rdr r s p e w) (hp : p ≤ s.size) (hs : s.size ≤ 281474976710656) :
    Calls Tryz.prog 139 #[.pointer (some ⟨r, 0, none⟩)] w fun en w' => Part r s e w VInt (sig (s.data.toList.drop p)) en w' := by
  have hn := number_any r s p e w h hp (by omega)
  obtain ⟨R, hR⟩ : ∃ R, R = num 0 0 (s.data.toList.drop p) := ⟨_, rfl⟩
  unfold sig
  rw [← hR] at hn ⊢
  have HR := hidm hR
  clear hR
  go_enter Tryz.func139, Tryz.ntmps139
  go_wp2_with fail
  refine hn.mono ?_
  cases R with
  | error x =>
    rintro en w1 ⟨q, rfl, hv⟩
    have HV := hidm hv
    clear hv
    go_wp2_with fail
    exact ⟨rfl, q, rfl, HV.out⟩
  | ok at' =>
    obtain ⟨n, t⟩ := at'
    rintro en w1 ⟨v, rfl, rfl, hv⟩
    have HV := hidm hv
    have hb := (read_ok HR.out.symm).2
    clear hv
    rcases Nat.mod_two_eq_zero_or_one n with h2 | h2
    · have h3 : ((n : Int) % 2 == 1) = false := by simp; omega
      have h4 : zag n = (n : Int) / 2 := by unfold zag; rw [if_neg (by omega)]; omega
      have H4 := hidm h4
      clear h4
      go_wp2_with fail
      go_ret
      exact ⟨_, rfl, congrArg (Value.int .i64) H4.out.symm, HV.out⟩
    · have h3 : ((n : Int) % 2 == 1) = true := by simp; omega
      have H4 := hidm (not_half n hb h2)
      go_wp2_with fail
      go_ret
      exact ⟨_, rfl, congrArg (Value.int .i64) H4.out, HV.out⟩
set_option maxHeartbeats 1000000 in
theorem length_any (r : Nat) (s : ByteArray) (p : Nat) (e : Int) (most : Nat) (hm : most ≤ 9223372036854775807) (w : World) (h : Rdr r s p e w) (hp : p ≤ s.size) (hs : s.size ≤ 281474976710656) :
    Calls Tryz.prog 133 #[.pointer (some ⟨r, 0, none⟩), .int .i64 most] w fun en w' => Part r s e w (fun n v _ => v = .int .i64 (n : Nat)) (len most (s.data.toList.drop p)) en w' := by
  have hn := number_any r s p e w h hp (by omega)
  obtain ⟨R, hR⟩ : ∃ R, R = num 0 0 (s.data.toList.drop p) := ⟨_, rfl⟩
  unfold len
  rw [← hR] at hn ⊢
  have HR := hidm hR
  clear hR
  go_enter Tryz.func133, Tryz.ntmps133
  go_wp2_with fail
  refine hn.mono ?_
  cases R with
  | error x =>
    rintro en w1 ⟨q, rfl, hv⟩
    have HV := hidm hv
    clear hv
    go_wp2_with fail
    exact ⟨rfl, q, rfl, HV.out⟩
  | ok at' =>
    obtain ⟨n, t⟩ := at'
    rintro en w1 ⟨v, rfl, rfl, hv⟩
    have HV := hidm hv
    have hb := (read_ok HR.out.symm).2
    clear hv
    rcases Nat.lt_or_ge most n with h2 | h2
    · have h3 : (most : Int) < n := by omega
      have H4 := hidm (if_pos h2 : (if most < n then (.error 19 : Except Nat (Nat × List UInt8)) else .ok (n, t)) = .error 19)
      go_wp2_with fail
      refine ⟨rfl, ?_⟩
      simp only [lenR]
      rw [H4.out]
      exact ⟨_, rfl, HV.out⟩
    · have h3 : ¬ (most : Int) < n := by omega
      have H4 := hidm (if_neg (by omega) : (if most < n then (.error 19 : Except Nat (Nat × List UInt8)) else .ok (n, t)) = .ok (n, t))
      go_wp2_with fail
      go_ret
      simp only [lenR]
      rw [H4.out]
      exact ⟨_, rfl, rfl, HV.out⟩
end Cod
namespace Cod
theorem len_ok {m : Nat} {l t : List UInt8} {n : Nat} (h : len m l = .ok (n, t)) : num 0 0 l = .ok (n, t) ∧ n ≤ m := by
  unfold len lenR at h
  split at h
  · rename_i n' t' hn
    split at h
    · cases h
    · simp only [Except.ok.injEq, Prod.mk.injEq] at h
      obtain ⟨rfl, rfl⟩ := h
      exact ⟨hn, by omega⟩
  · cases h
theorem cut_size (s : ByteArray) (a b : Nat) : (s.extract a b).size = min b s.size - a := by simp [ByteArray.size_extract]
theorem cut_bytes (s : ByteArray) (q n : Nat) : s.extract q (q + n) = S ((s.data.toList.drop q).take n) := by
  apply ByteArray.ext
  rw [ByteArray.data_extract]
  apply Array.toList_inj.1
  simp only [Array.toList_extract, List.extract]
  rw [show q + n - q = n by omega]
set_option maxHeartbeats 2000000 in
set_option maxRecDepth 100000 in
theorem text_part (r : Nat) (s : ByteArray) (p : Nat) (e : Int) (most : Nat) (hm : most ≤ 9223372036854775807) (w : World) (h : Rdr r s p e w) (hp : p ≤ s.size) (hs : s.size ≤ 281474976710656) :
    Calls Tryz.prog 122 #[.pointer (some ⟨r, 0, none⟩), .int .i64 most] w fun en w' => Part r s e w VStr (txt most (s.data.toList.drop p)) en w' := by
  have hn := length_any r s p e most hm w h hp hs
  obtain ⟨R, hR⟩ : ∃ R, R = len most (s.data.toList.drop p) := ⟨_, rfl⟩
  unfold txt
  rw [← hR] at hn ⊢
  have HR := hidm hR
  clear hR
  go_enter Tryz.func122, Tryz.ntmps122
  go_wp2_with fail
  refine hn.mono ?_
  cases R with
  | error x =>
    rintro en w1 ⟨q, rfl, hv⟩
    have HV := hidm hv
    clear hv
    go_wp2_with fail
    exact ⟨rfl, q, rfl, HV.out⟩
  | ok at' =>
    obtain ⟨n, t⟩ := at'
    rintro en w1 ⟨v, rfl, rfl, hv, hbt⟩
    have hlen := (len_ok HR.out.symm)
    have hrest := rest_at (read_ok hlen.1).1
    obtain ⟨q, hq⟩ : ∃ q, q = s.size - t.length := ⟨_, rfl⟩
    rw [← hq] at hrest hv
    have htq : s.size - q = t.length := by have := hrest.2.2; omega
    have HV := hidm hv
    have HT := hidm hbt
    have HH := hidm hrest
    have hl := left_any r s q e w1 HV.out hrest.2.1 (by omega)
    rw [htq] at hl
    have hn9 : n ≤ 9223372036854775807 := by have := hlen.2; omega
    have hq9 : q ≤ s.size := hrest.2.1
    have HQ := hidm hq
    have HTQ := hidm htq
    clear hv hbt hrest hlen hq htq
    go_wp2_with fail
    refine hl.mono ?_
    rintro en w2 ⟨rfl, hb2⟩
    have HV2 := hidm (HV.out.later hb2)
    have HT2 := hidm (HT.out.trans (.of hb2))
    clear hb2
    rcases Nat.lt_or_ge t.length n with h2 | h2
    · have h3 : (t.length : Int) < n := by omega
      have H4 := hidm (if_pos h2 : (if t.length < n then (.error 8 : Except Nat (List UInt8 × List UInt8)) else .ok (t.take n, t.drop n)) = .error 8)
      go_wp2_with fail
      refine ⟨rfl, ?_⟩
      simp only [txtR]
      rw [H4.out]
      exact ⟨_, rfl, HV2.out, HT2.out⟩
    · have h3 : ¬ (t.length : Int) < n := by omega
      have H4 := hidm (if_neg (by omega) : (if t.length < n then (.error 8 : Except Nat (List UInt8 × List UInt8)) else .ok (t.take n, t.drop n)) = .ok (t.take n, t.drop n))
      have k1 := HV2.out.c1
      have z1 := HV2.out.z1
      have hqn : q + n ≤ s.size := by have := HTQ.out; omega
      go_wp2_with fail
      have hw : Rdr r s ((q : Int) + n) e (w2.setCell ⟨r, 1, none⟩ (.int .i64 ((q : Int) + n))) := HV2.out.set1 _
      have hbw : But r w (w2.setCell ⟨r, 1, none⟩ (.int .i64 ((q : Int) + n))) := HT2.out.set _ _
      have HW := hidm (And.intro hw hbw)
      clear hw hbw k1 z1
      have b1 : (q : Int) ≤ (q : Int) + n := by omega
      have b2 : (q : Int) + n ≤ (s.size : Int) := by omega
      go_region_held3 (fun w' => w'.cell? ⟨r, 0, none⟩ = some (.string s) ∧ w'.cell? ⟨r, 1, none⟩ = some (.int .i64 ((q : Int) + n)) ∧ Hid (Rdr r s ((q : Int) + n) e w' ∧ But r w w'))
        (first | (exact rs_step (by assumption) hb) | (exact rs_of HW.out.1 HW.out.2) | (exact rs_of (HW.out.1.later (below_drewN (Below.refl _ _) 1)) (HW.out.2.drew)) | go_keep)
        (first | (go_at_call 72; (with_reducible refine (clone_any _ _ (by rw [cut_size]; omega)).mono ?_); rintro e w' ⟨rfl, hb⟩))
      rename_i hS
      have HS := hidm hS.2.2.out
      clear hS
      go_wp2_with fail
      go_ret
      simp only [txtR]
      rw [H4.out]
      refine ⟨_, rfl, congrArg Value.string ?_, ?_, HS.out.2⟩
      · rw [show ((q : Int) + (n : Int)).toNat = q + n by omega, cut_bytes, HH.out.1]
      · have e1 : s.size - (t.drop n).length = q + n := by rw [List.length_drop]; have := HTQ.out; omega
        rw [e1]
        exact HS.out.1
theorem text_any_part (r : Nat) (s : ByteArray) (p : Nat) (e : Int) (w : World) (h : Rdr r s p e w) (hp : p ≤ s.size) (hs : s.size ≤ 281474976710656) :
    Calls Tryz.prog 121 #[.pointer (some ⟨r, 0, none⟩)] w fun en w' => Part r s e w VStr (txt 1000000 (s.data.toList.drop p)) en w' := by
  have hn := text_part r s p e 1000000 (by omega) w h hp hs
  obtain ⟨R, hR⟩ : ∃ R, R = txt 1000000 (s.data.toList.drop p) := ⟨_, rfl⟩
  rw [← hR] at hn ⊢
  clear hR
  go_enter Tryz.func121, Tryz.ntmps121
  go_wp2_with fail
  refine hn.mono ?_
  cases R with
  | error x =>
    rintro en w1 ⟨q, rfl, hv⟩
    have HV := hidm hv
    clear hv
    go_wp2_with fail
    exact ⟨rfl, q, rfl, HV.out⟩
  | ok at' =>
    obtain ⟨n, t⟩ := at'
    rintro en w1 ⟨v, rfl, rfl, hv⟩
    have HV := hidm hv
    clear hv
    go_wp2_with fail
    go_ret
    exact ⟨_, rfl, rfl, HV.out⟩
/-- i bytes, the highest first, behind the number n. -/
def oct : Nat → Nat → List UInt8 → Except Nat (Nat × List UInt8)
  | 0, n, l => .ok (n, l)
  | _ + 1, _, [] => .error 8
  | i + 1, n, c :: l => oct i (n * 256 + c.toNat) l
theorem oct_or (n : Nat) (c : UInt8) (i : Nat) (hi : i ≤ 7) (hn : n < 256 ^ i) : bits .or .u64 (IntKind.u64.wrap ((n : Int) * 256)) (c.toNat : Int) = ((n * 256 + c.toNat : Nat) : Int) := by
  have hc := c.toNat_lt
  have h1 : (256 : Nat) ^ i ≤ 256 ^ 7 := Nat.pow_le_pow_right (by omega) hi
  have h2 : (256 : Nat) ^ 7 = 72057594037927936 := by decide
  have e1 : IntKind.u64.wrap ((n : Int) * 256) = ((n * 256 : Nat) : Int) := by simp only [IntKind.wrap_u64]; omega
  rw [e1, u64_or_nat _ _ (by omega) (by omega)]
  have := Nat.two_pow_add_eq_or_of_lt (b := c.toNat) (i := 8) (by omega) n
  rw [show (2 : Nat) ^ 8 = 256 from rfl] at this
  rw [Nat.mul_comm n, ← this]
set_option maxHeartbeats 4000000 in
set_option maxRecDepth 100000 in
theorem bits_part (r : Nat) (s : ByteArray) (p : Nat) (e : Int) (w : World) (h : Rdr r s p e w) (hp : p ≤ s.size) (hs : s.size ≤ 281474976710656) :
    Calls Tryz.prog 140 #[.pointer (some ⟨r, 0, none⟩)] w fun en w' => Part r s e w VNat (oct 8 0 (s.data.toList.drop p)) en w' := by
  have Hs := hidm hs
  obtain ⟨R, hR⟩ : ∃ R, R = oct 8 0 (s.data.toList.drop p) := ⟨_, rfl⟩
  rw [← hR]
  have HP := hidm hR
  clear hR hs
  go_enter Tryz.func140, Tryz.ntmps140
  go_wp2_with fail
  go_loopw [3, 4] (fun nn ii wr => ∃ (i n q : Nat), nn = .int .u64 n ∧ ii = .int .i64 i ∧ i ≤ 8 ∧ q ≤ s.size ∧ Hid (n < 256 ^ i) ∧ Hid (R = oct (8 - i) n (s.data.toList.drop q)) ∧ Hid (Rdr r s q e wr) ∧ Hid (But r w wr)) (fun _ ii _ => (8 - intOf ii).toNat)
  case atStart => exact ⟨0, 0, p, rfl, rfl, by omega, hp, hidm (by simp), HP, hidm h, hidm (But.refl _ _)⟩
  case round =>
    obtain ⟨i, n, q, rfl, rfl, hi, hq, HN, HM, HR, HB⟩ := hrel
    rcases Nat.eq_or_lt_of_le hi with hi8 | hi8
    · have f1 : ¬ (i : Int) < 8 := by omega
      have HI := hidm hi8
      clear hi8
      go_wp2_with fail
      go_ret
      rw [HM.out, HI.out]
      exact ⟨_, rfl, rfl, by rw [back_at s q hq]; exact HR.out, HB.out⟩
    · have f1 : (i : Int) < 8 := by omega
      rcases Nat.eq_or_lt_of_le hq with hqe | hqe
      · have HQ := hidm hqe
        clear hqe
        go_wp2_with fail
        refine (octet_short r s e wr (by rw [← HQ.out]; exact HR.out)).mono ?_
        rintro en w1 ⟨rfl, hb1⟩
        have HR1 := hidm (HR.out.later hb1)
        have HB1 := hidm (HB.out.trans (.of hb1))
        clear hb1
        go_wp2_with fail
        refine ⟨rfl, ?_⟩
        rw [HM.out, HQ.out, drop_end, show 8 - i = (7 - i) + 1 by omega]
        exact ⟨_, rfl, HR1.out, HB1.out⟩
      · obtain ⟨c, hc⟩ : ∃ c : UInt8, s[q] = c := ⟨_, rfl⟩
        have hcl := c.toNat_lt
        have hoct := octet_ok r s q e wr HR.out hqe (by have := Hs.out; omega)
        rw [hc] at hoct
        have HX : Hid (oct (8 - i) n (s.data.toList.drop q) = oct (8 - (i + 1)) (n * 256 + c.toNat) (s.data.toList.drop (q + 1))) := by
          rw [drop_at s q hqe, hc, show 8 - i = (8 - (i + 1)) + 1 by omega]; exact rfl
        have HO := hidm (oct_or n c i (by omega) HN.out)
        have HL : Hid (n * 256 + c.toNat < 256 ^ (i + 1)) := by have := HN.out; show _ < _; rw [Nat.pow_succ]; omega
        clear hc
        go_wp2_with fail
        refine hoct.mono ?_
        rintro en w1 ⟨rfl, hr1, hb1⟩
        have HR1 := hidm hr1
        have HB1 := hidm (HB.out.trans hb1)
        clear hr1 hb1
        go_wp2_with fail
        go_roundw
        case rel => exact ⟨i + 1, n * 256 + c.toNat, q + 1, congrArg (Value.int .u64) HO.out, by go_num, by omega, hqe, HL, hidm (HM.out.trans HX.out), HR1, HB1⟩
        case measure => simp [intOf]; omega
end Cod
end Go.Proofs.YtopmbhpjdmcabaaGreat
