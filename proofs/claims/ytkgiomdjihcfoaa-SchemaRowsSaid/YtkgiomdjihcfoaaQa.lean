/- The writers and the reader of package code, those that this program has. Conditions: as each theorem says. -/
import Derived.Test.YtkgiomdjihcfoaaCa
import Derived.Test.YtkgiomdjihcfoaaCs
import Derived.Test.YtkgiomdjihcfoaaShelf
import Derived.Laws.BitsAllLaws
import Derived.Laws.DeepNot64
namespace Go.Proofs.Ytkgiomdjihcfoaa
open Go.RowKit
open Go.RowKit
namespace Cod
theorem S_tB (t : ByteArray) : S (uB t.size) ++ t = S (tB t.data.toList) := by
  have : t.size = t.data.toList.length := (Array.length_toList).symm
  conv => lhs; rhs; rw [← S_of t]
  rw [S_append]; unfold tB; rw [this]
theorem text_any (t : ByteArray) (ht : t.size ≤ 9223372036854775700) (w : World) :
    Calls Try.prog 39 #[.string t] w fun e w' => e = .returned (.string (S (tB t.data.toList))) ∧ Below w.heap.size w w' := by
  have hl := uB_ten t.size (by omega)
  have hn : ¬ 9223372036854775807 < (uB t.size).length + t.size := by omega
  go_enter Try.func39, Try.ntmps39
  go_wp2_with fail
  refine (uint_any t.size (by omega) _).mono ?_
  rintro e w' ⟨rfl, hb⟩
  go_wp2_with fail
  go_ret
  exact ⟨congrArg (fun x => Ending.returned (.string x)) (S_tB t), hb⟩
end Cod
open Go.RowKit
namespace Cod
theorem len_eq (s : ByteArray) : s.data.toList.length = s.size := Array.length_toList
/-- A rest of the bytes, by its length. -/
theorem rest_at {s : ByteArray} {p : Nat} {pre t : List UInt8} (h : s.data.toList.drop p = pre ++ t) : s.data.toList.drop (s.size - t.length) = t ∧ s.size - t.length ≤ s.size ∧ t.length ≤ s.size := by
  have h1 : t <:+ s.data.toList := (List.suffix_append pre t).trans (h ▸ List.drop_suffix p _)
  have h2 := h1.length_le
  rw [len_eq] at h2
  obtain ⟨q, hq⟩ := h1
  refine ⟨?_, Nat.sub_le _ _, h2⟩
  have h3 : q.length = s.size - t.length := by
    have := congrArg List.length hq
    rw [len_eq, List.length_append] at this
    exact Nat.eq_sub_of_add_eq this
  rw [← h3, ← hq, List.drop_left]
theorem clone_any (s : ByteArray) (w : World) (hs : s.size ≤ 281474976710656) :
    Calls Try.prog 57 #[.string s] w fun e w' => e = .returned (.string s) ∧ Below w.heap.size w w' := by
  go_enter Try.func57, Try.ntmps57
  go_wp2_with fail
  refine (Try.stringslite_Clone s w hs).mono ?_
  rintro e w' ⟨rfl, hb⟩
  go_wp2_with fail
  go_ret
  exact ⟨rfl, hb⟩
theorem new_any (s : ByteArray) (w : World) (hs : s.size ≤ 281474976710656) :
    Calls Try.prog 50 #[.string s] w fun e w' => ∃ r, w.heap.size ≤ r ∧ e = .returned (.pointer (some ⟨r, 0, none⟩)) ∧ Rdr r s 0 0 w' ∧ Below w.heap.size w w' := by
  go_enter Try.func50, Try.ntmps50
  go_wp2_with fail
  refine (clone_any s w hs).mono ?_
  rintro e w1 ⟨rfl, hb⟩
  have HB := hidm hb
  have hsz := hb.size
  clear hb
  go_wp2_with fail
  go_ret
  exact ⟨_, hsz, rfl, Rdr.new _ _ _ _, HB.out.alloc hsz _⟩
def VInt (n : Int) (v : Value) (_ : World) : Prop := v = .int .i64 n
def VStr (l : List UInt8) (v : Value) (_ : World) : Prop := v = .string (S l)
def sigR : Except Nat (Nat × List UInt8) → Except Nat (Int × List UInt8)
  | .ok (n, t) => .ok (zag n, t)
  | .error x => .error x
def sig (l : List UInt8) : Except Nat (Int × List UInt8) := sigR (num 0 0 l)
def lenR (most : Nat) : Except Nat (Nat × List UInt8) → Except Nat (Nat × List UInt8)
  | .ok (n, t) => if most < n then .error 19 else .ok (n, t)
  | .error x => .error x
def len (most : Nat) (l : List UInt8) : Except Nat (Nat × List UInt8) := lenR most (num 0 0 l)
def txtR : Except Nat (Nat × List UInt8) → Except Nat (List UInt8 × List UInt8)
  | .ok (n, t) => if t.length < n then .error 8 else .ok (t.take n, t.drop n)
  | .error x => .error x
def txt (most : Nat) (l : List UInt8) : Except Nat (List UInt8 × List UInt8) := txtR (len most l)
theorem not_half (n : Nat) (hn : n < 18446744073709551616) (h : n % 2 = 1) : bits .xor .i64 (-1) ((n / 2 : Nat) : Int) = zag n := by
  rw [Go.i64_not _ (by omega)]
  unfold zag; rw [if_pos h]; omega
set_option maxHeartbeats 1000000 in
theorem length_any (r : Nat) (s : ByteArray) (p : Nat) (e : Int) (most : Nat) (hm : most ≤ 9223372036854775807) (w : World) (h : Rdr r s p e w) (hp : p ≤ s.size) (hs : s.size ≤ 281474976710656) :
    Calls Try.prog 81 #[.pointer (some ⟨r, 0, none⟩), .int .i64 most] w fun en w' => Part r s e w (fun n v _ => v = .int .i64 (n : Nat)) (len most (s.data.toList.drop p)) en w' := by
  have hn := number_any r s p e w h hp (by omega)
  obtain ⟨R, hR⟩ : ∃ R, R = num 0 0 (s.data.toList.drop p) := ⟨_, rfl⟩
  unfold len
  rw [← hR] at hn ⊢
  have HR := hidm hR
  clear hR
  go_enter Try.func81, Try.ntmps81
  go_wp2_with fail
  refine hn.mono ?_
  cases R with
  | error x =>
    rintro en w1 ⟨q, rfl, hv⟩
    have HV := hidm hv
    clear hv
    go_wp2_with fail
    exact ⟨rfl, q, rfl, HV.out⟩
  | ok at' =>
    obtain ⟨n, t⟩ := at'
    rintro en w1 ⟨v, rfl, rfl, hv⟩
    have HV := hidm hv
    have hb := (read_ok HR.out.symm).2
    clear hv
    rcases Nat.lt_or_ge most n with h2 | h2
    · have h3 : (most : Int) < n := by omega
      have H4 := hidm (if_pos h2 : (if most < n then (.error 19 : Except Nat (Nat × List UInt8)) else .ok (n, t)) = .error 19)
      go_wp2_with fail
      refine ⟨rfl, ?_⟩
      simp only [lenR]
      rw [H4.out]
      exact ⟨_, rfl, HV.out⟩
    · have h3 : ¬ (most : Int) < n := by omega
      have H4 := hidm (if_neg (by omega) : (if most < n then (.error 19 : Except Nat (Nat × List UInt8)) else .ok (n, t)) = .ok (n, t))
      go_wp2_with fail
      go_ret
      simp only [lenR]
      rw [H4.out]
      exact ⟨_, rfl, rfl, HV.out⟩
end Cod
open Go.RowKit
namespace Cod
theorem len_ok {m : Nat} {l t : List UInt8} {n : Nat} (h : len m l = .ok (n, t)) : num 0 0 l = .ok (n, t) ∧ n ≤ m := by
  unfold len lenR at h
  split at h
  · rename_i n' t' hn
    split at h
    · cases h
    · simp only [Except.ok.injEq, Prod.mk.injEq] at h
      obtain ⟨rfl, rfl⟩ := h
      exact ⟨hn, by omega⟩
  · cases h
theorem cut_size (s : ByteArray) (a b : Nat) : (s.extract a b).size = min b s.size - a := by simp [ByteArray.size_extract]
theorem cut_bytes (s : ByteArray) (q n : Nat) : s.extract q (q + n) = S ((s.data.toList.drop q).take n) := by
  apply ByteArray.ext
  rw [ByteArray.data_extract]
  apply Array.toList_inj.1
  simp only [Array.toList_extract, List.extract]
  rw [show q + n - q = n by omega]
set_option maxHeartbeats 2000000 in
set_option maxRecDepth 100000 in
theorem text_part (r : Nat) (s : ByteArray) (p : Nat) (e : Int) (most : Nat) (hm : most ≤ 9223372036854775807) (w : World) (h : Rdr r s p e w) (hp : p ≤ s.size) (hs : s.size ≤ 281474976710656) :
    Calls Try.prog 71 #[.pointer (some ⟨r, 0, none⟩), .int .i64 most] w fun en w' => Part r s e w VStr (txt most (s.data.toList.drop p)) en w' := by
  have hn := length_any r s p e most hm w h hp hs
  obtain ⟨R, hR⟩ : ∃ R, R = len most (s.data.toList.drop p) := ⟨_, rfl⟩
  unfold txt
  rw [← hR] at hn ⊢
  have HR := hidm hR
  clear hR
  go_enter Try.func71, Try.ntmps71
  go_wp2_with fail
  refine hn.mono ?_
  cases R with
  | error x =>
    rintro en w1 ⟨q, rfl, hv⟩
    have HV := hidm hv
    clear hv
    go_wp2_with fail
    exact ⟨rfl, q, rfl, HV.out⟩
  | ok at' =>
    obtain ⟨n, t⟩ := at'
    rintro en w1 ⟨v, rfl, rfl, hv, hbt⟩
    have hlen := (len_ok HR.out.symm)
    have hrest := rest_at (read_ok hlen.1).1
    obtain ⟨q, hq⟩ : ∃ q, q = s.size - t.length := ⟨_, rfl⟩
    rw [← hq] at hrest hv
    have htq : s.size - q = t.length := by have := hrest.2.2; omega
    have HV := hidm hv
    have HT := hidm hbt
    have HH := hidm hrest
    have hl := left_any r s q e w1 HV.out hrest.2.1 (by omega)
    rw [htq] at hl
    have hn9 : n ≤ 9223372036854775807 := by have := hlen.2; omega
    have hq9 : q ≤ s.size := hrest.2.1
    have HQ := hidm hq
    have HTQ := hidm htq
    clear hv hbt hrest hlen hq htq
    go_wp2_with fail
    refine hl.mono ?_
    rintro en w2 ⟨rfl, hb2⟩
    have HV2 := hidm (HV.out.later hb2)
    have HT2 := hidm (HT.out.trans (.of hb2))
    clear hb2
    rcases Nat.lt_or_ge t.length n with h2 | h2
    · have h3 : (t.length : Int) < n := by omega
      have H4 := hidm (if_pos h2 : (if t.length < n then (.error 8 : Except Nat (List UInt8 × List UInt8)) else .ok (t.take n, t.drop n)) = .error 8)
      go_wp2_with fail
      refine ⟨rfl, ?_⟩
      simp only [txtR]
      rw [H4.out]
      exact ⟨_, rfl, HV2.out, HT2.out⟩
    · have h3 : ¬ (t.length : Int) < n := by omega
      have H4 := hidm (if_neg (by omega) : (if t.length < n then (.error 8 : Except Nat (List UInt8 × List UInt8)) else .ok (t.take n, t.drop n)) = .ok (t.take n, t.drop n))
      have k1 := HV2.out.c1
      have z1 := HV2.out.z1
      have hqn : q + n ≤ s.size := by have := HTQ.out; omega
      go_wp2_with fail
      have hw : Rdr r s ((q : Int) + n) e (w2.setCell ⟨r, 1, none⟩ (.int .i64 ((q : Int) + n))) := HV2.out.set1 _
      have hbw : But r w (w2.setCell ⟨r, 1, none⟩ (.int .i64 ((q : Int) + n))) := HT2.out.set _ _
      have HW := hidm (And.intro hw hbw)
      clear hw hbw k1 z1
      have b1 : (q : Int) ≤ (q : Int) + n := by omega
      have b2 : (q : Int) + n ≤ (s.size : Int) := by omega
      go_region_held3 (fun w' => w'.cell? ⟨r, 0, none⟩ = some (.string s) ∧ w'.cell? ⟨r, 1, none⟩ = some (.int .i64 ((q : Int) + n)) ∧ Hid (Rdr r s ((q : Int) + n) e w' ∧ But r w w'))
        (first | (exact rs_step (by assumption) hb) | (exact rs_of HW.out.1 HW.out.2) | (exact rs_of (HW.out.1.later (below_drewN (Below.refl _ _) 1)) (HW.out.2.drew)) | go_keep)
        (first | (go_at_call 57; (with_reducible refine (clone_any _ _ (by rw [cut_size]; omega)).mono ?_); rintro e w' ⟨rfl, hb⟩))
      rename_i hS
      have HS := hidm hS.2.2.out
      clear hS
      go_wp2_with fail
      go_ret
      simp only [txtR]
      rw [H4.out]
      refine ⟨_, rfl, congrArg Value.string ?_, ?_, HS.out.2⟩
      · rw [show ((q : Int) + (n : Int)).toNat = q + n by omega, cut_bytes, HH.out.1]
      · have e1 : s.size - (t.drop n).length = q + n := by rw [List.length_drop]; have := HTQ.out; omega
        rw [e1]
        exact HS.out.1
theorem text_any_part (r : Nat) (s : ByteArray) (p : Nat) (e : Int) (w : World) (h : Rdr r s p e w) (hp : p ≤ s.size) (hs : s.size ≤ 281474976710656) :
    Calls Try.prog 70 #[.pointer (some ⟨r, 0, none⟩)] w fun en w' => Part r s e w VStr (txt 1000000 (s.data.toList.drop p)) en w' := by
  have hn := text_part r s p e 1000000 (by omega) w h hp hs
  obtain ⟨R, hR⟩ : ∃ R, R = txt 1000000 (s.data.toList.drop p) := ⟨_, rfl⟩
  rw [← hR] at hn ⊢
  clear hR
  go_enter Try.func70, Try.ntmps70
  go_wp2_with fail
  refine hn.mono ?_
  cases R with
  | error x =>
    rintro en w1 ⟨q, rfl, hv⟩
    have HV := hidm hv
    clear hv
    go_wp2_with fail
    exact ⟨rfl, q, rfl, HV.out⟩
  | ok at' =>
    obtain ⟨n, t⟩ := at'
    rintro en w1 ⟨v, rfl, rfl, hv⟩
    have HV := hidm hv
    clear hv
    go_wp2_with fail
    go_ret
    exact ⟨_, rfl, rfl, HV.out⟩
/-- i bytes, the highest first, behind the number n. -/
def oct : Nat → Nat → List UInt8 → Except Nat (Nat × List UInt8)
  | 0, n, l => .ok (n, l)
  | _ + 1, _, [] => .error 8
  | i + 1, n, c :: l => oct i (n * 256 + c.toNat) l
theorem oct_or (n : Nat) (c : UInt8) (i : Nat) (hi : i ≤ 7) (hn : n < 256 ^ i) : bits .or .u64 (IntKind.u64.wrap ((n : Int) * 256)) (c.toNat : Int) = ((n * 256 + c.toNat : Nat) : Int) := by
  have hc := c.toNat_lt
  have h1 : (256 : Nat) ^ i ≤ 256 ^ 7 := Nat.pow_le_pow_right (by omega) hi
  have h2 : (256 : Nat) ^ 7 = 72057594037927936 := by decide
  have e1 : IntKind.u64.wrap ((n : Int) * 256) = ((n * 256 : Nat) : Int) := by simp only [IntKind.wrap_u64]; omega
  rw [e1, u64_or_nat _ _ (by omega) (by omega)]
  have := Nat.two_pow_add_eq_or_of_lt (b := c.toNat) (i := 8) (by omega) n
  rw [show (2 : Nat) ^ 8 = 256 from rfl] at this
  rw [Nat.mul_comm n, ← this]
end Cod
end Go.Proofs.Ytkgiomdjihcfoaa
