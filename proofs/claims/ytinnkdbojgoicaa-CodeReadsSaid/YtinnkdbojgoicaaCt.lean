/- The reader's parts: New, signed, length, text, bits. Conditions: the pointer is to a reader whose place is within its bytes; the bytes are at most 2^48. -/
import Derived.Test.YtinnkdbojgoicaaCs
import Derived.Test.YtinnkdbojgoicaaShelf
import Derived.Laws.DeepNot64
namespace Go.Proofs.Ytinnkdbojgoicaa
open Go.RowKit
namespace Cod
theorem len_eq (s : ByteArray) : s.data.toList.length = s.size := Array.length_toList
/-- A rest of the bytes, by its length. -/
theorem rest_at {s : ByteArray} {p : Nat} {pre t : List UInt8} (h : s.data.toList.drop p = pre ++ t) : s.data.toList.drop (s.size - t.length) = t ∧ s.size - t.length ≤ s.size ∧ t.length ≤ s.size := by
  have h1 : t <:+ s.data.toList := (List.suffix_append pre t).trans (h ▸ List.drop_suffix p _)
  have h2 := h1.length_le
  rw [len_eq] at h2
  obtain ⟨q, hq⟩ := h1
  refine ⟨?_, Nat.sub_le _ _, h2⟩
  have h3 : q.length = s.size - t.length := by
    have := congrArg List.length hq
    rw [len_eq, List.length_append] at this
    exact Nat.eq_sub_of_add_eq this
  rw [← h3, ← hq, List.drop_left]
theorem clone_any (s : ByteArray) (w : World) (hs : s.size ≤ 281474976710656) :
    Calls Try.prog 41 #[.string s] w fun e w' => e = .returned (.string s) ∧ Below w.heap.size w w' := by
  go_enter Try.func41, Try.ntmps41
  go_wp2_with fail
  refine (Try.stringslite_Clone s w hs).mono ?_
  rintro e w' ⟨rfl, hb⟩
  go_wp2_with fail
  go_ret
  exact ⟨rfl, hb⟩
theorem new_any (s : ByteArray) (w : World) (hs : s.size ≤ 281474976710656) :
    Calls Try.prog 11 #[.string s] w fun e w' => ∃ r, w.heap.size ≤ r ∧ e = .returned (.pointer (some ⟨r, 0, none⟩)) ∧ Rdr r s 0 0 w' ∧ Below w.heap.size w w' := by
  go_enter Try.func11, Try.ntmps11
  go_wp2_with fail
  refine (clone_any s w hs).mono ?_
  rintro e w1 ⟨rfl, hb⟩
  have HB := hidm hb
  have hsz := hb.size
  clear hb
  go_wp2_with fail
  go_ret
  exact ⟨_, hsz, rfl, Rdr.new _ _ _ _, HB.out.alloc hsz _⟩
def VInt (n : Int) (v : Value) (_ : World) : Prop := v = .int .i64 n
def VStr (l : List UInt8) (v : Value) (_ : World) : Prop := v = .string (S l)
def sigR : Except Nat (Nat × List UInt8) → Except Nat (Int × List UInt8)
  | .ok (n, t) => .ok (zag n, t)
  | .error x => .error x
def sig (l : List UInt8) : Except Nat (Int × List UInt8) := sigR (num 0 0 l)
def lenR (most : Nat) : Except Nat (Nat × List UInt8) → Except Nat (Nat × List UInt8)
  | .ok (n, t) => if most < n then .error 19 else .ok (n, t)
  | .error x => .error x
def len (most : Nat) (l : List UInt8) : Except Nat (Nat × List UInt8) := lenR most (num 0 0 l)
def txtR : Except Nat (Nat × List UInt8) → Except Nat (List UInt8 × List UInt8)
  | .ok (n, t) => if t.length < n then .error 8 else .ok (t.take n, t.drop n)
  | .error x => .error x
def txt (most : Nat) (l : List UInt8) : Except Nat (List UInt8 × List UInt8) := txtR (len most l)
theorem not_half (n : Nat) (hn : n < 18446744073709551616) (h : n % 2 = 1) : bits .xor .i64 (-1) ((n / 2 : Nat) : Int) = zag n := by
  rw [Go.i64_not _ (by omega)]
  unfold zag; rw [if_pos h]; omega
set_option maxHeartbeats 1000000 in
theorem signed_any (r : Nat) (s : ByteArray) (p : Nat) (e : Int) (w : World) (h : Rdr r s p e w) (hp : p ≤ s.size) (hs : s.size ≤ 281474976710656) :
    Calls Try.prog 47 #[.pointer (some ⟨r, 0, none⟩)] w fun en w' => Part r s e w VInt (sig (s.data.toList.drop p)) en w' := by
  have hn := number_any r s p e w h hp (by omega)
  obtain ⟨R, hR⟩ : ∃ R, R = num 0 0 (s.data.toList.drop p) := ⟨_, rfl⟩
  unfold sig
  rw [← hR] at hn ⊢
  have HR := hidm hR
  clear hR
  go_enter Try.func47, Try.ntmps47
  go_wp2_with fail
  refine hn.mono ?_
  cases R with
  | error x =>
    rintro en w1 ⟨q, rfl, hv⟩
    have HV := hidm hv
    clear hv
    go_wp2_with fail
    exact ⟨rfl, q, rfl, HV.out⟩
  | ok at' =>
    obtain ⟨n, t⟩ := at'
    rintro en w1 ⟨v, rfl, rfl, hv⟩
    have HV := hidm hv
    have hb := (read_ok HR.out.symm).2
    clear hv
    rcases Nat.mod_two_eq_zero_or_one n with h2 | h2
    · have h3 : ((n : Int) % 2 == 1) = false := by simp; omega
      have h4 : zag n = (n : Int) / 2 := by unfold zag; rw [if_neg (by omega)]; omega
      have H4 := hidm h4
      clear h4
      go_wp2_with fail
      go_ret
      exact ⟨_, rfl, congrArg (Value.int .i64) H4.out.symm, HV.out⟩
    · have h3 : ((n : Int) % 2 == 1) = true := by simp; omega
      have H4 := hidm (not_half n hb h2)
      go_wp2_with fail
      go_ret
      exact ⟨_, rfl, congrArg (Value.int .i64) H4.out, HV.out⟩
set_option maxHeartbeats 1000000 in
theorem length_any (r : Nat) (s : ByteArray) (p : Nat) (e : Int) (most : Nat) (hm : most ≤ 9223372036854775807) (w : World) (h : Rdr r s p e w) (hp : p ≤ s.size) (hs : s.size ≤ 281474976710656) :
    Calls Try.prog 72 #[.pointer (some ⟨r, 0, none⟩), .int .i64 most] w fun en w' => Part r s e w (fun n v _ => v = .int .i64 (n : Nat)) (len most (s.data.toList.drop p)) en w' := by
  have hn := number_any r s p e w h hp (by omega)
  obtain ⟨R, hR⟩ : ∃ R, R = num 0 0 (s.data.toList.drop p) := ⟨_, rfl⟩
  unfold len
  rw [← hR] at hn ⊢
  have HR := hidm hR
  clear hR
  go_enter Try.func72, Try.ntmps72
  go_wp2_with fail
  refine hn.mono ?_
  cases R with
  | error x =>
    rintro en w1 ⟨q, rfl, hv⟩
    have HV := hidm hv
    clear hv
    go_wp2_with fail
    exact ⟨rfl, q, rfl, HV.out⟩
  | ok at' =>
    obtain ⟨n, t⟩ := at'
    rintro en w1 ⟨v, rfl, rfl, hv⟩
    have HV := hidm hv
    have hb := (read_ok HR.out.symm).2
    clear hv
    rcases Nat.lt_or_ge most n with h2 | h2
    · have h3 : (most : Int) < n := by omega
      have H4 := hidm (if_pos h2 : (if most < n then (.error 19 : Except Nat (Nat × List UInt8)) else .ok (n, t)) = .error 19)
      go_wp2_with fail
      refine ⟨rfl, ?_⟩
      simp only [lenR]
      rw [H4.out]
      exact ⟨_, rfl, HV.out⟩
    · have h3 : ¬ (most : Int) < n := by omega
      have H4 := hidm (if_neg (by omega) : (if most < n then (.error 19 : Except Nat (Nat × List UInt8)) else .ok (n, t)) = .ok (n, t))
      go_wp2_with fail
      go_ret
      simp only [lenR]
      rw [H4.out]
      exact ⟨_, rfl, rfl, HV.out⟩
end Cod
end Go.Proofs.Ytinnkdbojgoicaa
