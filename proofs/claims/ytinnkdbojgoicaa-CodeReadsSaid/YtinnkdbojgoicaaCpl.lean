/- What is written is read as it was; what is read is written so; what is cut off is short: values and rows, plain lemmas, of no call. -/
import Derived.Test.YtinnkdbojgoicaaCd
namespace Go.Proofs.Ytinnkdbojgoicaa
open Go.RowKit
namespace Cod
theorem sig_back (n : Int) (h0 : -9223372036854775808 ≤ n) (h1 : n ≤ 9223372036854775807) (t : List UInt8) : sig (iB n ++ t) = .ok (n, t) := by
  unfold sig iB; rw [read_uB _ _ (zig_lt h0 h1)]; simp only [sigR, zag_zig]
theorem sig_cut (n : Int) (h0 : -9223372036854775808 ≤ n) (h1 : n ≤ 9223372036854775807) (j : Nat) (hj : j < (iB n).length) : sig ((iB n).take j) = .error 8 := by
  unfold sig iB; rw [num_cut _ 0 0 j (by omega) (by simpa using zig_lt h0 h1) (by omega) hj]; rfl
theorem sig_ok {l t : List UInt8} {n : Int} (h : sig l = .ok (n, t)) : l = iB n ++ t ∧ -9223372036854775808 ≤ n ∧ n ≤ 9223372036854775807 := by
  unfold sig sigR at h
  split at h
  · rename_i m u hm
    simp only [Except.ok.injEq, Prod.mk.injEq] at h
    obtain ⟨rfl, rfl⟩ := h
    have := read_ok hm
    refine ⟨?_, zag_in this.2⟩
    unfold iB; rw [zig_zag]; exact this.1
  · cases h
theorem len_back (most n : Nat) (hn : n ≤ most) (hm : most < 18446744073709551616) (t : List UInt8) : len most (uB n ++ t) = .ok (n, t) := by
  unfold len; rw [read_uB _ _ (by omega)]; simp only [lenR]; rw [if_neg (by omega)]
theorem len_cut (most n : Nat) (hn : n < 18446744073709551616) (j : Nat) (hj : j < (uB n).length) : len most ((uB n).take j) = .error 8 := by
  unfold len; rw [num_cut _ 0 0 j (by omega) (by simpa using hn) (by omega) hj]; rfl
theorem txt_back (most : Nat) (s : List UInt8) (hs : s.length ≤ most) (hm : most < 18446744073709551616) (t : List UInt8) : txt most (tB s ++ t) = .ok (s, t) := by
  unfold txt tB; rw [List.append_assoc, len_back most _ hs hm]
  simp only [txtR]
  rw [if_neg (by simp), List.take_left, List.drop_left]
theorem txt_cut (most : Nat) (s : List UInt8) (hs : s.length ≤ most) (hm : most < 18446744073709551616) (j : Nat) (hj : j < (tB s).length) : txt most ((tB s).take j) = .error 8 := by
  unfold txt tB
  unfold tB at hj
  rw [List.length_append] at hj
  rcases Nat.lt_or_ge j (uB s.length).length with h | h
  · rw [List.take_append_of_le_length (by omega), len_cut most _ (by omega) j h]; rfl
  · rw [List.take_append, List.take_of_length_le h, len_back most _ hs hm]
    simp only [txtR]
    rw [if_pos (by rw [List.length_take]; omega)]
theorem txt_ok {most : Nat} {l t s : List UInt8} (h : txt most l = .ok (s, t)) : l = tB s ++ t ∧ s.length ≤ most := by
  unfold txt txtR at h
  split at h
  · rename_i n u hn
    have h2 := len_ok hn
    have h3 := read_ok h2.1
    split at h
    · cases h
    · rename_i hlt
      simp only [Except.ok.injEq, Prod.mk.injEq] at h
      obtain ⟨rfl, rfl⟩ := h
      have e : (u.take n).length = n := by rw [List.length_take]; omega
      refine ⟨?_, by rw [e]; exact h2.2⟩
      unfold tB
      rw [e, List.append_assoc, List.take_append_drop]; exact h3.1
  · cases h
/-! eight bytes -/
theorem oct_app : ∀ (l : List UInt8) (n : Nat) (t : List UInt8), oct l.length n (l ++ t) = .ok (l.foldl (fun a c => a * 256 + c.toNat) n, t)
  | [], n, t => rfl
  | c :: l, n, t => by simp only [List.length_cons, List.cons_append, oct, List.foldl_cons]; exact oct_app l _ t
theorem oct_cut : ∀ (l : List UInt8) (i n : Nat), l.length < i → oct i n l = .error 8
  | [], i, n, h => by cases i with | zero => cases h | succ i => rfl
  | c :: l, i, n, h => by cases i with | zero => cases h | succ i => simp only [oct]; exact oct_cut l i _ (by simpa using h)
theorem oct_ok : ∀ (i n : Nat) (l t : List UInt8) (m : Nat), oct i n l = .ok (m, t) → ∃ p, l = p ++ t ∧ p.length = i ∧ m = p.foldl (fun a c => a * 256 + c.toNat) n
  | 0, n, l, t, m, h => by simp only [oct, Except.ok.injEq, Prod.mk.injEq] at h; exact ⟨[], by rw [h.2]; rfl, rfl, h.1.symm⟩
  | i + 1, n, [], t, m, h => by cases h
  | i + 1, n, c :: l, t, m, h => by obtain ⟨p, h1, h2, h3⟩ := oct_ok i _ l t m h; exact ⟨c :: p, by rw [h1]; rfl, by rw [List.length_cons, h2], h3⟩
theorem eB_list (n : Nat) : eB n = [(n / 72057594037927936).toUInt8, (n / 281474976710656).toUInt8, (n / 1099511627776).toUInt8, (n / 4294967296).toUInt8, (n / 16777216).toUInt8, (n / 65536).toUInt8, (n / 256).toUInt8, (n / 1).toUInt8] := rfl
theorem fold_eB (n : Nat) (hn : n < 18446744073709551616) : (eB n).foldl (fun a c => a * 256 + c.toNat) 0 = n := by
  rw [eB_list]
  simp only [List.foldl_cons, List.foldl_nil]
  have e : ∀ m : Nat, m.toUInt8.toNat = m % 256 := fun _ => rfl
  simp only [e]
  omega
theorem eB_fold (a b c d e f g h : UInt8) : eB ([a, b, c, d, e, f, g, h].foldl (fun a c => a * 256 + c.toNat) 0) = [a, b, c, d, e, f, g, h] := by
  have ha := a.toNat_lt
  have hb := b.toNat_lt
  have hc := c.toNat_lt
  have hd := d.toNat_lt
  have he := e.toNat_lt
  have hf := f.toNat_lt
  have hg := g.toNat_lt
  have hh := h.toNat_lt
  rw [eB_list]
  simp only [List.foldl_cons, List.foldl_nil]
  have q : ∀ (m : Nat) (x : UInt8), m % 256 = x.toNat → m.toUInt8 = x := fun m x hm => UInt8.toNat_inj.1 (show m % 256 = _ from hm)
  rw [q _ a, q _ b, q _ c, q _ d, q _ e, q _ f, q _ g, q _ h] <;> omega
theorem oct_back (n : Nat) (hn : n < 18446744073709551616) (t : List UInt8) : oct 8 0 (eB n ++ t) = .ok (n, t) := by
  have := oct_app (eB n) 0 t
  rw [show (eB n).length = 8 from eTo_len _ _, fold_eB n hn] at this
  exact this
theorem oct8_ok {l t : List UInt8} {m : Nat} (h : oct 8 0 l = .ok (m, t)) : l = eB m ++ t ∧ m < 18446744073709551616 := by
  obtain ⟨p, rfl, h2, h3⟩ := oct_ok 8 0 l t m h
  match p, h2, h3 with
  | [a, b, c, d, e, f, g, i], _, h3 =>
    refine ⟨by rw [h3, eB_fold], ?_⟩
    have ha := a.toNat_lt
    have hb := b.toNat_lt
    have hc := c.toNat_lt
    have hd := d.toNat_lt
    have he := e.toNat_lt
    have hf := f.toNat_lt
    have hg := g.toNat_lt
    have hh := i.toNat_lt
    simp only [List.foldl_cons, List.foldl_nil] at h3
    omega
/-! values -/
theorem right_form {v : V} (h : v.right = true) : v = ⟨0, 0, 0, []⟩ ∨ (∃ n, v = ⟨1, n, 0, []⟩ ∧ (n = 0 ∨ n = 1)) ∨ (∃ n, v = ⟨2, n, 0, []⟩) ∨ (∃ b, v = ⟨3, 0, b, []⟩) ∨ (∃ s, v = ⟨4, 0, 0, s⟩ ∧ s.length ≤ 4096) ∨ (∃ s, v = ⟨5, 0, 0, s⟩ ∧ s.length ≤ 4096) := by
  obtain ⟨k, n, b, s⟩ := v
  obtain ⟨hk, hn, hs⟩ := right_kind h
  rw [show V.right ⟨k, n, b, s⟩ = Val.rightB k n b (S s) from rfl] at h
  unfold Val.rightB Val.eqV at h
  simp only at hk hn hs h
  simp only [ByteArray.toList_eq] at h
  rcases hk with rfl | rfl | rfl | rfl | rfl | rfl
  · simp at h; obtain ⟨h1, h2, h3⟩ := h; left; subst h1 h2; simp; exact h3
  · simp at h; obtain ⟨⟨h2, h3⟩, h4⟩ := h; right; left; exact ⟨n, by simp [h2, h3], hn rfl⟩
  · simp at h; obtain ⟨h2, h3⟩ := h; right; right; left; exact ⟨n, by simp [h2, h3]⟩
  · simp at h; right; right; right; left; exact ⟨b, by simp [h]⟩
  · simp at h; right; right; right; right; left; exact ⟨s, by simp [h], hs (Or.inl rfl)⟩
  · simp at h; right; right; right; right; right; exact ⟨s, by simp [h], hs (Or.inr rfl)⟩
end Cod
end Go.Proofs.Ytinnkdbojgoicaa
