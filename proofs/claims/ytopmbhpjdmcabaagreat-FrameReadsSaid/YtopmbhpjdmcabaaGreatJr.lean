/- A reader's text and number, whatever state it is in: what is told, and that it is what was written there. Conditions: the reader's place is within its bytes, which are at most 2^48. -/
import Derived.Test.YtopmbhpjdmcabaaGreatQc
import Derived.Test.YtopmbhpjdmcabaaGreatJa
namespace Go.Proofs.YtopmbhpjdmcabaaGreat
open Go.RowKit
namespace Sch
open Cod
theorem txt_tB (m : Nat) (nm X : List UInt8) (h : nm.length ≤ m) (hm : m ≤ 1000000) : txt m (tB nm ++ X) = .ok (nm, X) := by
  unfold txt txtR len lenR tB
  rw [List.append_assoc, read_uB _ _ (by omega)]
  simp only
  rw [if_neg (by omega)]
  simp only
  rw [if_neg (by simp)]
  simp
theorem txt_len {m : Nat} {l a t : List UInt8} (h : txt m l = .ok (a, t)) : a.length ≤ l.length ∧ t.length ≤ l.length := by
  unfold txt txtR at h
  split at h
  · rename_i n t' hl
    split at h
    · cases h
    · simp only [Except.ok.injEq, Prod.mk.injEq] at h
      obtain ⟨rfl, rfl⟩ := h
      unfold len lenR at hl
      split at hl
      · rename_i n2 t2 hn
        split at hl
        · cases hl
        · simp only [Except.ok.injEq, Prod.mk.injEq] at hl
          obtain ⟨rfl, rfl⟩ := hl
          have := (read_ok hn).1
          have h2 : l.length = (uB n2).length + t2.length := by rw [this, List.length_append]
          rw [List.length_take, List.length_drop]
          omega
      · cases hl
  · cases h
theorem drop_end {s : ByteArray} {p : Nat} {pre t : List UInt8} (h : s.data.toList.drop p = pre ++ t) : s.data.toList.drop (s.size - t.length) = t := (rest_at h).1
def TextP (r : Nat) (s : ByteArray) (p : Nat) (e : Int) (w : World) (en : Ending) (w' : World) : Prop := ∃ (l : List UInt8) (p' : Nat) (e' : Int), en = .returned (.string (S l)) ∧ Rdr r s p' e' w' ∧ But r w w' ∧ p' ≤ s.size ∧ l.length ≤ s.size ∧ (∀ nm X, e = 0 → s.data.toList.drop p = tB nm ++ X → nm.length ≤ 1000000 → l = nm ∧ e' = 0 ∧ s.data.toList.drop p' = X)
def NumP (r : Nat) (s : ByteArray) (p : Nat) (e : Int) (w : World) (en : Ending) (w' : World) : Prop := ∃ (v : Nat) (p' : Nat) (e' : Int), en = .returned (.int .u64 v) ∧ Rdr r s p' e' w' ∧ But r w w' ∧ p' ≤ s.size ∧ v < 18446744073709551616 ∧ (∀ n X, e = 0 → s.data.toList.drop p = uB n ++ X → n < 18446744073709551616 → v = n ∧ e' = 0 ∧ s.data.toList.drop p' = X)
theorem text_uni (r : Nat) (s : ByteArray) (p : Nat) (e : Int) (w : World) (h : Rdr r s p e w) (hp : p ≤ s.size) (hs : s.size ≤ 281474976710656) :
    Calls Tryz.prog 100 #[.pointer (some ⟨r, 0, none⟩)] w fun en w' => TextP r s p e w en w' := by
  by_cases he : e = 0
  · subst he
    have hl : (s.data.toList.drop p).length ≤ s.size := by rw [List.length_drop, len_eq]; omega
    refine (call_t r s p w h hp hs).mono ?_
    cases hR : txt 1000000 (s.data.toList.drop p) with
    | ok at' =>
      obtain ⟨a, t⟩ := at'
      rintro en w' ⟨v, rfl, rfl, hr, hb⟩
      have hln := txt_len hR
      refine ⟨a, s.size - t.length, 0, rfl, hr, hb, Nat.sub_le _ _, by omega, fun nm X _ hd hn => ?_⟩
      rw [hd, txt_tB _ _ _ hn (by omega)] at hR
      simp only [Except.ok.injEq, Prod.mk.injEq] at hR
      obtain ⟨rfl, rfl⟩ := hR
      exact ⟨rfl, rfl, drop_end hd⟩
    | error x =>
      rintro en w' ⟨rfl, hr, hb⟩
      refine ⟨[], p, x, rfl, hr, hb, hp, by simp, fun nm X _ hd hn => ?_⟩
      rw [hd, txt_tB _ _ _ hn (by omega)] at hR
      cases hR
  · refine (m_t_shut r s p e (by simpa using he) w h).mono ?_
    rintro en w' ⟨rfl, hb⟩
    exact ⟨[], p, e, rfl, h.later hb, .of hb, hp, by simp, fun _ _ h0 => absurd h0 he⟩
theorem num_uni (r : Nat) (s : ByteArray) (p : Nat) (e : Int) (w : World) (h : Rdr r s p e w) (hp : p ≤ s.size) (hs : s.size ≤ 281474976710656) :
    Calls Tryz.prog 73 #[.pointer (some ⟨r, 0, none⟩)] w fun en w' => NumP r s p e w en w' := by
  by_cases he : e = 0
  · subst he
    refine (call_u r s p w h hp hs).mono ?_
    cases hR : num 0 0 (s.data.toList.drop p) with
    | ok at' =>
      obtain ⟨a, t⟩ := at'
      rintro en w' ⟨v, rfl, rfl, hr, hb⟩
      refine ⟨a, s.size - t.length, 0, rfl, hr, hb, Nat.sub_le _ _, (read_ok hR).2, fun n X _ hd hn => ?_⟩
      rw [hd, read_uB _ _ hn] at hR
      simp only [Except.ok.injEq, Prod.mk.injEq] at hR
      obtain ⟨rfl, rfl⟩ := hR
      exact ⟨rfl, rfl, drop_end hd⟩
    | error x =>
      rintro en w' ⟨rfl, hr, hb⟩
      refine ⟨0, p, x, rfl, hr, hb, hp, by omega, fun n X _ hd hn => ?_⟩
      rw [hd, read_uB _ _ hn] at hR
      cases hR
  · refine (m_u_shut r s p e (by simpa using he) w h).mono ?_
    rintro en w' ⟨rfl, hb⟩
    exact ⟨0, p, e, rfl, h.later hb, .of hb, hp, by omega, fun _ _ h0 => absurd h0 he⟩
end Sch
end Go.Proofs.YtopmbhpjdmcabaaGreat
