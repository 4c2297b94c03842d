/- The document's reader's text and number, whatever state it is in. Conditions: the reader's place is within its bytes, which are at most 2^48. -/
import Derived.Test.YtopmbhpjdmcabaaGreatJr
import Derived.Test.YtopmbhpjdmcabaaGreatMf
namespace Go.Proofs.YtopmbhpjdmcabaaGreat
open Go.RowKit
namespace Sch
open Cod Rr
def RTextP (r : Nat) (s : ByteArray) (p : Nat) (e : Int) (w : World) (en : Ending) (w' : World) : Prop := ∃ (l : List UInt8) (p' : Nat) (e' : Int), en = .returned (.string (S l)) ∧ Rrd r s p' e' w' ∧ But r w w' ∧ p' ≤ s.size ∧ l.length ≤ s.size ∧ (∀ nm X, e = 0 → s.data.toList.drop p = tB nm ++ X → nm.length ≤ 1000000 → l = nm ∧ e' = 0 ∧ s.data.toList.drop p' = X)
def RNumP (r : Nat) (s : ByteArray) (p : Nat) (e : Int) (w : World) (en : Ending) (w' : World) : Prop := ∃ (v : Nat) (p' : Nat) (e' : Int), en = .returned (.int .u64 v) ∧ Rrd r s p' e' w' ∧ But r w w' ∧ p' ≤ s.size ∧ v < 18446744073709551616 ∧ (∀ n X, e = 0 → s.data.toList.drop p = uB n ++ X → n < 18446744073709551616 → v = n ∧ e' = 0 ∧ s.data.toList.drop p' = X)
theorem rtext_uni (r : Nat) (s : ByteArray) (p : Nat) (e : Int) (w : World) (h : Rrd r s p e w) (hp : p ≤ s.size) (hs : s.size ≤ 281474976710656) :
    Calls Tryz.prog 78 #[.pointer (some ⟨r, 0, none⟩)] w fun en w' => RTextP r s p e w en w' := by
  by_cases he : e = 0
  · subst he
    have hl : (s.data.toList.drop p).length ≤ s.size := by rw [List.length_drop, len_eq]; omega
    refine (Rr.text_call r s p w h hp hs).mono ?_
    cases hR : txt 1000000 (s.data.toList.drop p) with
    | ok at' =>
      obtain ⟨a, t⟩ := at'
      rintro en w' ⟨v, rfl, rfl, hr, hb⟩
      have hln := txt_len hR
      refine ⟨a, s.size - t.length, 0, rfl, hr, hb, Nat.sub_le _ _, by omega, fun nm X _ hd hn => ?_⟩
      rw [hd, txt_tB _ _ _ hn (by omega)] at hR
      simp only [Except.ok.injEq, Prod.mk.injEq] at hR
      obtain ⟨rfl, rfl⟩ := hR
      exact ⟨rfl, rfl, drop_end hd⟩
    | error x =>
      rintro en w' ⟨rfl, hr, hb⟩
      refine ⟨[], p, x, rfl, hr, hb, hp, by simp, fun nm X _ hd hn => ?_⟩
      rw [hd, txt_tB _ _ _ hn (by omega)] at hR
      cases hR
  · refine (Rr.text_stay r s p e (by simpa using he) w h).mono ?_
    rintro en w' ⟨rfl, hr, hb⟩
    exact ⟨[], p, e, rfl, hr, hb, hp, by simp, fun _ _ h0 => absurd h0 he⟩
theorem rnum_uni (r : Nat) (s : ByteArray) (p : Nat) (e : Int) (w : World) (h : Rrd r s p e w) (hp : p ≤ s.size) (hs : s.size ≤ 281474976710656) :
    Calls Tryz.prog 52 #[.pointer (some ⟨r, 0, none⟩)] w fun en w' => RNumP r s p e w en w' := by
  by_cases he : e = 0
  · subst he
    refine (Rr.uint_call r s p w h hp hs).mono ?_
    cases hR : num 0 0 (s.data.toList.drop p) with
    | ok at' =>
      obtain ⟨a, t⟩ := at'
      rintro en w' ⟨v, rfl, rfl, hr, hb⟩
      refine ⟨a, s.size - t.length, 0, rfl, hr, hb, Nat.sub_le _ _, (read_ok hR).2, fun n X _ hd hn => ?_⟩
      rw [hd, read_uB _ _ hn] at hR
      simp only [Except.ok.injEq, Prod.mk.injEq] at hR
      obtain ⟨rfl, rfl⟩ := hR
      exact ⟨rfl, rfl, drop_end hd⟩
    | error x =>
      rintro en w' ⟨rfl, hr, hb⟩
      refine ⟨0, p, x, rfl, hr, hb, hp, by omega, fun n X _ hd hn => ?_⟩
      rw [hd, read_uB _ _ hn] at hR
      cases hR
  · refine (Rr.uint_stay r s p e (by simpa using he) w h).mono ?_
    rintro en w' ⟨rfl, hr, hb⟩
    exact ⟨0, p, e, rfl, hr, hb, hp, by omega, fun _ _ h0 => absurd h0 he⟩
end Sch
end Go.Proofs.YtopmbhpjdmcabaaGreat
