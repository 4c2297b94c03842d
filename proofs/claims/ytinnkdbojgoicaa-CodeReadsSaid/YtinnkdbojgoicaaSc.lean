/- Both readers, step by step: what each call tells, and where both stand behind it. Conditions: the pointers are to readers of the same bytes, at the same place, with the same error; the bytes are at most 2^48. -/
import Derived.Test.YtinnkdbojgoicaaSb
import Derived.Test.YtinnkdbojgoicaaCz
namespace Go.Proofs.Ytinnkdbojgoicaa
open Go.RowKit
namespace Rr
open Cod
/-- All is well, or there is an error. -/
def Eor (e : Int) : Prop := e = 0 ∨ (e != 0) = true
theorem eor_of {x : Nat} (h : x = 7 ∨ x = 8 ∨ x = 19) : Eor (x : Int) := .inr (by simp; omega)
theorem back_le (s : ByteArray) (t : List UInt8) : s.size - t.length ≤ s.size := Nat.sub_le _ _
theorem step_u (r x : Nat) (s : ByteArray) (p : Nat) (e : Int) (hp : p ≤ s.size) (hs : s.size ≤ 281474976710656) (he : Eor e) :
    ∃ (n : Int) (p2 : Nat) (e2 : Int), p2 ≤ s.size ∧ Eor e2 ∧
      (∀ u, Rdr r s p e u → Calls Try.prog 13 #[.pointer (some ⟨r, 0, none⟩)] u fun en w' => en = .returned (.int .u64 n) ∧ Rdr r s p2 e2 w' ∧ But r u w') ∧
      (∀ u, Rrd x s p e u → Calls Try.prog 14 #[.pointer (some ⟨x, 0, none⟩)] u fun en w' => en = .returned (.int .u64 n) ∧ Rrd x s p2 e2 w' ∧ But x u w') := by
  rcases he with rfl | he
  · cases hR : num 0 0 (s.data.toList.drop p) with
    | error y =>
      refine ⟨0, p, y, hp, eor_of (by have := num_err _ _ _ _ hR; omega), fun u h => ?_, fun u h => ?_⟩
      · have := call_u r s p u h hp hs
        rw [hR] at this
        exact this
      · have := uint_call x s p u h hp hs
        rw [hR] at this
        exact this
    | ok at' =>
      obtain ⟨a, t⟩ := at'
      refine ⟨(a : Nat), s.size - t.length, 0, back_le s t, .inl rfl, fun u h => ?_, fun u h => ?_⟩
      · have := call_u r s p u h hp hs
        rw [hR] at this
        exact this.mono fun en w' ⟨v, h1, h2, h3, h4⟩ => ⟨h1.trans (congrArg Ending.returned h2), h3, h4⟩
      · have := uint_call x s p u h hp hs
        rw [hR] at this
        exact this.mono fun en w' ⟨v, h1, h2, h3, h4⟩ => ⟨h1.trans (congrArg Ending.returned h2), h3, h4⟩
  · refine ⟨0, p, e, hp, .inr he, fun u h => ?_, fun u h => ?_⟩
    · exact (m_u_shut r s p e he u h).mono fun en w' ⟨h1, h2⟩ => ⟨h1, h.later h2, .of h2⟩
    · exact uint_stay x s p e he u h
theorem step_i (r x : Nat) (s : ByteArray) (p : Nat) (e : Int) (hp : p ≤ s.size) (hs : s.size ≤ 281474976710656) (he : Eor e) :
    ∃ (n : Int) (p2 : Nat) (e2 : Int), p2 ≤ s.size ∧ Eor e2 ∧
      (∀ u, Rdr r s p e u → Calls Try.prog 15 #[.pointer (some ⟨r, 0, none⟩)] u fun en w' => en = .returned (.int .i64 n) ∧ Rdr r s p2 e2 w' ∧ But r u w') ∧
      (∀ u, Rrd x s p e u → Calls Try.prog 16 #[.pointer (some ⟨x, 0, none⟩)] u fun en w' => en = .returned (.int .i64 n) ∧ Rrd x s p2 e2 w' ∧ But x u w') := by
  rcases he with rfl | he
  · cases hR : sig (s.data.toList.drop p) with
    | error y =>
      refine ⟨0, p, y, hp, eor_of (by have := sig_err hR; omega), fun u h => ?_, fun u h => ?_⟩
      · have := call_i r s p u h hp hs
        rw [hR] at this
        exact this
      · have := int_call x s p u h hp hs
        rw [hR] at this
        exact this
    | ok at' =>
      obtain ⟨a, t⟩ := at'
      refine ⟨a, s.size - t.length, 0, back_le s t, .inl rfl, fun u h => ?_, fun u h => ?_⟩
      · have := call_i r s p u h hp hs
        rw [hR] at this
        exact this.mono fun en w' ⟨v, h1, h2, h3, h4⟩ => ⟨h1.trans (congrArg Ending.returned h2), h3, h4⟩
      · have := int_call x s p u h hp hs
        rw [hR] at this
        exact this.mono fun en w' ⟨v, h1, h2, h3, h4⟩ => ⟨h1.trans (congrArg Ending.returned h2), h3, h4⟩
  · refine ⟨0, p, e, hp, .inr he, fun u h => ?_, fun u h => ?_⟩
    · exact (m_i_shut r s p e he u h).mono fun en w' ⟨h1, h2⟩ => ⟨h1, h.later h2, .of h2⟩
    · exact int_stay x s p e he u h
theorem step_t (r x : Nat) (s : ByteArray) (p : Nat) (e : Int) (hp : p ≤ s.size) (hs : s.size ≤ 281474976710656) (he : Eor e) :
    ∃ (t : ByteArray) (p2 : Nat) (e2 : Int), p2 ≤ s.size ∧ Eor e2 ∧
      (∀ u, Rdr r s p e u → Calls Try.prog 17 #[.pointer (some ⟨r, 0, none⟩)] u fun en w' => en = .returned (.string t) ∧ Rdr r s p2 e2 w' ∧ But r u w') ∧
      (∀ u, Rrd x s p e u → Calls Try.prog 18 #[.pointer (some ⟨x, 0, none⟩)] u fun en w' => en = .returned (.string t) ∧ Rrd x s p2 e2 w' ∧ But x u w') := by
  rcases he with rfl | he
  · cases hR : txt 1000000 (s.data.toList.drop p) with
    | error y =>
      refine ⟨⟨#[]⟩, p, y, hp, eor_of (txt_err hR), fun u h => ?_, fun u h => ?_⟩
      · have := call_t r s p u h hp hs
        rw [hR] at this
        exact this
      · have := text_call x s p u h hp hs
        rw [hR] at this
        exact this
    | ok at' =>
      obtain ⟨a, t⟩ := at'
      refine ⟨S a, s.size - t.length, 0, back_le s t, .inl rfl, fun u h => ?_, fun u h => ?_⟩
      · have := call_t r s p u h hp hs
        rw [hR] at this
        exact this.mono fun en w' ⟨v, h1, h2, h3, h4⟩ => ⟨h1.trans (congrArg Ending.returned h2), h3, h4⟩
      · have := text_call x s p u h hp hs
        rw [hR] at this
        exact this.mono fun en w' ⟨v, h1, h2, h3, h4⟩ => ⟨h1.trans (congrArg Ending.returned h2), h3, h4⟩
  · refine ⟨⟨#[]⟩, p, e, hp, .inr he, fun u h => ?_, fun u h => ?_⟩
    · exact (m_t_shut r s p e he u h).mono fun en w' ⟨h1, h2⟩ => ⟨h1, h.later h2, .of h2⟩
    · exact text_stay x s p e he u h
theorem step_v (r x : Nat) (s : ByteArray) (p : Nat) (e : Int) (hp : p ≤ s.size) (hs : s.size ≤ 281474976710656) (he : Eor e) :
    ∃ (k n b : Int) (t : ByteArray) (p2 : Nat) (e2 : Int), p2 ≤ s.size ∧ Eor e2 ∧
      (∀ u, Rdr r s p e u → Calls Try.prog 19 #[.pointer (some ⟨r, 0, none⟩)] u fun en w' => en = .returned (.agg #[.int .i64 k, .int .i64 n, .int .u64 b, .string t]) ∧ Rdr r s p2 e2 w' ∧ But r u w') ∧
      (∀ u, Rrd x s p e u → Calls Try.prog 20 #[.pointer (some ⟨x, 0, none⟩)] u fun en w' => en = .returned (.agg #[.int .i64 k, .int .i64 n, .int .u64 b, .string t]) ∧ Rrd x s p2 e2 w' ∧ But x u w') := by
  rcases he with rfl | he
  · cases hR : val (s.data.toList.drop p) with
    | error y =>
      refine ⟨0, 0, 0, ⟨#[]⟩, p, y, hp, eor_of (Rr.val_err hR), fun u h => ?_, fun u h => ?_⟩
      · have := call_v r s p u h hp hs
        rw [hR] at this
        exact this
      · have := value_call x s p u h hp hs
        rw [hR] at this
        exact this
    | ok at' =>
      obtain ⟨a, t⟩ := at'
      refine ⟨a.k, a.n, a.b, S a.s, s.size - t.length, 0, back_le s t, .inl rfl, fun u h => ?_, fun u h => ?_⟩
      · have := call_v r s p u h hp hs
        rw [hR] at this
        exact this.mono fun en w' ⟨v, h1, h2, h3, h4⟩ => ⟨h1.trans (congrArg Ending.returned h2), h3, h4⟩
      · have := value_call x s p u h hp hs
        rw [hR] at this
        exact this.mono fun en w' ⟨v, h1, h2, h3, h4⟩ => ⟨h1.trans (congrArg Ending.returned h2), h3, h4⟩
  · refine ⟨0, 0, 0, ⟨#[]⟩, p, e, hp, .inr he, fun u h => ?_, fun u h => ?_⟩
    · exact (m_v_shut r s p e he u h).mono fun en w' ⟨h1, h2⟩ => ⟨h1, h.later h2, .of h2⟩
    · exact value_stay x s p e he u h
theorem weak_base {b b' n sz : Nat} {T : TypeId} {v : Value} {xs : List Value} {w : World} (h : w.ownsRow b T sz v n xs) (hb : b' ≤ b) : w.ownsRow b' T sz v n xs :=
  ⟨h.1, h.2.imp id fun ⟨g, cap, cur, h1, h2, h3⟩ => ⟨g, cap, cur, h1, Nat.le_trans hb h2, h3⟩⟩
theorem step_l (r x : Nat) (s : ByteArray) (p : Nat) (e : Int) (hp : p ≤ s.size) (hs : s.size ≤ 281474976710656) (he : Eor e) :
    ∃ (vs : List V) (p2 : Nat) (e2 : Int), vs.length ≤ 1000 ∧ p2 ≤ s.size ∧ Eor e2 ∧
      (∀ u, Rdr r s p e u → Calls Try.prog 22 #[.pointer (some ⟨r, 0, none⟩)] u fun en w' => ∃ sa, en = .returned sa ∧ w'.ownsRow 0 33 4 sa vs.length (flat vs) ∧ Rdr r s p2 e2 w' ∧ But r u w') ∧
      (∀ u, Rrd x s p e u → Calls Try.prog 23 #[.pointer (some ⟨x, 0, none⟩)] u fun en w' => ∃ sb, en = .returned sb ∧ w'.ownsRow 0 33 4 sb vs.length (flat vs) ∧ Rrd x s p2 e2 w' ∧ But x u w') := by
  rcases he with rfl | he
  · cases hR : row (s.data.toList.drop p) with
    | error y =>
      refine ⟨[], p, y, by simp, hp, eor_of (row_err hR), fun u h => ?_, fun u h => ?_⟩
      · have := call_l r s p u h hp hs
        rw [hR] at this
        exact this.mono fun en w' ⟨h1, h2⟩ => ⟨_, h1, World.ownsRow_nil _ _ _ _, h2⟩
      · have := row_call x s p u h hp hs
        rw [hR] at this
        exact this.mono fun en w' ⟨h1, h2⟩ => ⟨_, h1, World.ownsRow_nil _ _ _ _, h2⟩
    | ok at' =>
      obtain ⟨a, t⟩ := at'
      refine ⟨a, s.size - t.length, 0, (row_ok hR).2.1, back_le s t, .inl rfl, fun u h => ?_, fun u h => ?_⟩
      · have := call_l r s p u h hp hs
        rw [hR] at this
        exact this.mono fun en w' ⟨v, h1, h2, h3⟩ => ⟨v, h1, weak_base h2 (Nat.zero_le _), h3⟩
      · have := row_call x s p u h hp hs
        rw [hR] at this
        exact this.mono fun en w' ⟨v, h1, h2, h3⟩ => ⟨v, h1, weak_base h2 (Nat.zero_le _), h3⟩
  · refine ⟨[], p, e, by simp, hp, .inr he, fun u h => ?_, fun u h => ?_⟩
    · exact (m_l_shut r s p e he u h).mono fun en w' ⟨h1, h2⟩ => ⟨_, h1, World.ownsRow_nil _ _ _ _, h.later h2, .of h2⟩
    · exact (row_stay x s p e he u h).mono fun en w' ⟨h1, h2⟩ => ⟨_, h1, World.ownsRow_nil _ _ _ _, h2⟩
theorem types_apart : (41 : TypeId) ≠ 33 := by decide
/-- A row of values stays where a reader's block is written. -/
theorem owns_rrd {x base n : Nat} {s : ByteArray} {p e : Int} {v : Value} {xs : List Value} {w w' : World} (h : w.ownsRow base 33 4 v n xs) (hx : Rrd x s p e w) (hb : But x w w') : w'.ownsRow base 33 4 v n xs := by
  refine ⟨h.1, ?_⟩
  rcases h.2 with h2 | ⟨g, cap, cur, hv, hg, hh, rest⟩
  · exact .inl h2
  · refine .inr ⟨g, cap, cur, hv, hg, hb.keeps (fun e => ?_) hh, rest⟩
    subst e
    unfold Rrd at hx
    rw [hh] at hx
    simp only [Option.some.injEq, Obj.cells.injEq] at hx
    exact types_apart hx.2.1.symm
/-- Both readers, in one world. -/
def Two (r x : Nat) (s : ByteArray) (p : Nat) (e : Int) (w0 w : World) : Prop := Rdr r s p e w ∧ Rrd x s p e w ∧ Below w0.heap.size w0 w
theorem Two.later {r x : Nat} {s : ByteArray} {p : Nat} {e : Int} {w0 w w' : World} (h : Two r x s p e w0 w) (hb : Below w.heap.size w w') : Two r x s p e w0 w' :=
  ⟨h.1.later hb, h.2.1.later hb, h.2.2.trans (hb.mono h.2.2.size)⟩
/-- Behind a call of each. -/
theorem Two.step {r x : Nat} {s : ByteArray} {p p2 : Nat} {e e2 : Int} {w0 w w1 w2 : World} (h : Two r x s p e w0 w) (hn : r ≠ x) (hr : w0.heap.size ≤ r) (hx : w0.heap.size ≤ x)
    (h1 : Rdr r s p2 e2 w1) (b1 : But r w w1) (h2 : Rrd x s p2 e2 w2) (b2 : But x w1 w2) : Two r x s p2 e2 w0 w2 :=
  ⟨h1.but hn b2, h2, (b2.then (b1.then h.2.2 hr h.2.2.size) hx (Nat.le_trans h.2.2.size b1.size))⟩
end Rr
end Go.Proofs.Ytinnkdbojgoicaa
