/- A log's life beside a row of texts of the caller's own; a crash beneath it. No condition. -/
import Derived.Test.YtpamffheapnoaaaWy
namespace Go.Proofs.Ytpamffheapnoaaa
open Go.RowKit
namespace Wal
open Dsk (PD Mine KeepQ DiskIs Only Grow upd pad BoolsAt IntsAt dirty_len)
open Crc (S S_of S_size S_append S_add hidm)
theorem bools_take {ks : List Bool} {ao : Option Addr} {cap : Nat} {w : World} (h : BoolsAt ks ao cap w) (m : Nat) (hm : m ≤ ks.length) : BoolsAt (ks.take m) ao cap w := by
  obtain ⟨h1, h2, h3⟩ := h
  refine ⟨by rw [List.length_take]; omega, h2, fun hne => ?_⟩
  obtain ⟨b, o, e, hlt, hc⟩ := h3 (fun e => hne (by rw [e]; simp))
  refine ⟨b, o, e, hlt, fun j hj => ?_⟩
  rw [List.length_take] at hj
  rw [List.getElem_take]
  exact hc j (by omega)
section
variable {W : World} {Q : Nat → Prop} {L D F n N k t b : Nat} {A B : List R} {w w' : World} {v : Value} {xs : List (List UInt8)}

/-- Blocks of Q alone change. -/
theorem Lg.guardO {T : Nat → Prop} (h : Lg W Q L D F n N k t b A B w) (ho : Only T w w') (hT : ∀ j, T j → Q j ∧ W.heap.size ≤ j) : Lg W (fun j => Q j ∨ (w.heap.size ≤ j ∧ j < w'.heap.size)) L D F n N k t b A B w' := by
  obtain ⟨d, hp, h2⟩ := h.ex
  exact ⟨⟨d, hp.guardO ho hT, h2⟩, h.fit, h.few, h.top⟩
theorem Lg.more (h : Lg W Q L D F n N k t b A B w) {k' : Nat} (hk : k ≤ k') (hk' : k' ≤ 800000) : Lg W Q L D F n N k' t b A B w := by
  obtain ⟨d, hp, hl, hf, hu⟩ := h.ex
  exact ⟨⟨d, hp, hl, hf.more hk, hu⟩, h.fit, hk', h.top⟩
/-- The row v of texts of the law's own beside the log. -/
structure Live (W : World) (Q : Nat → Prop) (L D F n N k t b : Nat) (A B : List R) (v : Value) (xs : List (List UInt8)) (w : World) : Prop where
  lg : Lg W Q L D F n N k t b A B w
  own : w.ownsRow 0 9 1 v xs.length (strs xs)
  rO : ∀ g, v.ownBlock = some g → Q g
  low : ∀ g, Q g → W.heap.size ≤ g
theorem Live.later (h : Live W Q L D F n N k t b A B v xs w) (hb : Below w.heap.size w w') : Live W (fun j => Q j ∨ (w.heap.size ≤ j ∧ j < w'.heap.size)) L D F n N k t b A B v xs w' := by
  have hs := h.lg.bel.size
  refine ⟨h.lg.guard hb, Dsk.owns_later h.own hb, fun g hg => .inl (h.rO g hg), fun g hg => ?_⟩
  rcases hg with hg | hg
  · exact h.low g hg
  · omega
theorem Live.call {L' k' t' b' : Nat} {A' B' : List R} (h : Live W Q L D F n N k t b A B v xs w) (hl : Lg W Q L' D F n N k' t' b' A' B' w') (hk : KeepQ Q w w') : Live W Q L' D F n N k' t' b' A' B' v xs w' :=
  ⟨hl, Dsk.ownsRow_of h.own (fun g hg => hk g (h.rO g hg)), h.rO, h.low⟩
theorem Live.bare (h : Live W Q L D F n N k t b A B v xs w) : Live W Q L D F n N k t b A B (.slice none 0 0) [] w :=
  ⟨h.lg, World.ownsRow_nil _ _ _ _, fun g hg => (by cases hg), h.low⟩
/-- One text more. -/
theorem Live.push {s : List UInt8} {g cap : Nat} (h : Live W Q L D F n N k t b A B v xs w) (hown : w'.ownsRow 0 9 1 (.slice (some ⟨g, 0, none⟩) (xs.length + 1) cap) (xs.length + 1) (strs xs ++ [.string (S s)])) (hgrow : w.grownBy w' v.ownBlock) (hat : v.ownBlock = some g ∨ g = w.heap.size) (hlt : g < w'.heap.size) :
    Live W (fun j => Q j ∨ (w.heap.size ≤ j ∧ j < w'.heap.size)) L D F n N k t b A B (.slice (some ⟨g, 0, none⟩) (xs.length + 1) cap) (xs ++ [s]) w' := by
  have hs := h.lg.bel.size
  have ho : Only (fun j => v.ownBlock = some j) w w' := (Only.refl _ w).grown hgrow (fun j hj => .inl hj)
  refine ⟨h.lg.guardO ho (fun j hj => ⟨h.rO j hj, h.low j (h.rO j hj)⟩), ?_, fun j hj => ?_, fun j hj => ?_⟩
  · rw [strs_snoc, List.length_append]; exact hown
  · have hj : some g = some j := hj
    rw [← Option.some.inj hj]
    rcases hat with e | e
    · exact .inl (h.rO g e)
    · exact .inr ⟨by omega, hlt⟩
  · rcases hj with hj | hj
    · exact h.low j hj
    · omega
/-- What is kept beside it. -/
theorem Live.kept (h : Live W Q L D F n N k t b A B v xs w) (hgrow : w.grownBy w' v.ownBlock) {P : Nat} {cs : Array Value} {ty : TypeId} {fr : Nat × Nat} (hP : w.heap[P]? = some (.cells cs ty fr)) (hty : ty ≠ 9) : w'.heap[P]? = some (.cells cs ty fr) := by
  rw [hgrow.block P (lt_of_block hP) (fun e => ?_)]
  · exact hP
  · rcases h.own.2 with ⟨h2, _⟩ | ⟨b', c, cur, hv, hg, hh, rest⟩
    · rw [h2] at e; cases e
    · rw [hv] at e
      have hbj : P = b' := by simpa [Value.ownBlock] using e
      rw [← hbj, hP] at hh
      simp only [Option.some.injEq, Obj.cells.injEq] at hh
      exact hty hh.2.1
/-- What is not flushed, and a crash. -/
theorem Lg.crash (h : Lg W Q L D F n N k t b A B w) : ∃ nd : Nat, nd ≤ 9223372036854775807 ∧ (Calls Try.prog 20 #[.pointer (some ⟨D, 0, none⟩)] w fun e w' => ∃ vo vc, e = .returned (.slice vo nd vc) ∧ Below w.heap.size w w') ∧
    ∀ w1, Below w.heap.size w w1 → ∀ (ks : List Bool) (so : Option Addr) (sc : Nat), ks.length ≤ nd → BoolsAt ks so sc w1 → (ks ≠ [] → ∀ p, so = some p → p.block < W.heap.size) →
      Calls Try.prog 19 #[.pointer (some ⟨D, 0, none⟩), .slice so ks.length sc] w1 fun e w' => e = .returned (.int .i64 0) ∧ (∃ m, m ≤ B.length ∧ Rest W Q D F n N k t b (A ++ B.take m) w') ∧ KeepQ Q w1 w' := by
  obtain ⟨U, d, hm, hl, hw, hfu, _⟩ := h.under
  refine ⟨d.cs.length, by have h1 := hw.cs; have h2 := h.few; omega, (Dsk.m_dirty hm).mono fun e w' h1 => ?_, fun w1 hb ks so sc hk hbs hso => ?_⟩
  · obtain ⟨vd, he, hi, hb⟩ := h1
    obtain ⟨vo, vc, hvd, _, _⟩ := hi.form
    rw [dirty_len] at hvd
    exact ⟨vo, vc, by rw [he, hvd], hb⟩
  · have hc := Dsk.m_crash ks so sc (hm.later hb) hk hbs (fun hne p hp => .inl (hso hne p hp))
    refine hc.mono fun e w' h1 => ?_
    obtain ⟨he, hm', hkq⟩ := h1
    obtain ⟨m, hmB, hcn⟩ := hl.bd.crash ks
    refine ⟨he, ⟨m, hmB, d.crash ks, ?_, hcn, ⟨hw.n, Nat.zero_le _, hw.wr, hw.fl⟩, rfl, rfl⟩, fun j hj => hkq j (.inl hj)⟩
    obtain ⟨⟨T, hT, hq⟩, hB, hql⟩ := hm'
    exact ⟨⟨T, hT, fun j hj => ⟨(hq j hj).1, fun e => (hq j hj).2 (.inl e)⟩⟩, hB, fun j hj => hql j (.inl hj)⟩
end
theorem opRow (w : World) (a b : Int) (s : ByteArray) (o : Option Addr) (k c : Nat) : (w.alloc (.cells #[.int .i64 a, .int .i64 b, .string s, .slice o k c] 39)).heap[w.heap.size]? = some (.cells #[.int .i64 a, .int .i64 b, .string s, .slice o k c] 39 (0, 0)) := heap_alloc_last w _
end Wal
end Go.Proofs.Ytpamffheapnoaaa
