/- What load keeps beside the log: the place ahead, the slot, the bytes of a record. No condition. -/
import Derived.Test.YtmccnlffikegfaaGreatDoorZWk
import Derived.Test.YtmccnlffikegfaaGreatDoorZPbto
import Derived.Test.YtmccnlffikegfaaGreatDoorZPe
namespace Go.Proofs.YtmccnlffikegfaaGreatDoor
open Go.RowKit
namespace Wal
open Dsk (PD Mine KeepQ DiskIs Only Grow upd pad)
open Crc (S S_of S_size S_append S_add hidm)
section
variable {W : World} {Q : Nat → Prop} {L D : Nat} {g : PL} {d : PD} {w w' : World}
/-- Blocks of Q alone change; what has come is kept, too. -/
theorem Pair.guardO {T : Nat → Prop} (h : Pair W Q L D g d w) (ho : Only T w w') (hT : ∀ k, T k → Q k ∧ W.heap.size ≤ k) : Pair W (fun k => Q k ∨ (w.heap.size ≤ k ∧ k < w'.heap.size)) L D g d w' := by
  obtain ⟨U, sl, ⟨⟨T1, hT1, hq⟩, hB, hql⟩, hl, hu⟩ := h.ex
  refine ⟨U, sl, ⟨⟨T1, hT1.keep ho (fun k hk e => (hq k hk).2 (.inl (hT k e).1)), fun k hk => ⟨(hq k hk).1, fun e => ?_⟩⟩, hB.trans (ho.below (fun k hk => (hT k hk).2) hB.size), fun k hk => ?_⟩, hl.keep (fun k hk => ho.block k (hql k (.inr hk)) (fun e => (hu k hk).2 (hT k e).1)), fun k hk => ⟨(hu k hk).1, fun e => ?_⟩⟩
  · rcases e with (e | e) | e
    · exact (hq k hk).2 (.inl e)
    · have := hT1.lt k hk; omega
    · exact (hq k hk).2 (.inr e)
  · rcases hk with (e | e) | e
    · exact Nat.lt_of_lt_of_le (hql k (.inl e)) ho.size
    · exact e.2
    · exact Nat.lt_of_lt_of_le (hql k (.inr e)) ho.size
  · rcases e with e | e
    · exact (hu k hk).2 e
    · have := hql k (.inr hk); omega
theorem Pair.other {T : Nat → Prop} (h : Pair W Q L D g d w) (ho : Only T w w') (hT : ∀ k, T k → Q k ∧ W.heap.size ≤ k) : Pair W Q L D g d w' := (h.guardO ho hT).less (fun _ e => .inl e)
/-- A block of bytes is none of the log's, and none of the disk's. -/
theorem Pair.with {k : Nat} {cs : Array Value} {fr : Nat × Nat} (h : Pair W Q L D g d w) (hk : w.heap[k]? = some (.cells cs 5 fr)) : Pair W (fun j => Q j ∨ j = k) L D g d w := by
  obtain ⟨U, sl, ⟨⟨T, ⟨M, ao, cap, hA⟩, hq⟩, hB, hql⟩, hl, hu⟩ := h.ex
  have hU : ∀ j, (j = L ∨ sl.ownBlock = some j) → U j := fun j e => by
    rcases e with e | e
    · rw [e]; exact hl.uL
    · exact hl.uR j e
  have hUk : ∀ j, (j = L ∨ sl.ownBlock = some j) → j ≠ k := fun j e ek => by
    subst ek
    rcases e with e | e
    · rw [e, hl.row] at hk; simp at hk
    · rcases hl.own.2 with ⟨h2, _⟩ | ⟨b', c, cur, hv, hg, hh, rest⟩
      · rw [h2] at e; cases e
      · rw [hv] at e
        have hbj : b' = j := by simpa [Value.ownBlock] using e
        rw [hbj, hk] at hh; simp at hh
  have hTT : ∀ j, (j = D ∨ j = M ∨ ∃ p, ao = some p ∧ p.block = j) → T j := fun j e => by
    rcases e with e | e | ⟨p, e1, e2⟩
    · rw [e]; exact hA.tD
    · rw [e]; exact hA.tM
    · rw [← e2]; exact hA.tC p e1
  have hTk : ∀ j, (j = D ∨ j = M ∨ ∃ p, ao = some p ∧ p.block = j) → j ≠ k := fun j e ek => by
    subst ek
    rcases e with e | e | ⟨p, e1, e2⟩
    · rw [e, hA.row] at hk; simp at hk
    · obtain ⟨_, es, c, hh, _⟩ := hA.map
      rw [e, hh] at hk; simp at hk
    · rcases hA.own.2 with ⟨h2, _⟩ | ⟨b', c, cur, hv, hg, hh, rest⟩
      · rw [e1] at h2; simp at h2
      · rw [e1] at hv
        simp only [Value.slice.injEq, Option.some.injEq] at hv
        rw [hv.1] at e2
        have e2 : b' = j := e2
        rw [e2, hk] at hh; simp at hh
  refine ⟨fun j => j = L ∨ sl.ownBlock = some j, sl, ⟨⟨fun j => j = D ∨ j = M ∨ ∃ p, ao = some p ∧ p.block = j, ⟨M, ao, cap, hA.row, hA.map, hA.own, .inl rfl, .inr (.inl rfl), fun p hp => .inr (.inr ⟨p, hp, rfl⟩), fun j hj => hA.lt j (hTT j hj), hA.ok⟩, fun j hj => ⟨(hq j (hTT j hj)).1, fun e => ?_⟩⟩, hB, fun j hj => ?_⟩, ⟨hl.row, hl.own, .inl rfl, fun b hb => .inr hb, hl.ok⟩, fun j hj => ⟨(hu j (hU j hj)).1, fun e => ?_⟩⟩
  · rcases e with (e | e) | e
    · exact (hq j (hTT j hj)).2 (.inl e)
    · exact hTk j hj e
    · exact (hq j (hTT j hj)).2 (.inr (hU j e))
  · rcases hj with (e | e) | e
    · exact hql j (.inl e)
    · rw [e]; exact lt_of_block hk
    · exact hql j (.inr (hU j e))
  · rcases e with e | e
    · exact (hu j (hU j hj)).2 e
    · exact hUk j hj e
end
/-- The place ahead is a (block A), the slot is (t, b) (block B), the record has begun with acc (the slice v); all of it in R, that has come since w0. -/
structure Mem (W : World) (Q : Nat → Prop) (L D : Nat) (g : PL) (d : PD) (w0 : World) (B A : Nat) (t b : Nat) (a : Pl) (v : Value) (acc : List UInt8) (R : Nat → Prop) (w : World) : Prop where
  pair : Pair W (fun k => Q k ∨ R k) L D g d w
  keep : KeepQ Q w0 w
  row : placeRow A (a.turn : Int) a.more (S a.sum) (S a.part) w
  slot : slotRow B (t : Int) (b : Int) w
  own : w.ownsRow w0.heap.size 5 1 v acc.length (Lib.byteCells acc)
  rA : R A
  rB : R B
  rO : ∀ k, v.ownBlock = some k → R k
  low : ∀ k, R k → w0.heap.size ≤ k
  big : W.heap.size ≤ w0.heap.size
  q0 : ∀ k, Q k → k < w0.heap.size
  ne : A ≠ B
section
variable {W : World} {Q : Nat → Prop} {L D : Nat} {g : PL} {d : PD} {w0 : World} {B A t b : Nat} {a : Pl} {v : Value} {acc : List UInt8} {R : Nat → Prop} {w w' : World}
theorem Mem.size (h : Mem W Q L D g d w0 B A t b a v acc R w) : w0.heap.size ≤ w.heap.size := Nat.le_of_lt (Nat.lt_of_le_of_lt (h.low A h.rA) (lt_of_block h.row))
theorem Mem.notQ (h : Mem W Q L D g d w0 B A t b a v acc R w) (k : Nat) (hk : R k) : ¬ Q k := fun e => by
  have h1 := h.low k hk; have h2 := h.q0 k e; omega
theorem Mem.later (h : Mem W Q L D g d w0 B A t b a v acc R w) (hb : Below w.heap.size w w') : Mem W Q L D g d w0 B A t b a v acc (fun k => R k ∨ (w.heap.size ≤ k ∧ k < w'.heap.size)) w' := by
  have hs := h.size
  refine ⟨(h.pair.guard hb).less (fun k e => ?_), h.keep.trans (keepQ_less (h.pair.kept hb) (fun _ e => .inl e)), h.row.later hb, h.slot.later hb, Dsk.owns_later h.own hb, .inl h.rA, .inl h.rB, fun k hk => .inl (h.rO k hk), fun k hk => ?_, h.big, h.q0, h.ne⟩
  · rcases e with e | e | e
    · exact .inl (.inl e)
    · exact .inl (.inr e)
    · exact .inr e
  · rcases hk with hk | hk
    · exact h.low k hk
    · omega
/-- The place ahead is written. -/
theorem Mem.setA (h : Mem W Q L D g d w0 B A t b a v acc R w) (p : Pl) : Mem W Q L D g d w0 B A t b p v acc R (set4 w A (p.turn : Int) p.more (S p.sum) (S p.part)) := by
  have ho : Only (fun k => k = A) w (set4 w A (p.turn : Int) p.more (S p.sum) (S p.part)) := ((((Only.refl (fun k => k = A) w).set (T := fun k => k = A) (p := ⟨A, 0, none⟩) (.inl rfl) _).set (T := fun k => k = A) (p := ⟨A, 1, none⟩) (.inl rfl) _).set (T := fun k => k = A) (p := ⟨A, 2, none⟩) (.inl rfl) _).set (T := fun k => k = A) (p := ⟨A, 3, none⟩) (.inl rfl) _
  have hl := h.size
  refine ⟨h.pair.other ho (fun k hk => ?_), h.keep.trans (fun k hk => ho.block k (h.pair.qlt k (.inl hk)) (fun e => h.notQ A h.rA (by rw [← show k = A from e]; exact hk))), h.row.set _ _ _ _, ?_, ?_, h.rA, h.rB, h.rO, h.low, h.big, h.q0, h.ne⟩
  · have hk : k = A := hk
    rw [hk]
    exact ⟨.inr h.rA, Nat.le_trans h.big (h.low A h.rA)⟩
  · exact h.slot.keep (ho.block B (lt_of_block h.slot) (fun e => h.ne (show B = A from e).symm))
  · refine Dsk.ownsRow_of h.own (fun k hk => ho.block k (h.own.lt k hk).2 (fun e => ?_))
    have e : k = A := e
    rcases h.own.2 with ⟨h2, _⟩ | ⟨b', c, cur, hv, hg, hh, rest⟩
    · rw [h2] at hk; cases hk
    · rw [hv] at hk
      have hbj : b' = k := by simpa [Value.ownBlock] using hk
      rw [hbj, e, h.row] at hh; simp at hh
/-- The record grows. -/
theorem Mem.grown {v' : Value} {acc' : List UInt8} (h : Mem W Q L D g d w0 B A t b a v acc R w) (hg : w.grownBy w' v.ownBlock) (hown : w'.ownsRow w0.heap.size 5 1 v' acc'.length (Lib.byteCells acc')) : Mem W Q L D g d w0 B A t b a v' acc' (fun k => R k ∨ v'.ownBlock = some k) w' := by
  have ho : Only (fun k => v.ownBlock = some k) w w' := (Only.refl _ w).grown hg (fun k hk => .inl hk)
  have hA : v.ownBlock ≠ some A ∧ v.ownBlock ≠ some B := by
    constructor
    · intro hk
      rcases h.own.2 with ⟨h2, _⟩ | ⟨b', c, cur, hv, hg, hh, rest⟩
      · rw [h2] at hk; cases hk
      · rw [hv] at hk
        have hbj : b' = A := by simpa [Value.ownBlock] using hk
        rw [hbj, h.row] at hh; simp at hh
    · intro hk
      rcases h.own.2 with ⟨h2, _⟩ | ⟨b', c, cur, hv, hg, hh, rest⟩
      · rw [h2] at hk; cases hk
      · rw [hv] at hk
        have hbj : b' = B := by simpa [Value.ownBlock] using hk
        rw [hbj, h.slot] at hh; simp at hh
  have hp := h.pair.other ho (fun k hk => ⟨.inr (h.rO k hk), Nat.le_trans h.big (h.low k (h.rO k hk))⟩)
  have hp' : Pair W (fun k => Q k ∨ (R k ∨ v'.ownBlock = some k)) L D g d w' := by
    rcases hown.2 with ⟨h2, _⟩ | ⟨b', c, cur, hv, hgb, hh, rest⟩
    · refine hp.less (fun k e => ?_)
      rcases e with e | e | e
      · exact .inl e
      · exact .inr e
      · rw [h2] at e; cases e
    · refine (hp.with hh).less (fun k e => ?_)
      rcases e with e | e | e
      · exact .inl (.inl e)
      · exact .inl (.inr e)
      · rw [hv] at e
        have hbj : b' = k := by simpa [Value.ownBlock] using e
        exact .inr hbj.symm
  refine ⟨hp', h.keep.trans (fun k hk => ho.block k (h.pair.qlt k (.inl hk)) (fun e => h.notQ k (h.rO k e) hk)), h.row.keep (ho.block A (lt_of_block h.row) hA.1), h.slot.keep (ho.block B (lt_of_block h.slot) hA.2), hown, .inl h.rA, .inl h.rB, fun k hk => .inr hk, fun k hk => ?_, h.big, h.q0, h.ne⟩
  rcases hk with hk | hk
  · exact h.low k hk
  · exact (hown.lt k hk).1
/-- The log alone changes. -/
theorem Mem.log {g' : PL} (h : Mem W Q L D g d w0 B A t b a v acc R w) (hp : Pair W (fun k => Q k ∨ R k) L D g' d w') (hk : KeepQ (fun k => Q k ∨ R k) w w') : Mem W Q L D g' d w0 B A t b a v acc R w' :=
  ⟨hp, h.keep.trans (fun k e => hk k (.inl e)), h.row.keep (hk A (.inr h.rA)), h.slot.keep (hk B (.inr h.rB)), Dsk.ownsRow_of h.own (fun k e => hk k (.inr (h.rO k e))), h.rA, h.rB, h.rO, h.low, h.big, h.q0, h.ne⟩
/-- The record is taken away. -/
theorem Mem.none (h : Mem W Q L D g d w0 B A t b a v acc R w) : Mem W Q L D g d w0 B A t b a (.slice none 0 0) [] R w :=
  ⟨h.pair, h.keep, h.row, h.slot, World.ownsRow_nil _ _ _ _, h.rA, h.rB, fun k hk => (by cases hk), h.low, h.big, h.q0, h.ne⟩
end
/-- How many places records take. -/
def lst : List (List UInt8 × Nat) → Nat → Nat
  | [], u => u
  | x :: l, _ => lst l x.2
theorem lst_snoc (l : List (List UInt8 × Nat)) (x : List UInt8 × Nat) : ∀ u, lst (l ++ [x]) u = x.2 := by
  induction l with
  | nil => intro u; rfl
  | cons y l ih => intro u; exact ih y.2
theorem lst_ends (A : List R) : ∀ i, lst (ends i A) i = i + tot A := by
  induction A with
  | nil => intro i; rfl
  | cons r A ih =>
    intro i
    show lst (ends (i + np r.2) A) (i + np r.2) = _
    rw [ih]
    simp only [tot]
    omega
end Wal
end Go.Proofs.YtmccnlffikegfaaGreatDoor
/- A pager in memory beside its log and its disk; given, place, Len. Conditions: as each says. -/
namespace Go.Proofs.YtmccnlffikegfaaGreatDoor
open Go.RowKit
namespace Pgr
open Wal (Pair PL R)
open Dsk (PD Mine KeepQ Only below_keeps cell_later sec)
/-- A plain pager. -/
structure PV where
  first : Nat
  pages : Nat
  ch : Ch
  halted : Bool
def PV.ok (v : PV) : Prop := v.first ≤ 4096 ∧ 1 ≤ v.pages ∧ v.pages ≤ 1024 ∧ Ok v.pages v.ch
def pcells (P L D M : Nat) (v : PV) : Array Value :=
  #[.pointer (some ⟨P, 0, none⟩), .pointer (some ⟨D, 0, none⟩), .pointer (some ⟨L, 0, none⟩), .int .i64 (v.first : Int), .int .i64 (v.pages : Int), .map (some M), .bool v.halted]
structure PagerAt (P L D M : Nat) (v : PV) (w : World) : Prop where
  row : w.heap[P]? = some (.cells (pcells P L D M v) 85 (0, 0))
  map : MapIs M v.ch w
  ok : v.ok
theorem PagerAt.ne {P L D M : Nat} {v : PV} {w : World} (h : PagerAt P L D M v w) : P ≠ M := fun e => by
  obtain ⟨es, c, hb, _⟩ := h.map
  rw [← e, h.row] at hb
  cases hb
theorem PagerAt.keep {P L D M : Nat} {v : PV} {w w' : World} (h : PagerAt P L D M v w) (h1 : w'.heap[P]? = w.heap[P]?) (h2 : w'.heap[M]? = w.heap[M]?) : PagerAt P L D M v w' := ⟨h1.trans h.row, h.map.keep h2, h.ok⟩
/-- Pager P is v, over the log L and the disk D; all three have come since W, and have nothing of Q. -/
structure Pg (W : World) (Q : Nat → Prop) (P L D : Nat) (v : PV) (g : PL) (d : PD) (w : World) : Prop where
  ex : ∃ M, Pair W (fun k => Q k ∨ k = P ∨ k = M) L D g d w ∧ PagerAt P L D M v w ∧ (W.heap.size ≤ P ∧ ¬ Q P) ∧ (W.heap.size ≤ M ∧ ¬ Q M)
  fit : v.first + v.pages = d.n
section
variable {W : World} {Q : Nat → Prop} {P L D : Nat} {v : PV} {g : PL} {d : PD} {w w' : World}
theorem Pg.ok (h : Pg W Q P L D v g d w) : v.ok := by
  obtain ⟨M, _, hp, _⟩ := h.ex
  exact hp.ok
theorem Pg.bel (h : Pg W Q P L D v g d w) : Below W.heap.size W w := by
  obtain ⟨M, hl, _⟩ := h.ex
  exact hl.bel
theorem Pg.dok (h : Pg W Q P L D v g d w) : d.ok := by
  obtain ⟨M, hl, _⟩ := h.ex
  exact hl.dok
theorem Pg.qlt (h : Pg W Q P L D v g d w) : ∀ k, Q k → k < w.heap.size := by
  obtain ⟨M, hl, _⟩ := h.ex
  exact fun k hk => hl.qlt k (.inl hk)
theorem Pg.cells (h : Pg W Q P L D v g d w) : w.cell? ⟨P, 0, none⟩ = some (.pointer (some ⟨P, 0, none⟩)) ∧ w.cell? ⟨P, 1, none⟩ = some (.pointer (some ⟨D, 0, none⟩)) ∧ w.cell? ⟨P, 2, none⟩ = some (.pointer (some ⟨L, 0, none⟩)) ∧ w.cell? ⟨P, 3, none⟩ = some (.int .i64 (v.first : Int)) ∧ w.cell? ⟨P, 4, none⟩ = some (.int .i64 (v.pages : Int)) ∧ w.cell? ⟨P, 6, none⟩ = some (.bool v.halted) := by
  obtain ⟨M, _, hp, _⟩ := h.ex
  have hc := fun j => cell_of_row w P j _ _ (0, 0) hp.row
  exact ⟨hc 0, hc 1, hc 2, hc 3, hc 4, hc 6⟩
theorem Pg.later (h : Pg W Q P L D v g d w) (hb : Below w.heap.size w w') : Pg W Q P L D v g d w' := by
  obtain ⟨M, hl, hp, h1, h2⟩ := h.ex
  exact ⟨⟨M, hl.later hb, hp.keep (hb.block P (hl.qlt P (.inr (.inl rfl)))) (hb.block M (hl.qlt M (.inr (.inr rfl)))), h1, h2⟩, h.fit⟩
theorem Pg.kept (h : Pg W Q P L D v g d w) (hb : Below w.heap.size w w') : KeepQ Q w w' := fun k hk => hb.block k (h.qlt k hk)
theorem Pg.guardO {T : Nat → Prop} (h : Pg W Q P L D v g d w) (ho : Only T w w') (hT : ∀ k, T k → Q k ∧ W.heap.size ≤ k) : Pg W (fun k => Q k ∨ (w.heap.size ≤ k ∧ k < w'.heap.size)) P L D v g d w' := by
  obtain ⟨M, hl, hp, h1, h2⟩ := h.ex
  have hP := hl.qlt P (.inr (.inl rfl))
  have hM := hl.qlt M (.inr (.inr rfl))
  refine ⟨⟨M, (hl.guardO ho (fun k hk => ⟨.inl (hT k hk).1, (hT k hk).2⟩)).less (fun k hk => ?_), hp.keep (ho.block P hP (fun e => h1.2 (hT P e).1)) (ho.block M hM (fun e => h2.2 (hT M e).1)), ⟨h1.1, fun e => ?_⟩, ⟨h2.1, fun e => ?_⟩⟩, h.fit⟩
  · rcases hk with (e | e) | e
    · exact .inl (.inl e)
    · exact .inr e
    · exact .inl (.inr e)
  · rcases e with e | e
    · exact h1.2 e
    · omega
  · rcases e with e | e
    · exact h2.2 e
    · omega
theorem Pg.guard (h : Pg W Q P L D v g d w) (hb : Below w.heap.size w w') : Pg W (fun k => Q k ∨ (w.heap.size ≤ k ∧ k < w'.heap.size)) P L D v g d w' := h.guardO (T := fun _ => False) (.of hb) (fun _ e => e.elim)
theorem Pg.less {Q' : Nat → Prop} (h : Pg W Q P L D v g d w) (hQ : ∀ k, Q' k → Q k) : Pg W Q' P L D v g d w := by
  obtain ⟨M, hl, hp, h1, h2⟩ := h.ex
  exact ⟨⟨M, hl.less (fun k hk => hk.imp (hQ k) id), hp, ⟨h1.1, fun e => h1.2 (hQ _ e)⟩, ⟨h2.1, fun e => h2.2 (hQ _ e)⟩⟩, h.fit⟩
theorem Pg.other {T : Nat → Prop} (h : Pg W Q P L D v g d w) (ho : Only T w w') (hT : ∀ k, T k → Q k ∧ W.heap.size ≤ k) : Pg W Q P L D v g d w' := (h.guardO ho hT).less (fun _ e => .inl e)
/-- The changes are others. -/
theorem Pg.turn {M : Nat} {ch : Ch} (hl : Pair W (fun k => Q k ∨ k = P ∨ k = M) L D g d w) (hp : PagerAt P L D M v w) (h1 : W.heap.size ≤ P ∧ ¬ Q P) (h2 : W.heap.size ≤ M ∧ ¬ Q M) (hf : v.first + v.pages = d.n)
    (ho : Only (fun k => k = M) w w') (hm : MapIs M ch w') (hok : Ok v.pages ch) : Pg W Q P L D { v with ch := ch } g d w' ∧ KeepQ Q w w' := by
  have hP := hl.qlt P (.inr (.inl rfl))
  refine ⟨⟨⟨M, hl.other ho (fun k hk => by rw [show k = M from hk]; exact ⟨.inr (.inr rfl), h2.1⟩), ⟨?_, hm, hp.ok.1, hp.ok.2.1, hp.ok.2.2.1, hok⟩, h1, h2⟩, hf⟩, fun k hk => ho.block k (hl.qlt k (.inl hk)) (fun e => h2.2 ((show k = M from e) ▸ hk))⟩
  rw [ho.block P hP (fun e => hp.ne e)]
  exact hp.row
/-- The log and the disk are others. -/
theorem Pg.log {M : Nat} {g' : PL} {d' : PD} (hp : PagerAt P L D M v w) (h1 : W.heap.size ≤ P ∧ ¬ Q P) (h2 : W.heap.size ≤ M ∧ ¬ Q M) (hl : Pair W (fun k => Q k ∨ k = P ∨ k = M) L D g' d' w') (hk : KeepQ (fun k => Q k ∨ k = P ∨ k = M) w w') (hf : v.first + v.pages = d'.n) : Pg W Q P L D v g' d' w' ∧ KeepQ Q w w' :=
  ⟨⟨⟨M, hl, hp.keep (hk P (.inr (.inl rfl))) (hk M (.inr (.inr rfl))), h1, h2⟩, hf⟩, fun k hQ => hk k (.inl hQ)⟩
/-- The pager is halted. -/
theorem Pg.halt (h : Pg W Q P L D v g d w) : Pg W Q P L D { v with halted := true } g d (w.setCell ⟨P, 6, none⟩ (.bool true)) ∧ KeepQ Q w (w.setCell ⟨P, 6, none⟩ (.bool true)) := by
  obtain ⟨M, hl, hp, h1, h2⟩ := h.ex
  have ho : Only (fun k => k = P) w (w.setCell ⟨P, 6, none⟩ (.bool true)) := (Only.refl (fun k => k = P) w).set (p := ⟨P, 6, none⟩) (.inl rfl) _
  refine ⟨⟨⟨M, hl.other ho (fun k hk => by rw [show k = P from hk]; exact ⟨.inr (.inl rfl), h1.1⟩), ⟨?_, hp.map.keep (ho.block M (hl.qlt M (.inr (.inr rfl))) (fun e => hp.ne e.symm)), hp.ok⟩, h1, h2⟩, h.fit⟩, fun k hk => ho.block k (hl.qlt k (.inl hk)) (fun e => h1.2 ((show k = P from e) ▸ hk))⟩
  rw [heap_setCell_same w P 6 _ _ _ hp.row]; rfl
end
/-- What is no pager that was given. -/
def NotPager (p : Option Addr) (w : World) : Prop := p = none ∨ ∃ Z, p = some ⟨Z, 0, none⟩ ∧ w.cell? ⟨Z, 0, none⟩ = some (.pointer none)
theorem NotPager.later {p : Option Addr} {w w' : World} (h : NotPager p w) (hb : Below w.heap.size w w') : NotPager p w' := by
  rcases h with h | ⟨Z, h1, h2⟩
  · exact .inl h
  · exact .inr ⟨Z, h1, cell_later hb h2⟩
theorem eqgIn_nil (w : World) (d : Nat) (a : Addr) : (Op.equalIn (d + 1) 23 (.pointer none) (.pointer (some a))).run Tryz.prog w = .ok false w := by
  simp [Op.equalIn, run_underlying Tryz.underlying23]
theorem eqg_nil (w : World) (a : Addr) : (binOp .eql 23 (.pointer none) (.pointer (some a))).run Tryz.prog w = .ok (.bool false) w := by
  simp only [binOp, Sem.run_bind]
  rw [show Op.equal 23 (.pointer none) (.pointer (some a)) = Op.equalIn (9999 + 1) 23 (.pointer none) (.pointer (some a)) from rfl, eqgIn_nil]
  rfl
theorem eqgIn_same (w : World) (d : Nat) (a : Addr) : (Op.equalIn (d + 1) 23 (.pointer (some a)) (.pointer (some a))).run Tryz.prog w = .ok true w := by
  have hs : (sizeOf 85).run Tryz.prog w = .ok 7 w := by simp [go_sem]
  simp [Op.equalIn, run_underlying Tryz.underlying23, hs, run_sameAddr_same]
theorem eqg_same (w : World) (a : Addr) : (binOp .eql 23 (.pointer (some a)) (.pointer (some a))).run Tryz.prog w = .ok (.bool true) w := by
  simp only [binOp, Sem.run_bind]
  rw [show Op.equal 23 (.pointer (some a)) (.pointer (some a)) = Op.equalIn (9999 + 1) 23 (.pointer (some a)) (.pointer (some a)) from rfl, eqgIn_same]
  rfl
set_option maxHeartbeats 1000000 in
theorem gvn_no (p : Option Addr) (w : World) (h : NotPager p w) : Calls Tryz.prog 33 #[.pointer p] w fun e w' => e = .returned (.bool false) ∧ w = w' := by
  rcases h with rfl | ⟨Z, rfl, hz⟩
  · go_enter Tryz.func33, Tryz.ntmps33
    go_wp2_with fail
    go_ret
    exact ⟨rfl, rfl⟩
  · have he := fun w => eqg_nil w ⟨Z, 0, none⟩
    go_enter Tryz.func33, Tryz.ntmps33
    go_wp2_with fail
    go_ret
    exact ⟨rfl, rfl⟩
set_option maxHeartbeats 1000000 in
theorem gvn_yes (P : Nat) (w : World) (h : w.cell? ⟨P, 0, none⟩ = some (.pointer (some ⟨P, 0, none⟩))) : Calls Tryz.prog 33 #[.pointer (some ⟨P, 0, none⟩)] w fun e w' => e = .returned (.bool true) ∧ w = w' := by
  have he := fun w => eqg_same w ⟨P, 0, none⟩
  go_enter Tryz.func33, Tryz.ntmps33
  go_wp2_with fail
  go_ret
  exact ⟨rfl, rfl⟩
set_option maxHeartbeats 1000000 in
theorem plen_no (p : Option Addr) (w : World) (h : NotPager p w) : Calls Tryz.prog 39 #[.pointer p] w fun e w' => e = .returned (.int .i64 0) ∧ w = w' := by
  have G := hidm (gvn_no p w h)
  go_enter Tryz.func39, Tryz.ntmps39
  go_wp2_with fail
  refine G.out.mono ?_
  rintro e w1 ⟨rfl, rfl⟩
  go_wp2_with fail
  go_ret
  exact ⟨rfl, rfl⟩
set_option maxHeartbeats 1000000 in
theorem place_no (p : Option Addr) (k : Int) (w : World) (h : NotPager p w) : Calls Tryz.prog 68 #[.pointer p, .int .i64 k] w fun e w' => e = .returned (.int .i64 13) ∧ w = w' := by
  have G := hidm (gvn_no p w h)
  go_enter Tryz.func68, Tryz.ntmps68
  go_wp2_with fail
  refine G.out.mono ?_
  rintro e w1 ⟨rfl, rfl⟩
  go_wp2_with fail
  go_ret
  exact ⟨rfl, rfl⟩
section
variable {W : World} {Q : Nat → Prop} {P L D : Nat} {v : PV} {g : PL} {d : PD} {w : World}
set_option maxHeartbeats 1000000 in
theorem plen_any (h : Pg W Q P L D v g d w) : Calls Tryz.prog 39 #[.pointer (some ⟨P, 0, none⟩)] w fun e w' => e = .returned (.int .i64 (v.pages : Int)) ∧ w = w' := by
  obtain ⟨c0, _, _, _, c4, _⟩ := h.cells
  have G := hidm (gvn_yes P w c0)
  clear h
  go_enter Tryz.func39, Tryz.ntmps39
  go_wp2_with fail
  refine G.out.mono ?_
  rintro e w1 ⟨rfl, rfl⟩
  go_wp2_with fail
  go_ret
  exact ⟨rfl, rfl⟩
/-- There is no such page. -/
def off (n : Nat) (k : Int) : Prop := k < 0 ∨ (n : Int) ≤ k
set_option maxHeartbeats 1000000 in
theorem place_off (k : Int) (h : Pg W Q P L D v g d w) (hk : off v.pages k) : Calls Tryz.prog 68 #[.pointer (some ⟨P, 0, none⟩), .int .i64 k] w fun e w' => e = .returned (.int .i64 2) ∧ w = w' := by
  obtain ⟨c0, _, _, _, c4, _⟩ := h.cells
  have G := hidm (gvn_yes P w c0)
  clear h
  rcases hk with hk | hk
  · go_enter Tryz.func68, Tryz.ntmps68
    go_wp2_with fail
    refine G.out.mono ?_
    rintro e w1 ⟨rfl, rfl⟩
    go_wp2_with fail
    go_ret
    exact ⟨rfl, rfl⟩
  · by_cases h0 : k < 0
    · go_enter Tryz.func68, Tryz.ntmps68
      go_wp2_with fail
      refine G.out.mono ?_
      rintro e w1 ⟨rfl, rfl⟩
      go_wp2_with fail
      go_ret
      exact ⟨rfl, rfl⟩
    · go_enter Tryz.func68, Tryz.ntmps68
      go_wp2_with fail
      refine G.out.mono ?_
      rintro e w1 ⟨rfl, rfl⟩
      go_wp2_with fail
      go_ret
      exact ⟨rfl, rfl⟩
set_option maxHeartbeats 1000000 in
theorem place_in (k : Nat) (h : Pg W Q P L D v g d w) (hk : k < v.pages) : Calls Tryz.prog 68 #[.pointer (some ⟨P, 0, none⟩), .int .i64 (k : Int)] w fun e w' => e = .returned (.int .i64 0) ∧ w = w' := by
  obtain ⟨c0, _, _, _, c4, _⟩ := h.cells
  have G := hidm (gvn_yes P w c0)
  have f1 : ¬ (v.pages : Int) ≤ (k : Int) := by omega
  have f2 : ¬ (k : Int) < 0 := by omega
  clear h hk
  go_enter Tryz.func68, Tryz.ntmps68
  go_wp2_with fail
  refine G.out.mono ?_
  rintro e w1 ⟨rfl, rfl⟩
  go_wp2_with fail
  go_ret
  exact ⟨rfl, rfl⟩
end
end Pgr
end Go.Proofs.YtmccnlffikegfaaGreatDoor
