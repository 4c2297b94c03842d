/- The document's Pad and Ints; Copy of what is no disk. Conditions: as each says. -/
import Derived.Test.YtmccnlffikegfaaGreatDoorZDk
namespace Go.Proofs.YtmccnlffikegfaaGreatDoor
open Go.RowKit
namespace Dsk
theorem pad_self {s : List UInt8} (h : 128 ≤ s.length) : pad s = s := by
  unfold pad
  rw [show 128 - s.length = 0 by omega]
  simp
theorem pad_more {s : List UInt8} (h : s.length < 128) : pad (s ++ [0]) = pad s := by
  unfold pad
  rw [List.length_append, List.append_assoc]
  congr 1
  rw [show 128 - s.length = (128 - (s.length + [(0 : UInt8)].length)) + 1 by simp; omega, List.replicate_succ]
  rfl
theorem ints_new (w : World) (l : List Nat) (hl : l.length ≤ 1000000) : IntsAt w.heap.size l (.slice (some ⟨w.heap.size, 0, none⟩) l.length l.length) (w.alloc (.cells (ints l).toArray 3)) := by
  have hn : (ints l).length = l.length := by simp [ints]
  refine ⟨by rw [hn]; omega, .inr ⟨w.heap.size, l.length, (ints l).toArray, rfl, Nat.le_refl _, heap_alloc_last w _, Nat.le_refl _, by unfold maxLen; omega, by simp [hn], ?_⟩⟩
  rw [Nat.mul_one, List.take_of_length_le (by simp [hn])]
end Dsk
end Go.Proofs.YtmccnlffikegfaaGreatDoor
/- A disk that a law holds beside other things; the law's known. Conditions: as each says. -/
namespace Go.Proofs.YtmccnlffikegfaaGreatDoor
open Go.RowKit
namespace Dsk
/-- Disk D is d, in blocks that have come since W and are none of Q. -/
structure Mine (W : World) (Q : Nat → Prop) (D : Nat) (d : PD) (w : World) : Prop where
  ex : ∃ T, DiskIs D d T w ∧ ∀ k, T k → W.heap.size ≤ k ∧ ¬ Q k
  bel : Below W.heap.size W w
  qlt : ∀ k, Q k → k < w.heap.size
def KeepQ (Q : Nat → Prop) (w w' : World) : Prop := ∀ k, Q k → w'.heap[k]? = w.heap[k]?
theorem KeepQ.trans {Q : Nat → Prop} {a b c : World} (h : KeepQ Q a b) (k : KeepQ Q b c) : KeepQ Q a c := fun i hi => (k i hi).trans (h i hi)
section
variable {W : World} {Q : Nat → Prop} {D : Nat} {d d' : PD} {w w' : World}
theorem Mine.ok (h : Mine W Q D d w) : d.ok := by
  obtain ⟨⟨T, hT, _⟩, _, _⟩ := h
  exact hT.ok
theorem Mine.later (h : Mine W Q D d w) (hb : Below w.heap.size w w') : Mine W Q D d w' := by
  obtain ⟨⟨T, hT, hq⟩, hB, hl⟩ := h
  exact ⟨⟨T, hT.later hb, hq⟩, hB.trans (hb.mono hB.size), fun k hk => Nat.lt_of_lt_of_le (hl k hk) hb.size⟩
theorem Mine.kept (h : Mine W Q D d w) (hb : Below w.heap.size w w') : KeepQ Q w w' := fun k hk => hb.block k (h.qlt k hk)
theorem Mine.grow {T : Nat → Prop} (hT : ∀ k, T k → W.heap.size ≤ k ∧ ¬ Q k) (hB : Below W.heap.size W w) (hl : ∀ k, Q k → k < w.heap.size) (hd : DiskIs D d' (Grow T w w') w') (ho : Only T w w') : Mine W Q D d' w' ∧ KeepQ Q w w' := by
  refine ⟨⟨⟨_, hd, fun k hk => ?_⟩, hB.trans (ho.below (fun k hk => (hT k hk).1) hB.size), fun k hk => Nat.lt_of_lt_of_le (hl k hk) ho.size⟩, fun k hk => ho.block k (hl k hk) (fun e => (hT k e).2 hk)⟩
  rcases hk with hk | hk
  · exact hT k hk
  · exact ⟨Nat.le_trans hB.size hk.1, fun e => by have := hl k e; omega⟩
theorem Mine.same {T : Nat → Prop} (hT : ∀ k, T k → W.heap.size ≤ k ∧ ¬ Q k) (hB : Below W.heap.size W w) (hl : ∀ k, Q k → k < w.heap.size) (hd : DiskIs D d' T w') (ho : Only T w w') : Mine W Q D d' w' ∧ KeepQ Q w w' :=
  Mine.grow hT hB hl (hd.wider (fun _ hk => .inl hk) (fun k hk => hk.elim (fun h2 => hd.lt k h2) (fun h2 => h2.2))) ho
/-- What has come by a quiet call is kept, too. -/
theorem Mine.guard (h : Mine W Q D d w) (hb : Below w.heap.size w w') : Mine W (fun k => Q k ∨ (w.heap.size ≤ k ∧ k < w'.heap.size)) D d w' := by
  obtain ⟨⟨T, hT, hq⟩, hB, hl⟩ := h
  refine ⟨⟨T, hT.later hb, fun k hk => ⟨(hq k hk).1, fun e => ?_⟩⟩, hB.trans (hb.mono hB.size), fun k hk => ?_⟩
  · rcases e with e | e
    · exact (hq k hk).2 e
    · have := hT.lt k hk; omega
  · rcases hk with hk | hk
    · exact Nat.lt_of_lt_of_le (hl k hk) hb.size
    · exact hk.2
end
section
variable {W : World} {Q : Nat → Prop} {D : Nat} {d : PD} {w : World}
theorem m_new (n : Nat) (h1 : 1 ≤ n) (h2 : n ≤ 4096) (hB : Below W.heap.size W w) :
    Calls Tryz.prog 17 #[.int .i64 (n : Int)] w fun e w' => e = .returned (.tuple #[.pointer (some ⟨w.heap.size + 1, 0, none⟩), .int .i64 0]) ∧ Mine W (fun _ => False) (w.heap.size + 1) (PD.new n) w' ∧ Below w.heap.size w w' :=
  (new_any n h1 h2 w).mono fun _ _ ⟨he, hd, hb⟩ => ⟨he, ⟨⟨_, hd, fun _ hk => ⟨Nat.le_trans hB.size hk.1, fun e => e.elim⟩⟩, hB.trans (hb.mono hB.size), fun _ hk => hk.elim⟩, hb⟩
theorem m_write (k : Nat) (s : ByteArray) (hs : s.size ≤ 128) (h : Mine W Q D d w) (hk : k < d.n) (hb : d.burnt = false) (hc : d.cs.length < 1000000) (hw : d.wr < 1000000) :
    Calls Tryz.prog 98 #[.pointer (some ⟨D, 0, none⟩), .int .i64 (k : Int), .string s] w fun e w' => e = .returned (.int .i64 0) ∧ Mine W Q D (d.write k s.data.toList).burn w' ∧ KeepQ Q w w' := by
  obtain ⟨⟨T, hT, hq⟩, hB, hl⟩ := h
  exact (write_on k s hs w hT hk hb hc hw).mono fun _ _ ⟨he, hd, ho⟩ => ⟨he, Mine.grow hq hB hl hd ho⟩
theorem m_write_off (k : Int) (s : ByteArray) (h : Mine W Q D d w) (hk : off d.n k) :
    Calls Tryz.prog 98 #[.pointer (some ⟨D, 0, none⟩), .int .i64 k, .string s] w fun e w' => e = .returned (.int .i64 2) ∧ Below w.heap.size w w' := by
  obtain ⟨⟨T, hT, hq⟩, hB, hl⟩ := h
  exact write_off k s w hT hk
theorem m_write_big (k : Nat) (s : ByteArray) (hs : 128 < s.size) (h : Mine W Q D d w) (hk : k < d.n) :
    Calls Tryz.prog 98 #[.pointer (some ⟨D, 0, none⟩), .int .i64 (k : Int), .string s] w fun e w' => e = .returned (.int .i64 19) ∧ Below w.heap.size w w' := by
  obtain ⟨⟨T, hT, hq⟩, hB, hl⟩ := h
  exact write_big k s hs w hT hk
theorem m_write_burnt (k : Nat) (s : ByteArray) (hs : s.size ≤ 128) (h : Mine W Q D d w) (hk : k < d.n) (hb : d.burnt = true) :
    Calls Tryz.prog 98 #[.pointer (some ⟨D, 0, none⟩), .int .i64 (k : Int), .string s] w fun e w' => e = .returned (.int .i64 6) ∧ Below w.heap.size w w' := by
  obtain ⟨⟨T, hT, hq⟩, hB, hl⟩ := h
  exact write_burnt k s hs w hT hk hb
theorem m_flush (h : Mine W Q D d w) (hb : d.burnt = false) (hf : d.fl < 1000000) :
    Calls Tryz.prog 99 #[.pointer (some ⟨D, 0, none⟩)] w fun e w' => e = .returned (.int .i64 0) ∧ Mine W Q D d.flush.burn w' ∧ KeepQ Q w w' := by
  obtain ⟨⟨T, hT, hq⟩, hB, hl⟩ := h
  exact (flush_on w hT hb hf).mono fun _ _ ⟨he, hd, ho⟩ => ⟨he, Mine.same hq hB hl hd ho⟩
theorem m_flush_burnt (h : Mine W Q D d w) (hb : d.burnt = true) :
    Calls Tryz.prog 99 #[.pointer (some ⟨D, 0, none⟩)] w fun e w' => e = .returned (.int .i64 6) ∧ Below w.heap.size w w' := by
  obtain ⟨⟨T, hT, hq⟩, hB, hl⟩ := h
  exact flush_burnt w hT hb
theorem m_read (k : Nat) (h : Mine W Q D d w) (hk : k < d.n) :
    Calls Tryz.prog 70 #[.pointer (some ⟨D, 0, none⟩), .int .i64 (k : Int)] w fun e w' => e = .returned (.tuple #[.string (S (d.f k)), .int .i64 0]) ∧ Below w.heap.size w w' := by
  obtain ⟨⟨T, hT, hq⟩, hB, hl⟩ := h
  exact read_on k w hT hk
theorem m_read_off (k : Int) (h : Mine W Q D d w) (hk : off d.n k) :
    Calls Tryz.prog 70 #[.pointer (some ⟨D, 0, none⟩), .int .i64 k] w fun e w' => e = .returned (.tuple #[.string ⟨#[]⟩, .int .i64 2]) ∧ Below w.heap.size w w' := by
  obtain ⟨⟨T, hT, hq⟩, hB, hl⟩ := h
  exact read_off k w hT hk
theorem m_len (h : Mine W Q D d w) :
    Calls Tryz.prog 36 #[.pointer (some ⟨D, 0, none⟩)] w fun e w' => e = .returned (.int .i64 (d.n : Int)) ∧ w = w' := by
  obtain ⟨⟨T, hT, hq⟩, hB, hl⟩ := h
  exact len_any w hT
theorem m_crash_many (so : Option Addr) (sl sc : Nat) (h : Mine W Q D d w) (hk : d.cs.length < sl) :
    Calls Tryz.prog 21 #[.pointer (some ⟨D, 0, none⟩), .slice so sl sc] w fun e w' => e = .returned (.int .i64 1) ∧ Below w.heap.size w w' := by
  obtain ⟨⟨T, hT, hq⟩, hB, hl⟩ := h
  exact crash_many so sl sc w hT hk
/-- The truths lie ahead of W, or among Q, or in a block that is new. -/
theorem m_crash (ks : List Bool) (so : Option Addr) (sc : Nat) (h : Mine W Q D d w) (hk : ks.length ≤ d.cs.length) (hks : BoolsAt ks so sc w) (hkT : ks ≠ [] → ∀ p, so = some p → p.block < W.heap.size ∨ Q p.block) :
    Calls Tryz.prog 21 #[.pointer (some ⟨D, 0, none⟩), .slice so ks.length sc] w fun e w' => e = .returned (.int .i64 0) ∧ Mine W Q D (d.crash ks) w' ∧ KeepQ Q w w' := by
  obtain ⟨⟨T, hT, hq⟩, hB, hl⟩ := h
  exact (crash_on ks so sc w hT hk hks (fun hne p hp e => by
    have h1 := hq _ e
    rcases hkT hne p hp with h2 | h2
    · omega
    · exact h1.2 h2)).mono fun _ _ ⟨he, hd, ho⟩ => ⟨he, Mine.same hq hB hl hd ho⟩
end
/-- The slice v holds these numbers, in blocks of Q. -/
def IntsQ (Q : Nat → Prop) (l : List Nat) (v : Value) (w : World) : Prop := IntsAt 0 l v w ∧ ∀ g, v.ownBlock = some g → Q g
theorem IntsAt.zero {b : Nat} {l : List Nat} {v : Value} {w : World} (h : IntsAt b l v w) : IntsAt 0 l v w := by
  refine ⟨h.1, ?_⟩
  rcases h.2 with h2 | ⟨g, c, cur, hv, hg, rest⟩
  · exact .inl h2
  · exact .inr ⟨g, c, cur, hv, Nat.zero_le _, rest⟩
theorem IntsQ.keep {Q : Nat → Prop} {l : List Nat} {v : Value} {w w' : World} (h : IntsQ Q l v w) (hk : KeepQ Q w w') : IntsQ Q l v w' := ⟨ownsRow_of h.1 (fun g hg => hk g (h.2 g hg)), h.2⟩
theorem IntsQ.mono {Q Q' : Nat → Prop} {l : List Nat} {v : Value} {w : World} (h : IntsQ Q l v w) (hQ : ∀ k, Q k → Q' k) : IntsQ Q' l v w := ⟨h.1, fun g hg => hQ g (h.2 g hg)⟩
/-- A literal of truths. -/
theorem bools_new (w : World) (ks : List Bool) (hl : ks.length ≤ 1000000) : BoolsAt ks (some ⟨w.heap.size, 0, none⟩) ks.length (w.alloc (.cells (ks.map Value.bool).toArray 4)) := by
  refine ⟨Nat.le_refl _, by omega, fun _ => ⟨w.heap.size, 0, rfl, by simp, fun j hj => ?_⟩⟩
  rw [Nat.zero_add, cell_of_row _ _ j _ _ (0, 0) (heap_alloc_last w _)]
  simp [hj]
end Dsk
end Go.Proofs.YtmccnlffikegfaaGreatDoor
