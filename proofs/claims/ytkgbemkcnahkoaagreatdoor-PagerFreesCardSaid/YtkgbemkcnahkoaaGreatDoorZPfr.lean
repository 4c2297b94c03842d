/- A pager with a row of truths beside it, in a block of the law's own; its calls. Conditions: as each says. -/
import Derived.Test.YtkgbemkcnahkoaaGreatDoorZPs
import Derived.Laws.OwnMore
import Derived.Laws.MakeOwn
namespace Go.Proofs.YtkgbemkcnahkoaaGreatDoor
open Go.RowKit
namespace Pgr
open Dsk (KeepQ Only zeros pad below_keeps)
open Crc (S S_of S_size)
/-- Block B holds these truths. -/
def RowIs (B : Nat) (kr : List Bool) (w : World) : Prop := w.heap[B]? = some (.cells (bls kr).toArray 4 (0, 0))
theorem RowIs.at {B : Nat} {kr : List Bool} {w : World} (h : RowIs B kr w) (j : Nat) (hj : j < kr.length) : w.cell? ⟨B, j, none⟩ = some (.bool kr[j]) := by
  rw [cell_of_row w B j _ _ (0, 0) h]
  unfold bls; simp [hj]
theorem RowIs.set {B : Nat} {kr : List Bool} {w : World} (h : RowIs B kr w) (j : Nat) (x : Bool) : RowIs B (kr.set j x) (w.setCell ⟨B, j, none⟩ (.bool x)) := by
  unfold RowIs
  rw [heap_setCell_same w B j _ _ _ h]
  simp [bls, List.map_set]
/-- What is made. -/
theorem RowIs.made (w : World) (n : Nat) : RowIs w.heap.size (List.replicate n false) (w.alloc (.cells (madeCells #[.bool false] n) 4)) := by
  unfold RowIs
  rw [heap_alloc_last]
  congr 2
  apply Array.toList_inj.1
  rw [toList_madeCells_one]
  simp [bls]
/-- The pager lives, page 0 is m, the row is kr. -/
structure Frs (W : World) (P L D N B : Nat) (m : List UInt8) (kr : List Bool) (w : World) : Prop where
  ex : ∃ ch, Lv W (fun k => k = B) P L D 8 N 2000 true ch (fun _ => zeros) w ∧ over ch (fun _ => zeros) 0 = m
  row : RowIs B kr w
  base : W.heap.size ≤ B
section
variable {W : World} {P L D N B : Nat} {m : List UInt8} {kr : List Bool} {w w' : World}
theorem Frs.bel (h : Frs W P L D N B m kr w) : Below W.heap.size W w := by
  obtain ⟨ch, hl, _⟩ := h.ex
  exact hl.bel
theorem Frs.ok (h : Frs W P L D N B m kr w) : 1 ≤ N ∧ N ≤ 1024 ∧ m.length = 128 := by
  obtain ⟨ch, hl, hm⟩ := h.ex
  have h0 := hl.ok
  exact ⟨h0.1, h0.2.1, by rw [← hm]; exact hl.len (by omega)⟩
theorem Frs.with {ch : Ch} (h : Frs W P L D N B m kr w) (hl : Lv W (fun k => k = B) P L D 8 N 2000 true ch (fun _ => zeros) w') (hk : KeepQ (fun k => k = B) w w') : Frs W P L D N B (over ch (fun _ => zeros) 0) kr w' :=
  ⟨⟨ch, hl, rfl⟩, (hk B rfl).trans h.row, h.base⟩
theorem Frs.later (h : Frs W P L D N B m kr w) (hb : Below w.heap.size w w') : Frs W P L D N B m kr w' := by
  obtain ⟨ch, hl, hm⟩ := h.ex
  have := h.with (hl.later hb) (hl.kept hb)
  rw [hm] at this; exact this
theorem Frs.set (h : Frs W P L D N B m kr w) (j : Nat) (x : Bool) : Frs W P L D N B m (kr.set j x) (w.setCell ⟨B, j, none⟩ (.bool x)) := by
  obtain ⟨ch, hl, hm⟩ := h.ex
  exact ⟨⟨ch, (hl.guardO (T := fun k => k = B) ((Only.refl (fun k => k = B) w).set (p := ⟨B, j, none⟩) (.inl rfl) (.bool x)) (fun k hk => ⟨hk, hk ▸ h.base⟩)).less (fun k hk => .inl hk), hm⟩, h.row.set j x, h.base⟩
theorem Frs.read (h : Frs W P L D N B m kr w) (k : Nat) (hk : k < N) : Calls Tryz.prog 39 #[.pointer (some ⟨P, 0, none⟩), .int .i64 (k : Int)] w fun e w' => ∃ s, e = .returned (.tuple #[.string s, .int .i64 0]) ∧ Frs W P L D N B m kr w' := by
  obtain ⟨ch, hl, hm⟩ := h.ex
  exact (hl.read k hk).mono fun e w' ⟨he, hb⟩ => ⟨_, he, h.later hb⟩
/-- Page k reads as bytes 0. -/
def Bare0 (W : World) (P L D N B : Nat) (m : List UInt8) (kr : List Bool) (k : Nat) (w : World) : Prop :=
  Calls Tryz.prog 39 #[.pointer (some ⟨P, 0, none⟩), .int .i64 (k : Int)] w fun e w' => e = .returned (.tuple #[.string (S zeros), .int .i64 0]) ∧ Frs W P L D N B m kr w'
theorem Frs.alloc (h : Frs W P L D N B m kr w) : Calls Tryz.prog 38 #[.pointer (some ⟨P, 0, none⟩)] w fun e w' =>
    (∃ k : Nat, k < N ∧ k ≠ 0 ∧ useB m k = false ∧ (∀ j, j < k → useB m j = true) ∧ e = .returned (.tuple #[.int .i64 (k : Int), .int .i64 0]) ∧ Frs W P L D N B (takeB m k) kr w' ∧ Bare0 W P L D N B (takeB m k) kr k w') ∨
      ((∀ j, j < N → useB m j = true) ∧ e = .returned (.tuple #[.int .i64 0, .int .i64 3]) ∧ Frs W P L D N B m kr w') := by
  obtain ⟨ch, hl, hm⟩ := h.ex
  refine hl.alloc.mono fun e w' h1 => ?_
  rw [hm] at h1
  rcases h1 with ⟨k, a1, a2, a3, a4, a5, a6, a7⟩ | ⟨b1, b2, b3⟩
  · have h0 : over (allocCh ch m k) (fun _ => zeros) 0 = takeB m k := by
      unfold allocCh
      rw [over_put, if_neg (fun e => a2 e.symm), over_put, if_pos rfl]
    have hk : over (allocCh ch m k) (fun _ => zeros) k = zeros := by
      unfold allocCh
      rw [over_put, if_pos rfl]
    have f1 := h.with a6 a7
    rw [h0] at f1
    refine .inl ⟨k, a1, a2, a3, a4, a5, f1, ?_⟩
    unfold Bare0
    refine (a6.read k a1).mono fun e2 w2 ⟨he, hb⟩ => ?_
    rw [hk] at he
    exact ⟨he, f1.later hb⟩
  · exact .inr ⟨b1, b2, h.later b3⟩
theorem Frs.write (h : Frs W P L D N B m kr w) (k : Nat) (s : ByteArray) (hs : s.size ≤ 128) (hk : k < N) (h0 : k ≠ 0) : Calls Tryz.prog 41 #[.pointer (some ⟨P, 0, none⟩), .int .i64 (k : Int), .string s] w fun e w' => e = .returned (.int .i64 0) ∧ Frs W P L D N B m kr w' := by
  obtain ⟨ch, hl, hm⟩ := h.ex
  refine (hl.write k s hs hk h0).mono fun e w' ⟨he, h2, k2⟩ => ⟨he, ?_⟩
  have := h.with h2 k2
  rw [over_put, if_neg (fun e => h0 e.symm), hm] at this
  exact this
/-- What Free comes to. -/
theorem Frs.free (h : Frs W P L D N B m kr w) (k : Nat) (hk : k < N) : Calls Tryz.prog 42 #[.pointer (some ⟨P, 0, none⟩), .int .i64 (k : Int)] w fun e w' =>
    (k ≠ 0 ∧ useB m k = true ∧ e = .returned (.int .i64 0) ∧ Frs W P L D N B (giveB m k) kr w') ∨ (∃ c : Int, c ≠ 0 ∧ e = .returned (.int .i64 c) ∧ Frs W P L D N B m kr w') := by
  obtain ⟨ch, hl, hm⟩ := h.ex
  by_cases h0 : k = 0
  · subst h0
    refine hl.free_zero.mono fun e w' ⟨he, hw⟩ => .inr ⟨1, by decide, he, hw ▸ h⟩
  · cases hu : useB m k with
    | true =>
      refine (hl.free k hk h0 (by rw [hm]; exact hu)).mono fun e w' ⟨he, h2, k2⟩ => .inl ⟨h0, rfl, he, ?_⟩
      have := h.with h2 k2
      rw [over_put, if_pos rfl, hm] at this
      exact this
    | false => exact (hl.free_idle k hk h0 (by rw [hm]; exact hu)).mono fun e w' ⟨he, hb⟩ => .inr ⟨6, by decide, he, h.later hb⟩
theorem Frs.isfree (h : Frs W P L D N B m kr w) (k : Nat) (hk : k < N) : Calls Tryz.prog 29 #[.pointer (some ⟨P, 0, none⟩), .int .i64 (k : Int)] w fun e w' => e = .returned (.bool (!useB m k)) ∧ Frs W P L D N B m kr w' := by
  obtain ⟨ch, hl, hm⟩ := h.ex
  refine (hl.isfree k hk).mono fun e w' ⟨he, hb⟩ => ?_
  rw [hm] at he
  exact ⟨he, h.later hb⟩
theorem Frs.frees (h : Frs W P L D N B m kr w) : Calls Tryz.prog 24 #[.pointer (some ⟨P, 0, none⟩)] w fun e w' => e = .returned (.int .i64 (freeN m N : Int)) ∧ Frs W P L D N B m kr w' := by
  obtain ⟨ch, hl, hm⟩ := h.ex
  refine hl.frees.mono fun e w' ⟨he, hb⟩ => ?_
  rw [hm] at he
  exact ⟨he, h.later hb⟩
/-- The row is made beside a pager that lives. -/
theorem Frs.new (h : Lv W (fun _ => False) P L D 8 N 2000 true [] (fun _ => zeros) w) : Frs W P L D N w.heap.size zeros (List.replicate N false) (w.alloc (.cells (madeCells #[.bool false] N) 4)) := by
  have hb : Below w.heap.size w (w.alloc (.cells (madeCells #[.bool false] N) 4)) := (Below.refl _ _).alloc (Nat.le_refl _) _
  exact ⟨⟨[], (h.guard hb).less (fun k hk => .inr ⟨by omega, by rw [hk]; simp⟩), rfl⟩, RowIs.made w N, h.bel.size⟩
end
theorem UsedIs.zero {N : Nat} : UsedIs ((List.replicate N false).set 0 true) zeros := fun j hj => by
  rw [use_zeros, List.getElem_set]
  by_cases h : j = 0
  · subst h; simp
  · rw [if_neg (fun e => h e.symm)]; simp [h]
/-- The least that is not in use. -/
theorem least_is {ks : List Bool} {m : List UInt8} {N k l : Nat} (h : UsedIs ks m) (hN : ks.length = N) (hk : k < N) (hf : useB m k = false) (hj : ∀ j, j < k → useB m j = true) (hl : l ≤ N) (h1 : ∀ j (hj : j < ks.length), j < l → ks[j] = true) (h2 : ∀ (hj : l < ks.length), ks[l] = false) : l = k := by
  rcases Nat.lt_trichotomy l k with e | e | e
  · have a := h2 (by omega)
    rw [h l (by omega), hj l e] at a
    cases a
  · exact e
  · have a := h1 k (by omega) e
    rw [h k (by omega), hf] at a
    cases a
theorem least_all {ks : List Bool} {m : List UInt8} {N l : Nat} (h : UsedIs ks m) (hN : ks.length = N) (hj : ∀ j, j < N → useB m j = true) (hl : l ≤ N) (h2 : ∀ (hj : l < ks.length), ks[l] = false) : l = N := by
  rcases Nat.lt_or_ge l N with e | e
  · have a := h2 (by omega)
    rw [h l (by omega), hj l e] at a
    cases a
  · omega
theorem mkBools (n : Nat) (hn : n ≤ 1000000) (w : World) : (Instr.makeSlice 37 (.int .i64 (n : Int)) (.int .i64 (n : Int))).run Tryz.prog w = .ok (.slice (some ⟨w.heap.size, 0, none⟩) n n) (w.alloc (.cells (madeCells #[.bool false] n) 4)) := by
  obtain ⟨i0, hi, hz0, hz1, hz2⟩ := info_parts (P := Tryz.prog) (e := 4) (z := .bool false) (size := 1) (bytes := 1) (by kernel_rfl)
  have := run_makeSlice (P := Tryz.prog) (w := w) 37 4 i0 (.bool false) Tryz.underlying37 hi hz0 .i64 .i64 n n (by omega) (Int.le_refl _) (by rw [hz1]; omega) (by rw [hz2]; omega) (by omega)
  rw [hz1] at this
  simp only [Int.toNat_natCast, Nat.mul_one] at this
  exact this
end Pgr
end Go.Proofs.YtkgbemkcnahkoaaGreatDoor
