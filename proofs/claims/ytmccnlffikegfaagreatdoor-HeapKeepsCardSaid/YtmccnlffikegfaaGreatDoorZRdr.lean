/- A reader's block, and worlds that are alike but for one block. No condition. -/
import Derived.Test.YtmccnlffikegfaaGreatDoorRows
import Derived.WalkKit
import Derived.WalkSpells
import Derived.WalkLawsBesides
import Derived.Deep.QuietTactic
import Derived.BigQuiet
import Derived.Deep.RegionHeld3
import Derived.Recover
namespace Go.Proofs.YtmccnlffikegfaaGreatDoor
open Go.RowKit
namespace Cod
/-- w' is as w was but for block r; blocks may have come. -/
structure But (r : Nat) (w w' : World) : Prop where
  os : w'.os = w.os
  tape : w'.tape = w.tape
  output : w'.output = w.output
  size : w.heap.size ≤ w'.heap.size
  block : ∀ k, k < w.heap.size → k ≠ r → w'.heap[k]? = w.heap[k]?
theorem But.refl (r : Nat) (w : World) : But r w w := ⟨rfl, rfl, rfl, Nat.le_refl _, fun _ _ _ => rfl⟩
theorem But.trans {r : Nat} {a b c : World} (h : But r a b) (k : But r b c) : But r a c :=
  ⟨k.os.trans h.os, k.tape.trans h.tape, k.output.trans h.output, Nat.le_trans h.size k.size, fun i hi hn => (k.block i (Nat.lt_of_lt_of_le hi h.size) hn).trans (h.block i hi hn)⟩
theorem But.of {r : Nat} {w w' : World} (h : Below w.heap.size w w') : But r w w' := ⟨h.os, h.tape, h.output, h.size, fun k hk _ => h.block k hk⟩
theorem But.set {r : Nat} {a w : World} (h : But r a w) (o : Nat) (u : Value) : But r a (w.setCell ⟨r, o, none⟩ u) :=
  h.trans ⟨rfl, rfl, rfl, by simp [World.setCell], fun _ _ hn => Below.heap_setCell _ _ _ _ hn⟩
/-- A store into a block that is new since. -/
theorem But.setNew {r : Nat} {a w : World} (h : But r a w) {p : Addr} (hp : a.heap.size ≤ p.block) (u : Value) : But r a (w.setCell p u) :=
  ⟨h.os, h.tape, h.output, by simpa [World.setCell] using h.size, fun k hk hn => (Below.heap_setCell _ _ _ _ (by omega)).trans (h.block k hk hn)⟩
theorem But.alloc {r : Nat} {a w : World} (h : But r a w) (o : Obj) : But r a (w.alloc o) := h.trans (.of ((Below.refl _ _).alloc (Nat.le_refl _) _))
theorem But.drew {r : Nat} {a w : World} (h : But r a w) : But r a w.drew := ⟨h.os, h.tape, h.output, h.size, h.block⟩
theorem But.drewN {r : Nat} {a w : World} (h : But r a w) (n : Nat) : But r a (w.drewN n) := h.trans (.of (below_drewN (Below.refl _ _) n))
theorem But.below {r B : Nat} {w w' : World} (h : But r w w') (hB : B ≤ r) (hs : B ≤ w.heap.size) : Below B w w' :=
  ⟨h.os, h.tape, h.output, h.size, fun k hk => h.block k (by omega) (by omega)⟩
theorem But.then {r B : Nat} {a w w' : World} (h : Below B a w) (k : But r w w') (hB : B ≤ r) (hs : B ≤ w.heap.size) : Below B a w' := h.trans (k.below hB hs)
/-- Another block stays. -/
theorem But.keeps {r k : Nat} {w w' : World} {o : Obj} (h : But r w w') (hn : k ≠ r) (hk : w.heap[k]? = some o) : w'.heap[k]? = some o := by
  rw [h.block k (lt_of_block hk) hn, hk]
theorem below_keeps {k : Nat} {w w' : World} {o : Obj} (h : Below w.heap.size w w') (hk : w.heap[k]? = some o) : w'.heap[k]? = some o := by
  rw [h.block k (lt_of_block hk), hk]
/-- Block r is a reader of s, at p, with the error e. -/
def Rdr (r : Nat) (s : ByteArray) (p e : Int) (w : World) : Prop := w.heap[r]? = some (.cells #[.string s, .int .i64 p, .int .i64 e] 165 (0, 0))
section
variable {r : Nat} {s : ByteArray} {p e : Int} {w w' : World}
theorem Rdr.lt (h : Rdr r s p e w) : r < w.heap.size := lt_of_block h
theorem Rdr.c0 (h : Rdr r s p e w) : w.cell? ⟨r, 0, none⟩ = some (.string s) := by unfold Rdr at h; simp [World.cell?, h]
theorem Rdr.c1 (h : Rdr r s p e w) : w.cell? ⟨r, 1, none⟩ = some (.int .i64 p) := by unfold Rdr at h; simp [World.cell?, h]
theorem Rdr.c2 (h : Rdr r s p e w) : w.cell? ⟨r, 2, none⟩ = some (.int .i64 e) := by unfold Rdr at h; simp [World.cell?, h]
theorem Rdr.z1 (h : Rdr r s p e w) : w.frozen? ⟨r, 1, none⟩ = false := by unfold Rdr at h; simp [World.frozen?, h]
theorem Rdr.z2 (h : Rdr r s p e w) : w.frozen? ⟨r, 2, none⟩ = false := by unfold Rdr at h; simp [World.frozen?, h]
theorem Rdr.later (h : Rdr r s p e w) (hb : Below w.heap.size w w') : Rdr r s p e w' := below_keeps hb h
theorem Rdr.past (h : Rdr r s p e w) (o : Obj) : Rdr r s p e (w.alloc o) := h.later ((Below.refl _ _).alloc (Nat.le_refl _) _)
theorem Rdr.drewN (h : Rdr r s p e w) (n : Nat) : Rdr r s p e (w.drewN n) := h.later (below_drewN (Below.refl _ _) n)
theorem Rdr.set1 (h : Rdr r s p e w) (q : Int) : Rdr r s q e (w.setCell ⟨r, 1, none⟩ (.int .i64 q)) := by
  have hlt := lt_of_block h
  have h' : w.heap[r] = .cells #[.string s, .int .i64 p, .int .i64 e] 165 (0, 0) := by simpa [Rdr, Array.getElem?_eq_getElem hlt] using h
  show (w.heap.modify r _)[r]? = _
  rw [Array.getElem?_eq_getElem (by simpa using hlt), Array.getElem_modify_self, h']
  rfl
theorem Rdr.set2 (h : Rdr r s p e w) (q : Int) : Rdr r s p q (w.setCell ⟨r, 2, none⟩ (.int .i64 q)) := by
  have hlt := lt_of_block h
  have h' : w.heap[r] = .cells #[.string s, .int .i64 p, .int .i64 e] 165 (0, 0) := by simpa [Rdr, Array.getElem?_eq_getElem hlt] using h
  show (w.heap.modify r _)[r]? = _
  rw [Array.getElem?_eq_getElem (by simpa using hlt), Array.getElem_modify_self, h']
  rfl
theorem Rdr.other (h : Rdr r s p e w) {a : Addr} (ha : r ≠ a.block) (u : Value) : Rdr r s p e (w.setCell a u) := by
  unfold Rdr; rw [Below.heap_setCell _ _ _ _ ha]; exact h
theorem Rdr.but {k : Nat} (h : Rdr r s p e w) (hn : r ≠ k) (hb : But k w w') : Rdr r s p e w' := hb.keeps hn h
theorem Rdr.new (w : World) (s : ByteArray) (p e : Int) : Rdr w.heap.size s p e (w.alloc (.cells #[.string s, .int .i64 p, .int .i64 e] 165)) := heap_alloc_new _ _
end
/-- What a region that only makes memory keeps of a reader. -/
theorem rs_of {r : Nat} {s : ByteArray} {q e : Int} {w w' : World} (h : Rdr r s q e w') (b : But r w w') : w'.cell? ⟨r, 0, none⟩ = some (.string s) ∧ w'.cell? ⟨r, 1, none⟩ = some (.int .i64 q) ∧ Hid (Rdr r s q e w' ∧ But r w w') := ⟨h.c0, h.c1, ⟨h, b⟩⟩
theorem rs_step {r : Nat} {s : ByteArray} {q e : Int} {w w1 w' : World} (h : w1.cell? ⟨r, 0, none⟩ = some (.string s) ∧ w1.cell? ⟨r, 1, none⟩ = some (.int .i64 q) ∧ Hid (Rdr r s q e w1 ∧ But r w w1)) (hb : Below w1.heap.size w1 w') :
    w'.cell? ⟨r, 0, none⟩ = some (.string s) ∧ w'.cell? ⟨r, 1, none⟩ = some (.int .i64 q) ∧ Hid (Rdr r s q e w' ∧ But r w w') :=
  rs_of (h.2.2.out.1.later hb) (h.2.2.out.2.trans (.of hb))
/-- A text of these bytes. -/
abbrev S (l : List UInt8) : ByteArray := ⟨l.toArray⟩
theorem S_list (l : List UInt8) : (S l).data.toList = l := rfl
theorem S_of (t : ByteArray) : S t.data.toList = t := by cases t; simp [S]
theorem S_size (l : List UInt8) : (S l).size = l.length := by simp [ByteArray.size]
theorem S_append (a b : List UInt8) : S a ++ S b = S (a ++ b) := by
  apply ByteArray.ext; simp [S]
/-- The chain of a panic with an error's number. -/
def pan (e : Int) : List PanicEntry := [{ v := .iface 31 (.int .i64 e), recovered := false }]
end Cod
end Go.Proofs.YtmccnlffikegfaaGreatDoor
