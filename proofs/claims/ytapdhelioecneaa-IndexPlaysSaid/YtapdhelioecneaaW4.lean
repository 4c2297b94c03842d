/- Slices in memory: what is copied, cleared, laid; rows of elements of any width. No condition. -/
import Derived.Test.YtapdhelioecneaaW2
import Derived.Lib.SliceRun
import Derived.Laws.IdiomCopy
import Derived.Lib.BufferWrite
namespace Go.Proofs.Ytapdhelioecneaa
open Go.RowKit
namespace Idx
theorem run_copy_wide {P : Program} (w : World) (dT sT ty elem : TypeId) (b o dLen dCap : Nat) (a : Addr) (sLen sCap : Nat) (cs : List Value) (sz n : Nat)
    (hu : P.underlying dT = some (.slice elem)) (hs : (P.info? elem).map (·.size) = some sz) (hn : Nat.min sLen dLen = n) (hl0 : cs.length = n * sz)
    (hsrc : ∀ j v, cs[j]? = some v → w.cell? (a.add j) = some v) (hc : ∀ j, j < cs.length → (w.cell? ⟨b, o + j, none⟩).isSome = true) (hf : ∀ j, j < cs.length → w.frozen? ⟨b, o + j, none⟩ = false) (h1 : ∀ v ∈ cs, v.oneCell' = true) :
    (Builtin.copy_ #[dT, sT] ty #[.slice (some ⟨b, o, none⟩) dLen dCap, .slice (some a) sLen sCap]).run P w = .ok (goInt n) (w.setCells b o cs) := by
  have hl := run_loadCells_list (P := P) w a cs hsrc
  have hst := run_storeCells_cells (P := P) b o cs 0 w (by simpa using hc) (by simpa using hf) h1
  cases hq : P.info? elem with
  | none => simp [hq] at hs
  | some i =>
    have hi : i.size = sz := by simpa [hq] using hs
    simp [Builtin.copy_, run_underlying hu, Builtin.lenOf, Builtin.firstCells, sizeOf, typeInfo, hq, hi, hn, ← hl0, hl, hst]
/-- clear of a slice of n > 0 elements of any width. -/
theorem run_clear_wide {P : Program} (w : World) (t e ty : TypeId) (z : Value) (ht : P.underlying t = some (.slice e)) (hv : ∀ w, (zeroValue e).run P w = .ok z w) (zs : List Value) (b o n c : Nat) (hn : 0 < n)
    (hz : (Builtin.zeroCells z.cells n).toList = zs) (h1 : ∀ v ∈ zs, v.oneCell' = true)
    (hc : ∀ j, j < zs.length → (w.cell? ⟨b, o + j, none⟩).isSome = true) (hf : ∀ j, j < zs.length → w.frozen? ⟨b, o + j, none⟩ = false) :
    (Builtin.clear_ #[t] ty #[.slice (some ⟨b, o, none⟩) n c]).run P w = .ok (.tuple #[]) (w.setCells b o zs) := by
  have hst := run_storeCells_cells (P := P) b o zs 0 w (by simpa using hc) (by simpa using hf) h1
  simp only [Nat.add_zero] at hst
  obtain ⟨m, rfl⟩ : ∃ m, n = m + 1 := ⟨n - 1, by omega⟩
  have hz2 : Builtin.zeroCells z.cells (m + 1) = zs.toArray := by rw [← hz]
  simp [Builtin.clear_, run_underlying ht, hv, hz2, hst]
theorem setCells_get (b : Nat) (vs : List Value) (o : Nat) (w : World) (h : ∀ j, j < vs.length → (w.cell? ⟨b, o + j, none⟩).isSome = true) (k : Nat) :
    (w.setCells b o vs).cell? ⟨b, k, none⟩ = if o ≤ k ∧ k < o + vs.length then vs[k - o]? else w.cell? ⟨b, k, none⟩ := by
  split
  · next hin =>
    have hk : k - o < vs.length := by omega
    have := World.cell?_setCells_in b vs o w h (k - o) hk
    rw [show o + (k - o) = k by omega] at this
    rw [this, List.getElem?_eq_getElem hk]
  · next hout =>
    exact World.cell?_setCells_out b vs o w ⟨b, k, none⟩ (fun _ _ => by show k < o ∨ o + vs.length ≤ k; omega)
theorem gb_trans {a w w' : World} {row : Option Nat} (h : a.grownBy w row) (k : w.grownBy w' row) : a.grownBy w' row :=
  ⟨k.os.trans h.os, k.tape.trans h.tape, k.output.trans h.output, Nat.le_trans h.size k.size, fun j hj hne => (k.block j (Nat.lt_of_lt_of_le hj h.size) hne).trans (h.block j hj hne)⟩
theorem gb_drew (w : World) (row : Option Nat) : w.grownBy w.drew row := ⟨rfl, rfl, rfl, Nat.le_refl _, fun _ _ _ => rfl⟩
theorem grown_setCells (b : Nat) : ∀ (vs : List Value) (o : Nat) (w : World), w.grownBy (w.setCells b o vs) (some b)
  | [], _, w => World.grownBy.refl w _
  | v :: r, o, w => by
    have h1 : w.grownBy (w.setCell ⟨b, o, none⟩ v) (some b) := Lib.grownBy_setCell w b o v
    have h2 := grown_setCells b r (o + 1) (w.setCell ⟨b, o, none⟩ v)
    exact gb_trans h1 h2
theorem gb_new {w W W' : World} {N : Nat} {row : Option Nat} (h : w.grownBy W row) (k : W.grownBy W' (some N)) (hN : w.heap.size ≤ N) : w.grownBy W' row :=
  ⟨k.os.trans h.os, k.tape.trans h.tape, k.output.trans h.output, Nat.le_trans h.size k.size, fun j hj hne => (k.block j (Nat.lt_of_lt_of_le hj h.size) (fun e => by have := Option.some.inj e; omega)).trans (h.block j hj hne)⟩
/-- The block stays a block of its kind and size. -/
theorem block_setCells (b : Nat) (e : TypeId) : ∀ (vs : List Value) (o : Nat) (w : World) (cur : Array Value), w.heap[b]? = some (.cells cur e (0, 0)) → ∃ cur', (w.setCells b o vs).heap[b]? = some (.cells cur' e (0, 0)) ∧ cur'.size = cur.size
  | [], _, _, cur, h => ⟨cur, h, rfl⟩
  | v :: r, o, w, cur, h => by
    obtain ⟨cur', h1, h2⟩ := block_setCells b e r (o + 1) (w.setCell ⟨b, o, none⟩ v) (cur.setIfInBounds o v) (heap_setCell_same w b o cur e v h)
    exact ⟨cur', h1, by simpa using h2⟩
/-- A row, out of its block and its cells. -/
theorem row_of_cells {base g c n sz : Nat} {e : TypeId} {xs : List Value} {w : World} {cur : Array Value} (hg : w.heap[g]? = some (.cells cur e (0, 0))) (hsz : cur.size = c * sz) (hn : n ≤ c) (hm : c ≤ maxLen) (hb : base ≤ g) (hl : xs.length = n * sz)
    (hc : ∀ j, j < n * sz → w.cell? ⟨g, j, none⟩ = xs[j]?) : w.ownsRow base e sz (.slice (some ⟨g, 0, none⟩) n c) n xs := by
  refine ⟨hl, .inr ⟨g, c, cur, rfl, hb, hg, hn, hm, hsz, ?_⟩⟩
  refine List.ext_getElem? (fun j => ?_)
  rcases Nat.lt_or_ge j (n * sz) with h | h
  · have h1 := hc j h
    rw [cell_of_row w g j cur e (0, 0) hg] at h1
    rw [List.getElem?_take_of_lt h, ← h1]
    simp
  · rw [List.getElem?_eq_none (by rw [List.length_take]; omega), List.getElem?_eq_none (by omega)]
/-- What a row's block is. -/
theorem row_block {base g c n sz : Nat} {e : TypeId} {xs : List Value} {w : World} (h : w.ownsRow base e sz (.slice (some ⟨g, 0, none⟩) n c) n xs) : ∃ cur, w.heap[g]? = some (.cells cur e (0, 0)) ∧ cur.size = c * sz ∧ n ≤ c ∧ c ≤ 9223372036854775807 ∧ base ≤ g ∧ (∀ j, j < n * sz → w.cell? ⟨g, j, none⟩ = xs[j]?) ∧ (∀ j, j < c * sz → (w.cell? ⟨g, j, none⟩).isSome = true) ∧ ∀ j, w.frozen? ⟨g, j, none⟩ = false := by
  obtain ⟨hl, h2⟩ := h
  rcases h2 with ⟨h9, _⟩ | ⟨g', cap, cur, hv, hb, hh, hn, hm, h8, h7⟩
  · cases h9
  · simp only [Value.slice.injEq, Option.some.injEq, Addr.mk.injEq, true_and, and_true] at hv
    obtain ⟨rfl, rfl⟩ := hv
    refine ⟨cur, hh, h8, hn, by unfold maxLen at hm; omega, hb, fun j hj => ?_, fun j hj => ?_, fun j => frozen_of_row w g j cur e hh⟩
    · rw [cell_of_row w g j cur e (0, 0) hh, ← h7, List.getElem?_take_of_lt hj]; simp
    · rw [cell_of_row w g j cur e (0, 0) hh, Array.getElem?_eq_getElem (by omega)]; rfl
theorem cells_heap {w w' : World} (h : w'.heap = w.heap) : (∀ x, w'.cell? x = w.cell? x) ∧ (∀ x, w'.frozen? x = w.frozen? x) := ⟨fun x => World.cell?_of_block (by rw [h]), fun x => World.frozen?_of_block (by rw [h])⟩
end Idx
end Go.Proofs.Ytapdhelioecneaa
