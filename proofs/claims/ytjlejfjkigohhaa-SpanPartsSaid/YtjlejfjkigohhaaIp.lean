/- An interval, and intervals, as arguments: opened to what they hold. No condition. -/
import Derived.Test.YtjlejfjkigohhaaId
import Derived.ProofKit
import Derived.OpenShut
import Derived.Lib.SmallJoins
import Derived.Deep.Slices
namespace Go.Proofs.Ytjlejfjkigohhaa
open Go.ChangeShapes Go.WideShapes Go.ChangeAt Go.RowKit Go.Joins Go.Deep
namespace Spn
section
variable {H : Type} {enc : TypeId × Value → H} {W : World} {base : Nat} {sp : Nat → Bool} {held : Bool}
theorem cS2 : Try.prog.cellsOf 23 = 2 := by kernel_rfl
theorem cI1 : Try.prog.cellsOf 3 = 1 := by kernel_rfl
set_option maxRecDepth 100000 in
theorem open_one {fuel : Nat} {cs : List Value} {x : DataW H × List MemPlace} (h : DataW.trod enc Try.prog W base sp held fuel 23 cs = some x) : ∃ v : Sp, cs = scells v := by
  obtain ⟨xs, n, _, _, hlen, hxl, hf⟩ := DataW.trod_struct Try.underlying23 h
  rw [cS2] at hlen
  match cs, hlen with
  | [c0, c1], _ =>
    match xs, hxl with
    | [y0, y1], _ =>
      have a0 : DataW.trod enc Try.prog W base sp held n 3 (([c0, c1].drop 0).take (Try.prog.cellsOf 3)) = some y0 := hf 0 _ rfl
      have a1 : DataW.trod enc Try.prog W base sp held n 3 (([c0, c1].drop 1).take (Try.prog.cellsOf 3)) = some y1 := hf 1 _ rfl
      rw [cI1] at a0 a1
      have g0 : DataW.trod enc Try.prog W base sp held n 3 [c0] = some y0 := a0
      have g1 : DataW.trod enc Try.prog W base sp held n 3 [c1] = some y1 := a1
      obtain ⟨k, e0, _, _⟩ := DataW.trod_int Try.underlying3 g0
      obtain ⟨m, e1, _, _⟩ := DataW.trod_int Try.underlying3 g1
      simp only [List.cons.injEq, and_true] at e0 e1
      subst e0 e1
      exact ⟨(k, m), rfl⟩
theorem open_span {v : Value} {d : DataW H} {p : List MemPlace} {r : Reach} {b0 : Nat} (hok : Value.okWide Try.prog W r b0 23 v) (h : DataW.Trod enc Try.prog W base sp held 23 v d p) :
    ∃ a b : Int, v = .agg #[.int .i64 a, .int .i64 b] := by
  obtain ⟨cs, rfl, hsz⟩ := okWide_struct Try.underlying23 hok
  obtain ⟨fuel, hf⟩ := h
  obtain ⟨x, hx⟩ := open_one hf
  refine ⟨x.1, x.2, ?_⟩
  have hx2 : cs.toList = scells x := hx
  congr 1
  exact Array.toList_inj.1 hx2
theorem plain_addr {a : Addr} {v : Value} (h : W.cell? a = some v) : ∃ b o, a = ⟨b, o, none⟩ ∧ b < W.heap.size := by
  have hlt : a.block < W.heap.size := World.block_lt_of_cell? W _ h
  obtain ⟨b, off, spot⟩ := a
  have hs : spot = none := by
    unfold World.cell? at h
    simp only at h
    split at h
    · split at h
      · cases h
      · rename_i hns
        cases spot with
        | none => rfl
        | some q => simp at hns
    · cases h
  subst hs
  exact ⟨b, off, rfl, hlt⟩
set_option maxRecDepth 100000 in
theorem open_spans {v : Value} {d : DataW H} {p : List MemPlace} {r : Reach} {b0 : Nat} (hok : Value.okWide Try.prog W r b0 29 v) (h : DataW.Trod enc Try.prog W base sp held 29 v d p) :
    ∃ l : List Sp, SpansAt l v W := by
  obtain ⟨a, len, cap, rfl⟩ := okWide_slice Try.underlying29 hok
  obtain ⟨fuel, hf⟩ := h
  rcases open_slice Try.underlying29 hf with ⟨hcs, _⟩ | ⟨a', len', cap', m, n, D, Pl, hcs, hb, hl, hm, hmm, _, hi⟩
  · have hcs' : [Value.slice a len cap] = [.slice none 0 0] := hcs
    simp only [List.cons.injEq, Value.slice.injEq, and_true] at hcs'
    obtain ⟨rfl, rfl, rfl⟩ := hcs'
    exact ⟨[], none, 0, rfl, Nat.le_refl _, by omega, .inl ⟨rfl, fun _ => rfl⟩⟩
  · have hcs' : [Value.slice a len cap] = [.slice (some a') len' cap'] := hcs
    simp only [List.cons.injEq, Value.slice.injEq, and_true] at hcs'
    obtain ⟨rfl, rfl, rfl⟩ := hcs'
    have hle : len ≤ m := by rw [hmm]; split <;> omega
    rw [cS2] at hi
    have key : ∀ k, k ≤ len → ∃ vs : List Sp, vs.length = k ∧ ∀ j, j < k * 2 → W.cell? (a'.add j) = (flat vs)[j]? := by
      intro k
      induction k with
      | zero => intro _; exact ⟨[], rfl, fun j hj => by omega⟩
      | succ k ih =>
        intro hk
        obtain ⟨vs, h1, h3⟩ := ih (by omega)
        obtain ⟨cs', hc, ht⟩ := hi k (by omega)
        obtain ⟨_, _, hat⟩ := World.cells?_some hc
        obtain ⟨x, hx⟩ := open_one ht
        refine ⟨vs ++ [x], by simp [h1], fun j hj => ?_⟩
        · rw [flat_app]
          have hfl : (flat vs).length = k * 2 := by rw [flat_len, h1]
          rcases Nat.lt_or_ge j (k * 2) with hj2 | hj2
          · rw [List.getElem?_append_left (by omega)]; exact h3 j hj2
          · have e1 : flat [x] = scells x := by simp [flat]
            rw [List.getElem?_append_right (by omega), hfl, e1, ← hx, ← hat (j - k * 2) (by omega)]
            congr 1
            rw [Go.Deep.add_add]
            congr 1; omega
    obtain ⟨vs, h1, h3⟩ := key len (Nat.le_refl _)
    refine ⟨vs, some a', cap, by rw [h1], by rw [h1]; exact hl, by unfold maxLen at hm; omega, ?_⟩
    cases vs with
    | nil => exact .inl ⟨rfl, fun e => by cases e⟩
    | cons x xs =>
      refine .inr ?_
      have h0 := h3 0 (by rw [← h1]; simp)
      have e0 : a'.add 0 = a' := rfl
      have hf0 : (flat (x :: xs))[0]? = some (.int .i64 x.1) := rfl
      rw [e0, hf0] at h0
      obtain ⟨b, off, rfl, hlt⟩ := plain_addr h0
      refine ⟨b, off, rfl, hlt, fun j hj => ?_⟩
      have := h3 j (by rw [← h1]; exact hj)
      have e : (⟨b, off, none⟩ : Addr).add j = ⟨b, off + j, none⟩ := by unfold Addr.add; split <;> simp_all
      rw [e] at this; exact this
end
end Spn
end Go.Proofs.Ytjlejfjkigohhaa
