/- A row of texts as an argument: opened to what it holds. No condition. -/
import Derived.Test.YtpamffheapnoaaaWv
import Derived.Test.YtpamffheapnoaaaWo
namespace Go.Proofs.Ytpamffheapnoaaa
open Go.ChangeShapes Go.WideShapes Go.ChangeAt Go.RowKit Go.Deep
namespace Wal
open Dsk (cS plain_addr)
open Crc (S S_of S_size hidm)
section
variable {H : Type} {enc : TypeId × Value → H} {W : World} {base : Nat} {sp : Nat → Bool} {held : Bool}
set_option maxRecDepth 100000 in
theorem open_strs1 {fuel : Nat} {cs : List Value} {x : DataW H × List MemPlace} (h : DataW.trod enc Try.prog W base sp held fuel 37 cs = some x) :
    ∃ (l : List (List UInt8)) (v : Value), cs = [v] ∧ StrsAt l v W := by
  rcases open_slice1 Try.underlying37 cS h with ⟨hcs, _⟩ | ⟨a', len', cap', m, n, V, D, Pl, hcs, hb, hl, hm, hmm, _, hi⟩
  · exact ⟨[], _, hcs, none, 0, rfl, Nat.le_refl _, by omega, fun h => absurd rfl h⟩
  · have hle : len' ≤ m := by rw [hmm]; split <;> omega
    have key : ∀ k, k ≤ len' → ∃ l : List (List UInt8), l.length = k ∧ ∀ j (hj : j < l.length), W.cell? (a'.add j) = some (.string (S l[j])) := by
      intro k
      induction k with
      | zero => intro _; exact ⟨[], rfl, fun j hj => by cases hj⟩
      | succ k ih =>
        intro hk
        obtain ⟨l, h1, h2⟩ := ih (by omega)
        obtain ⟨hc, ht⟩ := hi k (by omega)
        obtain ⟨s, hs, _⟩ := DataW.trod_string Try.underlying9 ht
        simp only [List.cons.injEq, and_true] at hs
        rw [hs] at hc
        refine ⟨l ++ [s.data.toList], by simp [h1], fun j hj => ?_⟩
        rcases Nat.lt_or_ge j l.length with hj2 | hj2
        · rw [List.getElem_append_left hj2]; exact h2 j hj2
        · have : j = k := by rw [List.length_append] at hj; simp at hj; omega
          subst this
          rw [List.getElem_append_right hj2]
          simpa [h1, S_of] using hc
    obtain ⟨l, h1, h2⟩ := key len' (Nat.le_refl _)
    refine ⟨l, _, hcs, some a', cap', by rw [h1], by rw [h1]; exact hl, by unfold maxLen at hm; omega, fun hne => ?_⟩
    have hpos : 0 < l.length := List.length_pos_iff.2 hne
    have h0 := h2 0 hpos
    have e0 : a'.add 0 = a' := rfl
    rw [e0] at h0
    obtain ⟨b, o, rfl, hlt⟩ := plain_addr h0
    refine ⟨b, o, rfl, hlt, fun j hj => ?_⟩
    have := h2 j hj
    have e : (⟨b, o, none⟩ : Addr).add j = ⟨b, o + j, none⟩ := by unfold Addr.add; split <;> simp_all
    rw [e] at this; exact this
set_option maxRecDepth 100000 in
theorem open_strs {v : Value} {d : DataW H} {p : List MemPlace} {r : Reach} {b0 : Nat} (hok : Value.okWide Try.prog W r b0 37 v) (h : DataW.Trod enc Try.prog W base sp held 37 v d p) :
    ∃ l : List (List UInt8), StrsAt l v W := by
  obtain ⟨a, len, cap, rfl⟩ := okWide_slice Try.underlying37 hok
  obtain ⟨fuel, hf⟩ := h
  obtain ⟨l, v, e, hk⟩ := open_strs1 hf
  have e' : [Value.slice a len cap] = [v] := e
  simp only [List.cons.injEq, and_true] at e'
  exact ⟨l, e' ▸ hk⟩
end
end Wal
end Go.Proofs.Ytpamffheapnoaaa
