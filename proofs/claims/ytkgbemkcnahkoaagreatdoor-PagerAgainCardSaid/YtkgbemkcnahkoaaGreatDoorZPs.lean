/- Bits of the use page, plain; bytes as an argument, and a pair of bytes. No condition. -/
import Derived.Test.YtkgbemkcnahkoaaGreatDoorZPw
namespace Go.Proofs.YtkgbemkcnahkoaaGreatDoor
open Go.RowKit
namespace Pgr
open Dsk (zeros)
theorem byte_set (m : List UInt8) (a : Nat) (x : UInt8) (j : Nat) (ha : a < m.length) : ((m.set a x)[j]?).getD 0 = if j = a then x else (m[j]?).getD 0 := by
  rw [List.getElem?_set]
  by_cases h : a = j
  · subst h; simp [ha]
  · rw [if_neg h, if_neg (fun e => h e.symm)]
theorem bit_take {m : List UInt8} {k : Nat} (hm : m.length = 128) (hk : k < 1024) (j : Nat) : bitAt (takeB m k) j = (bitAt m j || j == k) := by
  unfold bitAt takeB byteOf
  rw [byte_set _ _ _ _ (by omega)]
  by_cases h : j / 8 = k / 8
  · rw [if_pos h, UInt8.toNat_ofNat', Nat.testBit_mod_two_pow, Nat.testBit_or, Nat.testBit_two_pow, h]
    have h8 : j % 8 < 8 := Nat.mod_lt _ (by decide)
    by_cases hjk : j = k
    · subst hjk; simp [h8]
    · have h1 : ¬ k % 8 = j % 8 := fun e => hjk (by omega)
      simp [h8, h1, hjk]
  · rw [if_neg h]
    have hjk : ¬ j = k := fun e => h (by rw [e])
    simp [hjk]
theorem bit_give {m : List UInt8} {k : Nat} (hm : m.length = 128) (hk : k < 1024) (j : Nat) : bitAt (giveB m k) j = (bitAt m j && !(j == k)) := by
  unfold bitAt giveB byteOf
  rw [byte_set _ _ _ _ (by omega)]
  by_cases h : j / 8 = k / 8
  · have h8 : j % 8 < 8 := Nat.mod_lt _ (by decide)
    have hx : ∀ a : Nat, a < 8 → ∀ b : Nat, b < 8 → (255 ^^^ 2 ^ a).testBit b = !(b == a) := by decide
    rw [if_pos h, UInt8.toNat_ofNat', Nat.testBit_mod_two_pow, Nat.testBit_and, hx _ (Nat.mod_lt _ (by decide)) _ h8, h]
    by_cases hjk : j = k
    · subst hjk; simp
    · have h1 : (j % 8 == k % 8) = false := by simpa using fun e => hjk (by omega)
      have h2 : (j == k) = false := by simpa using hjk
      rw [h1, h2]; simp [h8]
  · rw [if_neg h]
    have hjk : ¬ j = k := fun e => h (by rw [e])
    simp [hjk]
theorem use_take {m : List UInt8} {k : Nat} (hm : m.length = 128) (hk : k < 1024) (j : Nat) : useB (takeB m k) j = (useB m j || j == k) := by
  unfold useB; rw [bit_take hm hk]; cases (j == 0) <;> simp
theorem use_give {m : List UInt8} {k : Nat} (hm : m.length = 128) (hk : k < 1024) (h0 : k ≠ 0) (j : Nat) : useB (giveB m k) j = (useB m j && !(j == k)) := by
  unfold useB; rw [bit_give hm hk]
  by_cases hj : j = 0
  · subst hj
    have : ((0 : Nat) == k) = false := by simpa using fun e => h0 e.symm
    simp [this]
  · have : (j == 0) = false := by simpa using hj
    simp [this]
theorem use_zeros (j : Nat) : useB zeros j = (j == 0) := by
  unfold useB bitAt byteOf
  have : ((zeros : List UInt8)[j / 8]?).getD 0 = 0 := by
    rcases Nat.lt_or_ge (j / 8) zeros.length with h | h
    · rw [List.getElem?_eq_getElem h]
      exact (show ∀ x ∈ (zeros : List UInt8), x = 0 by decide +kernel) _ (List.getElem_mem h)
    · rw [List.getElem?_eq_none h]; rfl
  rw [this]; simp
/-- A row of truths is what the use page has. -/
def UsedIs (ks : List Bool) (m : List UInt8) : Prop := ∀ j (h : j < ks.length), ks[j] = useB m j
theorem UsedIs.take {ks : List Bool} {m : List UInt8} {k : Nat} (h : UsedIs ks m) (hm : m.length = 128) (hk : k < 1024) : UsedIs (ks.set k true) (takeB m k) := fun j hj => by
  rw [List.length_set] at hj
  rw [use_take hm hk, List.getElem_set]
  by_cases e : k = j
  · subst e; simp
  · have : (j == k) = false := by simpa using fun e2 => e e2.symm
    rw [if_neg e, this, h j hj]; simp
theorem UsedIs.give {ks : List Bool} {m : List UInt8} {k : Nat} (h : UsedIs ks m) (hm : m.length = 128) (hk : k < 1024) (h0 : k ≠ 0) : UsedIs (ks.set k false) (giveB m k) := fun j hj => by
  rw [List.length_set] at hj
  rw [use_give hm hk h0, List.getElem_set]
  by_cases e : k = j
  · subst e; simp
  · have : (j == k) = false := by simpa using fun e2 => e e2.symm
    rw [if_neg e, this, h j hj]; simp
/-! ### Bytes as an argument -/
def BytesA (bs : List Nat) (v : Value) (w : World) : Prop := ∃ ao cap, v = .slice ao bs.length cap ∧ bs.length ≤ cap ∧ cap ≤ 9223372036854775807 ∧ (∀ x ∈ bs, x < 256) ∧ (bs ≠ [] → ∃ b o, ao = some ⟨b, o, none⟩ ∧ b < w.heap.size ∧ ∀ j (h : j < bs.length), w.cell? ⟨b, o + j, none⟩ = some (.int .u8 (bs[j] : Int)))
end Pgr
namespace Dsk
open Go.ChangeShapes Go.WideShapes Go.ChangeAt Go.Deep
section
variable {H : Type} {enc : TypeId × Value → H} {W : World} {base : Nat} {sp : Nat → Bool} {held : Bool}
theorem cU : Tryz.prog.cellsOf 5 = 1 := by kernel_rfl
set_option maxRecDepth 100000 in
theorem open_u8s {v : Value} {d : DataW H} {p : List MemPlace} {r : Reach} {b0 : Nat} (hok : Value.okWide Tryz.prog W r b0 64 v) (h : DataW.Trod enc Tryz.prog W base sp held 64 v d p) :
    ∃ bs : List Nat, Pgr.BytesA bs v W := by
  obtain ⟨a, len, cap, rfl⟩ := okWide_slice Tryz.underlying64 hok
  obtain ⟨fuel, hf⟩ := h
  rcases open_slice1 Tryz.underlying64 cU hf with ⟨hcs, _⟩ | ⟨a', len', cap', m, n, V, D, Pl, hcs, hb, hl, hm, hmm, _, hi⟩
  · have hcs' : [Value.slice a len cap] = [.slice none 0 0] := hcs
    simp only [List.cons.injEq, Value.slice.injEq, and_true] at hcs'
    obtain ⟨rfl, rfl, rfl⟩ := hcs'
    exact ⟨[], none, 0, rfl, Nat.le_refl _, by omega, (fun x hx => by cases hx), fun hne => absurd rfl hne⟩
  · have hcs' : [Value.slice a len cap] = [.slice (some a') len' cap'] := hcs
    simp only [List.cons.injEq, Value.slice.injEq, and_true] at hcs'
    obtain ⟨rfl, rfl, rfl⟩ := hcs'
    have hle : len ≤ m := by rw [hmm]; split <;> omega
    have key : ∀ k, k ≤ len → ∃ bs : List Nat, bs.length = k ∧ (∀ x ∈ bs, x < 256) ∧ ∀ j (hj : j < bs.length), W.cell? (a'.add j) = some (.int .u8 (bs[j] : Int)) := by
      intro k
      induction k with
      | zero => intro _; exact ⟨[], rfl, (fun x hx => by cases hx), fun j hj => by cases hj⟩
      | succ k ih =>
        intro hk
        obtain ⟨bs, h1, h3, h2⟩ := ih (by omega)
        obtain ⟨hc, ht⟩ := hi k (by omega)
        obtain ⟨z, hz, _, wz⟩ := DataW.trod_int Tryz.underlying5 ht
        have bz := bounds_u8 wz
        obtain ⟨y, rfl⟩ := Int.eq_ofNat_of_zero_le bz.1
        simp only [List.cons.injEq, and_true] at hz
        rw [hz] at hc
        refine ⟨bs ++ [y], by simp [h1], ?_, fun j hj => ?_⟩
        · intro x hx
          rcases List.mem_append.1 hx with hx | hx
          · exact h3 x hx
          · rw [List.mem_singleton.1 hx]; omega
        rcases Nat.lt_or_ge j bs.length with hj2 | hj2
        · rw [List.getElem_append_left hj2]; exact h2 j hj2
        · have : j = k := by rw [List.length_append] at hj; simp at hj; omega
          subst this
          rw [List.getElem_append_right hj2]
          simpa [h1] using hc
    obtain ⟨bs, h1, h3, h2⟩ := key len (Nat.le_refl _)
    refine ⟨bs, some a', cap, by rw [h1], by rw [h1]; exact hl, by unfold maxLen at hm; omega, h3, fun hne => ?_⟩
    have hpos : 0 < bs.length := List.length_pos_iff.2 hne
    have h0 := h2 0 hpos
    have e0 : a'.add 0 = a' := rfl
    rw [e0] at h0
    obtain ⟨b, o, rfl, hlt⟩ := plain_addr h0
    refine ⟨b, o, rfl, hlt, fun j hj => ?_⟩
    have := h2 j hj
    have e : (⟨b, o, none⟩ : Addr).add j = ⟨b, o + j, none⟩ := by unfold Addr.add; split <;> simp_all
    rw [e] at this; exact this
end
end Dsk
end Go.Proofs.YtkgbemkcnahkoaaGreatDoor
