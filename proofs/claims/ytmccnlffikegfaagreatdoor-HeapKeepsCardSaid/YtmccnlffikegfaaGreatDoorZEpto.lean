/- Bits of the use page, plain. No condition. -/
import Derived.Test.YtmccnlffikegfaaGreatDoorZPpto
namespace Go.Proofs.YtmccnlffikegfaaGreatDoor
open Go.RowKit
namespace Pgr
open Dsk (zeros)
theorem byte_set (m : List UInt8) (a : Nat) (x : UInt8) (j : Nat) (ha : a < m.length) : ((m.set a x)[j]?).getD 0 = if j = a then x else (m[j]?).getD 0 := by
  rw [List.getElem?_set]
  by_cases h : a = j
  · subst h; simp [ha]
  · rw [if_neg h, if_neg (fun e => h e.symm)]
theorem bit_take {m : List UInt8} {k : Nat} (hm : m.length = 128) (hk : k < 1024) (j : Nat) : bitAt (takeB m k) j = (bitAt m j || j == k) := by
  unfold bitAt takeB byteOf
  rw [byte_set _ _ _ _ (by omega)]
  by_cases h : j / 8 = k / 8
  · rw [if_pos h, UInt8.toNat_ofNat', Nat.testBit_mod_two_pow, Nat.testBit_or, Nat.testBit_two_pow, h]
    have h8 : j % 8 < 8 := Nat.mod_lt _ (by decide)
    by_cases hjk : j = k
    · subst hjk; simp [h8]
    · have h1 : ¬ k % 8 = j % 8 := fun e => hjk (by omega)
      simp [h8, h1, hjk]
  · rw [if_neg h]
    have hjk : ¬ j = k := fun e => h (by rw [e])
    simp [hjk]
theorem bit_give {m : List UInt8} {k : Nat} (hm : m.length = 128) (hk : k < 1024) (j : Nat) : bitAt (giveB m k) j = (bitAt m j && !(j == k)) := by
  unfold bitAt giveB byteOf
  rw [byte_set _ _ _ _ (by omega)]
  by_cases h : j / 8 = k / 8
  · have h8 : j % 8 < 8 := Nat.mod_lt _ (by decide)
    have hx : ∀ a : Nat, a < 8 → ∀ b : Nat, b < 8 → (255 ^^^ 2 ^ a).testBit b = !(b == a) := by decide
    rw [if_pos h, UInt8.toNat_ofNat', Nat.testBit_mod_two_pow, Nat.testBit_and, hx _ (Nat.mod_lt _ (by decide)) _ h8, h]
    by_cases hjk : j = k
    · subst hjk; simp
    · have h1 : (j % 8 == k % 8) = false := by simpa using fun e => hjk (by omega)
      have h2 : (j == k) = false := by simpa using hjk
      rw [h1, h2]; simp [h8]
  · rw [if_neg h]
    have hjk : ¬ j = k := fun e => h (by rw [e])
    simp [hjk]
theorem use_take {m : List UInt8} {k : Nat} (hm : m.length = 128) (hk : k < 1024) (j : Nat) : useB (takeB m k) j = (useB m j || j == k) := by
  unfold useB; rw [bit_take hm hk]; cases (j == 0) <;> simp
theorem use_give {m : List UInt8} {k : Nat} (hm : m.length = 128) (hk : k < 1024) (h0 : k ≠ 0) (j : Nat) : useB (giveB m k) j = (useB m j && !(j == k)) := by
  unfold useB; rw [bit_give hm hk]
  by_cases hj : j = 0
  · subst hj
    have : ((0 : Nat) == k) = false := by simpa using fun e => h0 e.symm
    simp [this]
  · have : (j == 0) = false := by simpa using hj
    simp [this]
theorem use_zeros (j : Nat) : useB zeros j = (j == 0) := by
  unfold useB bitAt byteOf
  have : ((zeros : List UInt8)[j / 8]?).getD 0 = 0 := by
    rcases Nat.lt_or_ge (j / 8) zeros.length with h | h
    · rw [List.getElem?_eq_getElem h]
      exact (show ∀ x ∈ (zeros : List UInt8), x = 0 by decide +kernel) _ (List.getElem_mem h)
    · rw [List.getElem?_eq_none h]; rfl
  rw [this]; simp
/-- A row of truths is what the use page has. -/
def UsedIs (ks : List Bool) (m : List UInt8) : Prop := ∀ j (h : j < ks.length), ks[j] = useB m j
theorem UsedIs.take {ks : List Bool} {m : List UInt8} {k : Nat} (h : UsedIs ks m) (hm : m.length = 128) (hk : k < 1024) : UsedIs (ks.set k true) (takeB m k) := fun j hj => by
  rw [List.length_set] at hj
  rw [use_take hm hk, List.getElem_set]
  by_cases e : k = j
  · subst e; simp
  · have : (j == k) = false := by simpa using fun e2 => e e2.symm
    rw [if_neg e, this, h j hj]; simp
theorem UsedIs.give {ks : List Bool} {m : List UInt8} {k : Nat} (h : UsedIs ks m) (hm : m.length = 128) (hk : k < 1024) (h0 : k ≠ 0) : UsedIs (ks.set k false) (giveB m k) := fun j hj => by
  rw [List.length_set] at hj
  rw [use_give hm hk h0, List.getElem_set]
  by_cases e : k = j
  · subst e; simp
  · have : (j == k) = false := by simpa using fun e2 => e e2.symm
    rw [if_neg e, this, h j hj]; simp
end Pgr
end Go.Proofs.YtmccnlffikegfaaGreatDoor
/- A heap, plain: pages as a function of their numbers; pages taken and freed; a record's row of pages. Conditions: as each says. -/
namespace Go.Proofs.YtmccnlffikegfaaGreatDoor
open Go.RowKit
namespace Hep
open Pgr
open Dsk (zeros pad pad_len)
abbrev Pages := Nat → List UInt8
section
variable {G G' G2 : Pages} {N k j : Nat} {l : List Nat} {s : List UInt8}
def upG (G : Pages) (k : Nat) (s : List UInt8) : Pages := fun j => if j = k then s else G j
theorem upG_at : upG G k s k = s := if_pos rfl
theorem upG_no (h : j ≠ k) : upG G k s j = G j := if_neg h
/-- Is page k in use? -/
def inU (G : Pages) (k : Nat) : Bool := useB (G 0) k
/-- Page k is taken into use. -/
def takeG (G : Pages) (k : Nat) : Pages := upG (upG G 0 (takeB (G 0) k)) k zeros
/-- Page k is freed. -/
def giveG (G : Pages) (k : Nat) : Pages := upG G 0 (giveB (G 0) k)
theorem over_up (ch : Ch) (V : Pages) (k : Nat) (s : List UInt8) : over (put ch k s) V = upG (over ch V) k s := funext fun j => over_put ch V k s j
theorem over_take (ch : Ch) (V : Pages) (k : Nat) : over (allocCh ch (over ch V 0) k) V = takeG (over ch V) k := by
  unfold allocCh takeG; rw [over_up, over_up]
theorem over_give (ch : Ch) (V : Pages) (k : Nat) : over (put ch 0 (giveB (over ch V 0) k)) V = giveG (over ch V) k := over_up _ _ _ _
theorem inU_up (h : k ≠ 0) : inU (upG G k s) j = inU G j := by unfold inU; rw [upG_no (fun e => h e.symm)]
theorem take_zero (h : k ≠ 0) : takeG G k 0 = takeB (G 0) k := by unfold takeG; rw [upG_no (fun e => h e.symm), upG_at]
theorem take_at : takeG G k k = zeros := upG_at
theorem take_no (h0 : j ≠ 0) (h : j ≠ k) : takeG G k j = G j := by unfold takeG; rw [upG_no h, upG_no h0]
theorem give_zero : giveG G k 0 = giveB (G 0) k := upG_at
theorem give_no (h0 : j ≠ 0) : giveG G k j = G j := upG_no h0
theorem inU_take (hm : (G 0).length = 128) (hk : k < 1024) (h0 : k ≠ 0) (j : Nat) : inU (takeG G k) j = (inU G j || j == k) := by
  unfold inU; rw [take_zero h0]; exact use_take hm hk j
theorem inU_give (hm : (G 0).length = 128) (hk : k < 1024) (h0 : k ≠ 0) (j : Nat) : inU (giveG G k) j = (inU G j && !(j == k)) := by
  unfold inU; rw [give_zero]; exact use_give hm hk h0 j
theorem inU_zero : inU G 0 = true := rfl
theorem take_l0 (hm : (G 0).length = 128) (h0 : k ≠ 0) : (takeG G k 0).length = 128 := by rw [take_zero h0]; exact Pgr.take_len hm
theorem give_l0 (hm : (G 0).length = 128) : (giveG G k 0).length = 128 := by rw [give_zero]; exact Pgr.give_len hm
/-! ### How many are free -/
theorem free_off {m m' : List UInt8} (h : ∀ j, useB m' j = (useB m j || j == k)) (hk : useB m k = false) : ∀ n, freeN m' n + (if k < n then 1 else 0) = freeN m n
  | 0 => rfl
  | n + 1 => by
    have ih := free_off h hk n
    show freeN m' n + (if useB m' n then 0 else 1) + (if k < n + 1 then 1 else 0) = freeN m n + (if useB m n then 0 else 1)
    rw [h n]
    by_cases hn : n = k
    · subst hn
      rw [hk]
      simp only [Nat.lt_irrefl, if_false] at ih
      simp only [beq_self_eq_true, Bool.or_true, if_true, Nat.lt_succ_self, Bool.false_eq_true, if_false]
      omega
    · have e : (n == k) = false := by simpa using hn
      rw [e, Bool.or_false]
      by_cases h1 : k < n
      · rw [if_pos h1] at ih; rw [if_pos (show k < n + 1 by omega)]; omega
      · rw [if_neg h1] at ih; rw [if_neg (show ¬ k < n + 1 by omega)]; omega
theorem free_on {m m' : List UInt8} (h : ∀ j, useB m' j = (useB m j && !(j == k))) (hk : useB m k = true) : ∀ n, freeN m' n = freeN m n + (if k < n then 1 else 0)
  | 0 => rfl
  | n + 1 => by
    have ih := free_on h hk n
    show freeN m' n + (if useB m' n then 0 else 1) = freeN m n + (if useB m n then 0 else 1) + (if k < n + 1 then 1 else 0)
    rw [h n]
    by_cases hn : n = k
    · subst hn
      rw [hk]
      simp only [Nat.lt_irrefl, if_false] at ih
      simp only [beq_self_eq_true, Bool.not_true, Bool.and_false, Bool.false_eq_true, if_false, if_true, Nat.lt_succ_self]
      omega
    · have e : (n == k) = false := by simpa using hn
      rw [e, Bool.not_false, Bool.and_true]
      by_cases h1 : k < n
      · rw [if_pos h1] at ih; rw [if_pos (show k < n + 1 by omega)]; omega
      · rw [if_neg h1] at ih; rw [if_neg (show ¬ k < n + 1 by omega)]; omega
theorem free_none {m : List UInt8} : ∀ n, (∀ j, j < n → useB m j = true) → freeN m n = 0
  | 0, _ => rfl
  | n + 1, h => by
    show freeN m n + (if useB m n then 0 else 1) = 0
    rw [free_none n (fun j hj => h j (by omega)), h n (by omega)]; rfl
/-! ### Pages taken, one behind the other -/
/-- These pages are taken, each the least that is free. -/
def Takes (N : Nat) (G : Pages) : List Nat → Pages → Prop
  | [], G' => G' = G
  | k :: l, G' => k < N ∧ k ≠ 0 ∧ inU G k = false ∧ (∀ j, j < k → inU G j = true) ∧ Takes N (takeG G k) l G'
structure Took (N : Nat) (G : Pages) (l : List Nat) (G' : Pages) : Prop where
  use : ∀ j, inU G' j = (inU G j || decide (j ∈ l))
  was : ∀ j, j ∈ l → inU G j = false ∧ j ≠ 0 ∧ j < N
  once : l.Nodup
  same : ∀ j, j ≠ 0 → j ∉ l → G' j = G j
  zero : ∀ j, j ∈ l → G' j = zeros
  free : freeN (G' 0) N + l.length = freeN (G 0) N
  l0 : (G' 0).length = 128
theorem Takes.took (hN : N ≤ 1024) : ∀ {l : List Nat} {G : Pages}, (G 0).length = 128 → Takes N G l G' → Took N G l G'
  | [], G, hm, h => by
    have e : G' = G := h
    subst e
    exact ⟨fun j => by simp, fun j hj => (by cases hj), List.nodup_nil, fun _ _ _ => rfl, fun j hj => (by cases hj), rfl, hm⟩
  | k :: l, G, hm, h => by
    obtain ⟨h1, h2, h3, _, h5⟩ := h
    have t := Takes.took hN (take_l0 hm h2) h5
    have hu := inU_take hm (by omega : k < 1024) h2
    have hkl : k ∉ l := fun hk => by have := (t.was k hk).1; rw [hu k] at this; simp at this
    refine ⟨fun j => ?_, fun j hj => ?_, List.nodup_cons.2 ⟨hkl, t.once⟩, fun j hj hn => ?_, fun j hj => ?_, ?_, t.l0⟩
    · rw [t.use j, hu j]
      by_cases e : j = k
      · subst e; simp
      · have e2 : (j == k) = false := by simpa using e
        rw [e2]; simp [e]
    · rcases List.mem_cons.1 hj with e | e
      · subst e; exact ⟨h3, h2, h1⟩
      · have h4 := t.was j e
        rw [hu j] at h4
        refine ⟨?_, h4.2⟩
        have := h4.1
        cases hx : inU G j
        · rfl
        · rw [hx] at this; simp at this
    · have hn' : j ≠ k ∧ j ∉ l := by simpa using hn
      rw [t.same j hj hn'.2, take_no hj hn'.1]
    · rcases List.mem_cons.1 hj with e | e
      · subst e; rw [t.same j h2 hkl, take_at]
      · exact t.zero j e
    · have h6 := t.free
      have h7 := free_off (m := G 0) (m' := takeG G k 0) (k := k) hu h3 N
      rw [if_pos h1] at h7
      rw [List.length_cons]; omega
theorem Takes.one : ∀ {l l2 : List Nat} {G : Pages}, Takes N G l G' → Takes N G l2 G2 → l.length = l2.length → l = l2 ∧ G' = G2
  | [], [], G, h, h2, _ => ⟨rfl, (show G' = G from h).trans (show G2 = G from h2).symm⟩
  | [], _ :: _, _, _, _, e => by cases e
  | _ :: _, [], _, _, _, e => by cases e
  | k :: l, k2 :: l2, G, h, h2, e => by
    obtain ⟨a1, a2, a3, a4, a5⟩ := h
    obtain ⟨b1, b2, b3, b4, b5⟩ := h2
    have hk : k = k2 := by
      rcases Nat.lt_trichotomy k k2 with c | c | c
      · have := b4 k c; rw [a3] at this; cases this
      · exact c
      · have := a4 k2 c; rw [b3] at this; cases this
    subst hk
    obtain ⟨e1, e2⟩ := Takes.one a5 b5 (by simpa using e)
    exact ⟨by rw [e1], e2⟩
theorem Takes.snoc : ∀ {l : List Nat} {G : Pages}, Takes N G l G' → k < N → k ≠ 0 → inU G' k = false → (∀ j, j < k → inU G' j = true) → Takes N G (l ++ [k]) (takeG G' k)
  | [], G, h, h1, h2, h3, h4 => by have e : G' = G := h; subst e; exact ⟨h1, h2, h3, h4, rfl⟩
  | _ :: _, _, ⟨a1, a2, a3, a4, a5⟩, h1, h2, h3, h4 => ⟨a1, a2, a3, a4, Takes.snoc a5 h1 h2 h3 h4⟩
/-! ### Pages freed -/
def gives : List Nat → Pages → Pages
  | [], G => G
  | k :: l, G => gives l (giveG G k)
structure Gave (N : Nat) (G : Pages) (l : List Nat) (G' : Pages) : Prop where
  use : ∀ j, inU G' j = (inU G j && !decide (j ∈ l))
  same : ∀ j, j ≠ 0 → G' j = G j
  free : freeN (G' 0) N = freeN (G 0) N + l.length
  l0 : (G' 0).length = 128
theorem gave (hN : N ≤ 1024) : ∀ {l : List Nat} {G : Pages}, (G 0).length = 128 → l.Nodup → (∀ j, j ∈ l → inU G j = true ∧ j ≠ 0 ∧ j < N) → Gave N G l (gives l G)
  | [], G, hm, _, _ => ⟨fun j => by simp [gives], fun _ _ => rfl, rfl, hm⟩
  | k :: l, G, hm, hn, hw => by
    obtain ⟨h1, h2, h3⟩ := hw k (by simp)
    obtain ⟨n1, n2⟩ := List.nodup_cons.1 hn
    have hu := inU_give hm (by omega : k < 1024) h2
    have t := gave hN (G := giveG G k) (give_l0 hm) n2 (fun j hj => by
      have h4 := hw j (List.mem_cons_of_mem _ hj)
      refine ⟨?_, h4.2⟩
      rw [hu j, h4.1]
      have : j ≠ k := fun e => n1 (e ▸ hj)
      simp [this])
    refine ⟨fun j => ?_, fun j hj => ?_, ?_, t.l0⟩
    · show inU (gives l (giveG G k)) j = _
      rw [t.use j, hu j]
      by_cases e : j = k
      · subst e; simp
      · have e2 : (j == k) = false := by simpa using e
        rw [e2]; simp [e]
    · show gives l (giveG G k) j = _
      rw [t.same j hj, give_no hj]
    · show freeN (gives l (giveG G k) 0) N = _
      have h6 := t.free
      have h7 := free_on (m := G 0) (m' := giveG G k 0) (k := k) hu h1 N
      rw [if_pos h3] at h7
      rw [List.length_cons]; omega
end
end Hep
end Go.Proofs.YtmccnlffikegfaaGreatDoor
