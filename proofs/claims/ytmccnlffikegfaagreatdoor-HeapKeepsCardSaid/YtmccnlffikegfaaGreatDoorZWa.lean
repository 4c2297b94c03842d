/- Sealed sectors, slots and places, as plain functions of bytes: what is sealed is read as it was. No condition. -/
import Derived.Test.YtmccnlffikegfaaGreatDoorZCod
import Derived.Test.YtmccnlffikegfaaGreatDoorZKrto
namespace Go.Proofs.YtmccnlffikegfaaGreatDoor
namespace Wal
open Cod (uB num num_uB read_uB uB_len uB_pos)
/-- A body with its length and its sum. -/
def sealB (b : List UInt8) : List UInt8 := if 123 < b.length then [] else UInt8.ofNat b.length :: Crc.put b
/-- The body with whose seal a text begins. -/
def un : List UInt8 → Option (List UInt8)
  | [] => none
  | c :: t => if 123 < c.toNat ∨ t.length < c.toNat + 4 then none else if Crc.good (t.take (c.toNat + 4)) then some (t.take c.toNat) else none
theorem sealB_len {b : List UInt8} (h : b.length ≤ 123) : (sealB b).length = b.length + 5 := by
  unfold sealB
  rw [if_neg (by omega), List.length_cons, Crc.put_len]
theorem un_seal {b : List UInt8} (h : b.length ≤ 123) (r : List UInt8) : un (sealB b ++ r) = some b := by
  have hc : (UInt8.ofNat b.length).toNat = b.length := by
    rw [UInt8.toNat_ofNat']
    omega
  have hp := Crc.put_len b
  unfold sealB
  rw [if_neg (by omega), List.cons_append]
  show (if 123 < (UInt8.ofNat b.length).toNat ∨ (Crc.put b ++ r).length < (UInt8.ofNat b.length).toNat + 4 then none else if Crc.good ((Crc.put b ++ r).take ((UInt8.ofNat b.length).toNat + 4)) then some ((Crc.put b ++ r).take (UInt8.ofNat b.length).toNat) else none) = some b
  rw [hc, if_neg (by rw [List.length_append, hp]; omega)]
  have h1 : (Crc.put b ++ r).take (b.length + 4) = Crc.put b := by
    rw [List.take_append_of_le_length (by omega), List.take_of_length_le (by omega)]
  have h2 : (Crc.put b ++ r).take b.length = b := by
    unfold Crc.put
    rw [List.append_assoc, List.take_append_of_le_length (by omega), List.take_of_length_le (by omega)]
  rw [h1, Crc.good_put, if_pos rfl, h2]
/-- What stands behind the mark of a sealed body. -/
def mk (m : UInt8) (s : List UInt8) : Option (List UInt8) :=
  match un s with
  | some (c :: l) => if c = m then some l else none
  | _ => none
theorem mk_seal (m : UInt8) {l : List UInt8} (h : l.length ≤ 122) (r : List UInt8) : mk m (sealB (m :: l) ++ r) = some l := by
  unfold mk
  rw [un_seal (by simp; omega)]
  simp
def slotB (l : List UInt8) : Nat × Nat :=
  match num 0 0 l with
  | .ok (t, l1) => match num 0 0 l1 with
    | .ok (b, l2) => if l2 = [] ∧ t ≤ 1099511627776 ∧ b ≤ t then (t, b) else (0, 0)
    | .error _ => (0, 0)
  | .error _ => (0, 0)
/-- What a slot tells: the turn and the base. -/
def slotP (s : List UInt8) : Nat × Nat :=
  match mk 83 s with
  | some l => slotB l
  | none => (0, 0)
/-- A place. -/
structure Pl where
  turn : Nat
  more : Bool
  sum : List UInt8
  part : List UInt8
def placeB (i : Nat) (l : List UInt8) : Option Pl :=
  match num 0 0 l with
  | .ok (t, l1) => match num 0 0 l1 with
    | .ok (a, l2) => match num 0 0 l2 with
      | .ok (m, l3) => if a = i ∧ m ≤ 1 ∧ 4 ≤ l3.length ∧ l3.length ≤ 104 ∧ (m = 1 → 104 ≤ l3.length) then some ⟨t, m == 1, l3.take 4, l3.drop 4⟩ else none
      | .error _ => none
    | .error _ => none
  | .error _ => none
/-- What a sector tells as the place i. -/
def plP (s : List UInt8) (i : Nat) : Option Pl := (mk 76 s).bind (placeB i)
def sbody (t b : Nat) : List UInt8 := 83 :: (uB t ++ uB b)
def Pl.body (p : Pl) (i : Nat) : List UInt8 := 76 :: (uB p.turn ++ uB i ++ uB (if p.more then 1 else 0) ++ p.sum ++ p.part)
theorem sbody_len {t b : Nat} (ht : t ≤ 1099511627776) (hb : b ≤ t) : (sbody t b).length ≤ 13 := by
  have h1 := uB_len t 6 (by omega) (by have : (128:Nat)^6 = 4398046511104 := by decide
                                       omega)
  have h2 := uB_len b 6 (by omega) (by have : (128:Nat)^6 = 4398046511104 := by decide
                                       omega)
  simp only [sbody, List.length_cons, List.length_append]
  omega
theorem slotP_body {t b : Nat} (ht : t ≤ 1099511627776) (hb : b ≤ t) (r : List UInt8) : slotP (sealB (sbody t b) ++ r) = (t, b) := by
  have hl := sbody_len ht hb
  unfold slotP
  rw [show sbody t b = 83 :: (uB t ++ uB b) from rfl] at hl ⊢
  rw [mk_seal 83 (by simp only [List.length_cons] at hl; omega)]
  show slotB (uB t ++ uB b) = (t, b)
  unfold slotB
  have e2 : num 0 0 (uB b) = .ok (b, []) := by
    have := read_uB b [] (by omega)
    rwa [List.append_nil] at this
  rw [read_uB t (uB b) (by omega)]
  simp only [e2]
  rw [if_pos ⟨by trivial, ht, hb⟩]
theorem body_len {p : Pl} {i : Nat} (ht : p.turn ≤ 1099511627776) (hi : i ≤ 1000) (hs : p.sum.length = 4) (hp : p.part.length ≤ 100) : (p.body i).length ≤ 114 := by
  have h1 := uB_len p.turn 6 (by omega) (by have : (128:Nat)^6 = 4398046511104 := by decide
                                            omega)
  have h2 := uB_len i 2 (by omega) (by have : (128:Nat)^2 = 16384 := by decide
                                       omega)
  have h3 := uB_len (if p.more then 1 else 0) 1 (by omega) (by split <;> decide)
  simp only [Pl.body, List.length_cons, List.length_append]
  omega
theorem plP_body {p : Pl} {i : Nat} (ht : p.turn ≤ 1099511627776) (hi : i ≤ 1000) (hs : p.sum.length = 4) (hp : p.part.length ≤ 100) (hm : p.more = true → p.part.length = 100) (r : List UInt8) :
    plP (sealB (p.body i) ++ r) i = some p := by
  have hl := body_len ht hi hs hp
  unfold plP
  rw [show p.body i = 76 :: (uB p.turn ++ uB i ++ uB (if p.more then 1 else 0) ++ p.sum ++ p.part) from rfl] at hl ⊢
  rw [mk_seal 76 (by simp only [List.length_cons] at hl; omega)]
  show placeB i _ = some p
  unfold placeB
  rw [show uB p.turn ++ uB i ++ uB (if p.more then 1 else 0) ++ p.sum ++ p.part = uB p.turn ++ (uB i ++ (uB (if p.more then 1 else 0) ++ (p.sum ++ p.part))) from by simp]
  rw [read_uB _ _ (by omega)]
  simp only
  rw [read_uB _ _ (by omega)]
  simp only
  rw [read_uB _ _ (by split <;> decide)]
  simp only
  have hlen : (p.sum ++ p.part).length = 4 + p.part.length := by rw [List.length_append, hs]
  rw [if_pos ⟨by trivial, by split <;> omega, by omega, by omega, fun h => by
    have : p.more = true := by
      by_cases hmm : p.more = true
      · exact hmm
      · rw [if_neg hmm] at h; cases h
    have := hm this
    omega⟩]
  have h4 : (p.sum ++ p.part).take 4 = p.sum := by rw [← hs, List.take_left]
  have h5 : (p.sum ++ p.part).drop 4 = p.part := by rw [← hs, List.drop_left]
  rw [h4, h5]
  cases p with
  | mk t m s q => cases m <;> rfl
theorem un_zeros : un (List.replicate 128 0) = some [] := by decide +kernel
theorem mk_zeros (m : UInt8) : mk m (List.replicate 128 0) = none := by unfold mk; rw [un_zeros]
theorem slotP_zeros : slotP (List.replicate 128 0) = (0, 0) := by unfold slotP; rw [mk_zeros]
theorem plP_zeros (i : Nat) : plP (List.replicate 128 0) i = none := by unfold plP; rw [mk_zeros]; rfl
/-- What a place tells. -/
theorem plP_is {s : List UInt8} {i : Nat} {p : Pl} (h : plP s i = some p) : p.sum.length = 4 ∧ p.part.length ≤ 100 := by
  unfold plP at h
  cases hm : mk 76 s with
  | none => rw [hm] at h; cases h
  | some l =>
    rw [hm] at h
    have h : placeB i l = some p := h
    unfold placeB at h
    split at h
    · split at h
      · split at h
        · split at h
          · rename_i hc
            cases h
            simp only [List.length_take, List.length_drop]
            omega
          · cases h
        · cases h
      · cases h
    · cases h
/-- The greater slot's. -/
def gr (a b : Nat × Nat) : Nat × Nat :=
  let g := if 0 < a.1 then a else (0, 0)
  if g.1 < b.1 then b else g
theorem gr_le {a b : Nat × Nat} {t k : Nat} (h : gr a b = (t, k)) : a.1 ≤ t ∧ b.1 ≤ t := by
  unfold gr at h
  simp only at h
  by_cases h0 : 0 < a.1
  · rw [if_pos h0] at h
    by_cases h1 : a.1 < b.1
    · rw [if_pos h1] at h; have := congrArg Prod.fst h; simp only at this; omega
    · rw [if_neg h1] at h; have := congrArg Prod.fst h; simp only at this; omega
  · rw [if_neg h0] at h
    by_cases h1 : 0 < b.1
    · rw [if_pos h1] at h; have := congrArg Prod.fst h; simp only at this; omega
    · omega
theorem gr_left {t k : Nat} {b : Nat × Nat} (ht : 0 < t) (h : b.1 < t) : gr (t, k) b = (t, k) := by
  unfold gr
  simp only
  rw [if_pos ht, if_neg (by omega)]
theorem gr_right {t k : Nat} {a : Nat × Nat} (h : a.1 < t) : gr a (t, k) = (t, k) := by
  unfold gr
  simp only
  by_cases h0 : 0 < a.1
  · rw [if_pos h0, if_pos h]
  · rw [if_neg h0, if_pos (by omega)]
end Wal
end Go.Proofs.YtmccnlffikegfaaGreatDoor
