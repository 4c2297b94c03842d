/- Items of an index, plain: their order, what is put in, closed, taken out, found; by which of them there are. No condition beyond what each says. -/
import Derived.Test.YtapdhelioecneaaRows
import Derived.WalkKit
namespace Go.Proofs.Ytapdhelioecneaa
open Go.RowKit
namespace Idx
theorem less_irrefl : ∀ l : List UInt8, Op.bytesLess l l = false
  | [] => rfl
  | a :: l => by simp [Op.bytesLess, less_irrefl l]
theorem less_asymm : ∀ l m : List UInt8, Op.bytesLess l m = true → Op.bytesLess m l = false
  | _, [], h => by simp [Op.bytesLess] at h
  | [], _ :: _, _ => rfl
  | a :: l, b :: m, h => by
    simp only [Op.bytesLess, Bool.or_eq_true, decide_eq_true_eq, Bool.and_eq_true, beq_iff_eq] at h
    simp only [Op.bytesLess, Bool.or_eq_false_iff, decide_eq_false_iff_not, Bool.and_eq_false_iff, beq_eq_false_iff_ne]
    rcases h with h | ⟨rfl, h⟩
    · exact ⟨fun k => absurd (UInt8.lt_trans h k) (UInt8.lt_irrefl _), Or.inl (fun e => by subst e; exact UInt8.lt_irrefl _ h)⟩
    · exact ⟨UInt8.lt_irrefl _, Or.inr (less_asymm l m h)⟩
theorem less_tri : ∀ l m : List UInt8, Op.bytesLess l m = false → Op.bytesLess m l = false → l = m
  | [], [], _, _ => rfl
  | [], b :: m, h, _ => by simp [Op.bytesLess] at h
  | a :: l, [], _, h => by simp [Op.bytesLess] at h
  | a :: l, b :: m, h, k => by
    simp only [Op.bytesLess, Bool.or_eq_false_iff, decide_eq_false_iff_not, Bool.and_eq_false_iff, beq_eq_false_iff_ne] at h k
    have e : a = b := by
      apply UInt8.toNat_inj.1
      have h1 := h.1
      have k1 := k.1
      rw [UInt8.lt_iff_toNat_lt] at h1 k1
      omega
    subst e
    rw [less_tri l m (h.2.resolve_left (fun x => x rfl)) (k.2.resolve_left (fun x => x rfl))]
theorem less_trans : ∀ l m n : List UInt8, Op.bytesLess l m = true → Op.bytesLess m n = true → Op.bytesLess l n = true
  | _, [], _, h, _ => by simp [Op.bytesLess] at h
  | _, _ :: _, [], _, h => by simp [Op.bytesLess] at h
  | [], _ :: _, _ :: _, _, _ => rfl
  | a :: l, b :: m, c :: n, h, k => by
    simp only [Op.bytesLess, Bool.or_eq_true, decide_eq_true_eq, Bool.and_eq_true, beq_iff_eq] at h k ⊢
    rcases h with h | ⟨rfl, h⟩
    · rcases k with k | ⟨rfl, k⟩
      · exact Or.inl (UInt8.lt_trans h k)
      · exact Or.inl h
    · rcases k with k | ⟨rfl, k⟩
      · exact Or.inl k
      · exact Or.inr ⟨rfl, less_trans l m n h k⟩
/-- An item. -/
structure It where
  k : List UInt8
  s : Int
  e : Int
  id : Int
theorem It.ext_iff' {a b : It} : a = b ↔ a.k = b.k ∧ a.s = b.s ∧ a.e = b.e ∧ a.id = b.id := by
  cases a; cases b; simp only [It.mk.injEq]
instance : DecidableEq It := fun _ _ => decidable_of_iff _ It.ext_iff'.symm
/-- Does it stand ahead of the place of this key and start? -/
def aheadB (i : It) (k : List UInt8) (s : Int) : Bool := Op.bytesLess i.k k || (decide (i.k = k) && decide (i.s < s))
theorem ahead_iff {i : It} {k : List UInt8} {s : Int} : aheadB i k s = true ↔ Op.bytesLess i.k k = true ∨ i.k = k ∧ i.s < s := by
  unfold aheadB; simp
theorem ahead_self (i : It) : aheadB i i.k i.s = false := by
  unfold aheadB; simp [less_irrefl]
theorem ahead_trans {a b : It} {k : List UInt8} {s : Int} (h : aheadB a b.k b.s = true) (g : aheadB b k s = true) : aheadB a k s = true := by
  rw [ahead_iff] at h g ⊢
  rcases h with h | ⟨h, h'⟩
  · rcases g with g | ⟨g, g'⟩
    · exact .inl (less_trans _ _ _ h g)
    · rw [← g]; exact .inl h
  · rcases g with g | ⟨g, g'⟩
    · rw [h]; exact .inl g
    · exact .inr ⟨h.trans g, by omega⟩
theorem ahead_tri {a : It} {k : List UInt8} {s : Int} (h : aheadB a k s = false) (i : It) (hi : i.k = k) (hs : i.s = s) (g : aheadB i a.k a.s = false) : a.k = k ∧ a.s = s := by
  subst hi hs
  have h1 : ¬ aheadB a i.k i.s = true := by rw [h]; simp
  have g1 : ¬ aheadB i a.k a.s = true := by rw [g]; simp
  rw [ahead_iff] at h1 g1
  have e : a.k = i.k := less_tri _ _ (by simpa using fun h9 => h1 (.inl h9)) (by simpa using fun h9 => g1 (.inl h9))
  refine ⟨e, ?_⟩
  have h2 : ¬ a.s < i.s := fun h9 => h1 (.inr ⟨e, h9⟩)
  have g2 : ¬ i.s < a.s := fun h9 => g1 (.inr ⟨e.symm, h9⟩)
  omega
/-- They rise. -/
def Up (l : List It) : Prop := l.Pairwise fun a b => aheadB a b.k b.s = true
def RightI (i : It) : Prop := 0 ≤ i.s ∧ i.s < i.e ∧ i.e ≤ 1099511627776
instance (i : It) : Decidable (RightI i) := by unfold RightI; exact inferInstance
theorem up_at {l : List It} (h : Up l) (i j : Nat) (hi : i < l.length) (hj : j < l.length) (hij : i < j) : aheadB l[i] (l[j]).k (l[j]).s = true := (List.pairwise_iff_getElem.1 h) i j hi hj hij
/-- The place of a key and a start. -/
def pl (l : List It) (k : List UInt8) (s : Int) : Nat := (l.takeWhile fun i => aheadB i k s).length
theorem pl_le (l : List It) (k : List UInt8) (s : Int) : pl l k s ≤ l.length := (List.takeWhile_prefix _).length_le
theorem pl_before {l : List It} {k : List UInt8} {s : Int} (j : Nat) (hj : j < l.length) (h : j < pl l k s) : aheadB l[j] k s = true := by
  unfold pl at h
  have h1 := List.all_eq_true.1 (List.all_takeWhile (l := l) (p := fun i => aheadB i k s)) _ (List.getElem_mem h)
  rw [(List.takeWhile_prefix (fun i => aheadB i k s)).getElem h] at h1
  exact h1
theorem pl_is {l : List It} {k : List UInt8} {s : Int} : ∀ {n : Nat}, n ≤ l.length → (∀ (j : Nat) (hj : j < l.length), j < n → aheadB l[j] k s = true) → (∀ (hn : n < l.length), aheadB l[n] k s = false) → pl l k s = n := by
  induction l with
  | nil => intro n hn _ _; unfold pl; simp at hn ⊢; omega
  | cons a l ih =>
    intro n hn h1 h2
    unfold pl
    cases n with
    | zero =>
      have := h2 (by simp)
      rw [List.takeWhile_cons_of_neg (by simpa using this)]; rfl
    | succ n =>
      have h0 := h1 0 (by simp) (by omega)
      rw [List.takeWhile_cons_of_pos (by simpa using h0), List.length_cons]
      have := ih (n := n) (by simpa using hn) (fun j hj hjn => h1 (j + 1) (by simpa using hj) (by omega)) (fun hn2 => h2 (by simpa using hn2))
      unfold pl at this
      rw [this]
theorem pl_at {l : List It} {k : List UInt8} {s : Int} (h : pl l k s < l.length) : aheadB (l[pl l k s]) k s = false := by
  have e := List.takeWhile_append_dropWhile (p := fun i => aheadB i k s) (l := l)
  have hd : l.drop (pl l k s) = l.dropWhile fun i => aheadB i k s := by
    unfold pl
    exact (congrArg (List.drop _) e.symm).trans (List.drop_left ..)
  have h1 := List.head?_dropWhile_not (fun i => aheadB i k s) l
  rw [← hd, List.head?_drop, List.getElem?_eq_getElem h] at h1
  simpa using h1
/-- Is there an item at the place of this key and start? -/
def isAt (l : List It) (k : List UInt8) (s : Int) : Bool := match l[pl l k s]? with
  | some i => decide (i.k = k) && decide (i.s = s)
  | none => false
theorem isAt_yes {l : List It} {k : List UInt8} {s : Int} (h : isAt l k s = true) : ∃ hp : pl l k s < l.length, (l[pl l k s]).k = k ∧ (l[pl l k s]).s = s := by
  unfold isAt at h
  split at h
  · next i hi =>
    obtain ⟨hp, e⟩ := List.getElem?_eq_some_iff.1 hi
    refine ⟨hp, ?_⟩
    rw [e]
    simpa using h
  · cases h
theorem isAt_no {l : List It} {k : List UInt8} {s : Int} (h : isAt l k s = false) (hp : pl l k s < l.length) : ¬ ((l[pl l k s]).k = k ∧ (l[pl l k s]).s = s) := by
  intro h9
  unfold isAt at h
  rw [List.getElem?_eq_getElem hp] at h
  simp [h9] at h
theorem pl_of {l : List It} (h : Up l) (j : Nat) (hj : j < l.length) : pl l (l[j]).k (l[j]).s = j :=
  pl_is (Nat.le_of_lt hj) (fun z hz hzj => up_at h z j hz hj hzj) (fun _ => ahead_self _)
theorem isAt_iff {l : List It} (h : Up l) {k : List UInt8} {s : Int} : isAt l k s = true ↔ ∃ i, i ∈ l ∧ i.k = k ∧ i.s = s := by
  constructor
  · intro h9
    obtain ⟨hp, h1, h2⟩ := isAt_yes h9
    exact ⟨_, List.getElem_mem hp, h1, h2⟩
  · rintro ⟨i, hi, rfl, rfl⟩
    obtain ⟨j, hj, rfl⟩ := List.getElem_of_mem hi
    unfold isAt
    rw [pl_of h j hj, List.getElem?_eq_getElem hj]
    simp
/-- All that stand ahead of a place stand ahead of it; all from it on do not. -/
theorem pl_behind {l : List It} (h : Up l) {k : List UInt8} {s : Int} (j : Nat) (hj : j < l.length) (hp : pl l k s ≤ j) : aheadB l[j] k s = false := by
  rcases Nat.eq_or_lt_of_le hp with e | hlt
  · subst e; exact pl_at hj
  · have h0 := pl_at (l := l) (k := k) (s := s) (by omega)
    have h1 := up_at h (pl l k s) j (by omega) hj hlt
    cases hc : aheadB l[j] k s with
    | false => rfl
    | true => rw [ahead_trans h1 hc] at h0; cases h0
/-! ### Put in, taken out, closed -/
def ins (l : List It) (i : It) : List It := l.take (pl l i.k i.s) ++ i :: l.drop (pl l i.k i.s)
def del (l : List It) (k : List UInt8) (s : Int) : List It := l.take (pl l k s) ++ l.drop (pl l k s + 1)
def clo (l : List It) (k : List UInt8) (s e : Int) : List It := l.map fun i => if i.k = k ∧ i.s = s then { i with e := e } else i
theorem mem_ins {l : List It} {i x : It} : x ∈ ins l i ↔ x = i ∨ x ∈ l := by
  have e := List.take_append_drop (pl l i.k i.s) l
  unfold ins
  rw [List.mem_append, List.mem_cons]
  constructor
  · rintro (h | h | h)
    · exact .inr (List.mem_of_mem_take h)
    · exact .inl h
    · exact .inr (List.mem_of_mem_drop h)
  · rintro (h | h)
    · exact .inr (.inl h)
    · rw [← e] at h
      rcases List.mem_append.1 h with h | h
      · exact .inl h
      · exact .inr (.inr h)
theorem mem_take_at {l : List It} {n : Nat} {x : It} (h : x ∈ l.take n) : ∃ (j : Nat) (hj : j < l.length), j < n ∧ l[j] = x := by
  obtain ⟨j, hj, e⟩ := List.getElem_of_mem h
  rw [List.length_take] at hj
  rw [List.getElem_take] at e
  exact ⟨j, by omega, by omega, e⟩
theorem mem_drop_at {l : List It} {n : Nat} {x : It} (h : x ∈ l.drop n) : ∃ (j : Nat) (hj : j < l.length), n ≤ j ∧ l[j] = x := by
  obtain ⟨j, hj, e⟩ := List.getElem_of_mem h
  rw [List.length_drop] at hj
  rw [List.getElem_drop] at e
  exact ⟨n + j, by omega, by omega, e⟩
theorem up_ins {l : List It} (h : Up l) {i : It} (hn : isAt l i.k i.s = false) : Up (ins l i) := by
  unfold ins Up
  rw [List.pairwise_append, List.pairwise_cons]
  have hb : ∀ x, x ∈ l.drop (pl l i.k i.s) → aheadB i x.k x.s = true := fun x hx => by
    obtain ⟨j, hj, hp, rfl⟩ := mem_drop_at hx
    have h1 := pl_behind h j hj hp
    cases hc : aheadB i (l[j]).k (l[j]).s with
    | true => rfl
    | false =>
      have h2 := ahead_tri h1 i rfl rfl hc
      have h3 := (isAt_iff h).2 ⟨l[j], List.getElem_mem hj, h2.1, h2.2⟩
      rw [hn] at h3; cases h3
  refine ⟨h.sublist (List.take_sublist _ _), ⟨hb, h.sublist (List.drop_sublist _ _)⟩, fun x hx y hy => ?_⟩
  obtain ⟨j, hj, hp, rfl⟩ := mem_take_at hx
  rcases List.mem_cons.1 hy with rfl | hy
  · exact pl_before j hj hp
  · obtain ⟨z, hz, hp2, rfl⟩ := mem_drop_at hy
    exact up_at h j z hj hz (by omega)
theorem up_del {l : List It} (h : Up l) (k : List UInt8) (s : Int) : Up (del l k s) := by
  unfold del Up
  rw [List.pairwise_append]
  refine ⟨h.sublist (List.take_sublist _ _), h.sublist (List.drop_sublist _ _), fun x hx y hy => ?_⟩
  obtain ⟨j, hj, hp, rfl⟩ := mem_take_at hx
  obtain ⟨z, hz, hp2, rfl⟩ := mem_drop_at hy
  exact up_at h j z hj hz (by omega)
theorem mem_del {l : List It} {k : List UInt8} {s : Int} {x : It} (h : x ∈ del l k s) : x ∈ l := by
  unfold del at h
  rcases List.mem_append.1 h with h | h
  · exact List.mem_of_mem_take h
  · exact List.mem_of_mem_drop h
theorem clo_key (k : List UInt8) (s e : Int) (i : It) : (if i.k = k ∧ i.s = s then { i with e := e } else i).k = i.k ∧ (if i.k = k ∧ i.s = s then { i with e := e } else i).s = i.s := by split <;> exact ⟨rfl, rfl⟩
theorem up_clo {l : List It} (h : Up l) (k : List UInt8) (s e : Int) : Up (clo l k s e) := by
  unfold clo Up
  rw [List.pairwise_map]
  refine h.imp (fun {a b} hab => ?_)
  rw [ahead_iff] at hab ⊢
  rw [(clo_key k s e a).1, (clo_key k s e a).2, (clo_key k s e b).1, (clo_key k s e b).2]
  exact hab
/-- Closed: the one at its place has another end. -/
theorem clo_set {l : List It} (h : Up l) {k : List UInt8} {s : Int} (e : Int) (hp : pl l k s < l.length) (h1 : (l[pl l k s]).k = k) (h2 : (l[pl l k s]).s = s) : clo l k s e = l.set (pl l k s) ⟨k, s, e, (l[pl l k s]).id⟩ := by
  unfold clo
  refine List.ext_getElem (by simp) (fun j hj hj2 => ?_)
  have hjl : j < l.length := by simpa using hj
  rw [List.getElem_set, List.getElem_map]
  by_cases hjp : pl l k s = j
  · subst hjp
    rw [if_pos rfl, if_pos ⟨h1, h2⟩]
    rw [It.ext_iff']
    exact ⟨h1, h2, rfl, rfl⟩
  · rw [if_neg hjp, if_neg]
    rintro ⟨g1, g2⟩
    have := pl_of h j hjl
    rw [g1, g2] at this
    exact hjp this
/-- What a call of Insert says: 0 it is there; else what is wrong. -/
def insC (l : List It) (i : It) : Int := if RightI i then (if isAt l i.k i.s = true then 5 else 0) else 1
def insL (l : List It) (i : It) : List It := if RightI i ∧ isAt l i.k i.s = false then ins l i else l
def delC (l : List It) (k : List UInt8) (s : Int) : Int := if isAt l k s = true then 0 else 4
def delL (l : List It) (k : List UInt8) (s : Int) : List It := if isAt l k s = true then del l k s else l
/-- The item of this key and start. -/
def getI (l : List It) (k : List UInt8) (s : Int) : Option It := if isAt l k s = true then l[pl l k s]? else none
def cloC (l : List It) (k : List UInt8) (s e : Int) : Int := match getI l k s with
  | none => 4
  | some i => if i.e ≠ 1099511627776 then 6 else if e ≤ s ∨ 1099511627776 ≤ e then 1 else 0
def cloL (l : List It) (k : List UInt8) (s e : Int) : List It := if cloC l k s e = 0 then clo l k s e else l
theorem getI_some {l : List It} {k : List UInt8} {s : Int} {i : It} (h : getI l k s = some i) : ∃ hp : pl l k s < l.length, l[pl l k s] = i ∧ i.k = k ∧ i.s = s := by
  unfold getI at h
  split at h
  · next h9 =>
    obtain ⟨hp, h1, h2⟩ := isAt_yes h9
    rw [List.getElem?_eq_getElem hp] at h
    have e := Option.some.inj h
    subst e
    exact ⟨hp, rfl, h1, h2⟩
  · cases h
theorem getI_iff {l : List It} (h : Up l) {k : List UInt8} {s : Int} {i : It} : getI l k s = some i ↔ i ∈ l ∧ i.k = k ∧ i.s = s := by
  constructor
  · intro h9
    obtain ⟨hp, e, h1, h2⟩ := getI_some h9
    exact ⟨e ▸ List.getElem_mem hp, h1, h2⟩
  · rintro ⟨hi, rfl, rfl⟩
    have h1 := (isAt_iff h).2 ⟨i, hi, rfl, rfl⟩
    obtain ⟨j, hj, rfl⟩ := List.getElem_of_mem hi
    unfold getI
    rw [if_pos h1, pl_of h j hj, List.getElem?_eq_getElem hj]
/-- Items that an index can have. -/
structure Ok (l : List It) : Prop where
  up : Up l
  one : ∀ i, i ∈ l → RightI i
theorem ok_nil : Ok [] := ⟨List.Pairwise.nil, fun i h => by cases h⟩
theorem ok_ins {l : List It} (h : Ok l) (i : It) : Ok (insL l i) := by
  unfold insL
  split
  · next h9 => exact ⟨up_ins h.up h9.2, fun x hx => by rcases mem_ins.1 hx with rfl | hx; exact h9.1; exact h.one x hx⟩
  · exact h
theorem ok_del {l : List It} (h : Ok l) (k : List UInt8) (s : Int) : Ok (delL l k s) := by
  unfold delL
  split
  · exact ⟨up_del h.up k s, fun x hx => h.one x (mem_del hx)⟩
  · exact h
theorem cloC_zero {l : List It} {k : List UInt8} {s e : Int} (h : cloC l k s e = 0) : ∃ i, getI l k s = some i ∧ i.e = 1099511627776 ∧ s < e ∧ e < 1099511627776 := by
  unfold cloC at h
  split at h
  · cases h
  · next i hi =>
    split at h
    · cases h
    · next h1 =>
      split at h
      · cases h
      · next h2 => exact ⟨i, hi, by omega, by omega, by omega⟩
theorem ok_clo {l : List It} (h : Ok l) (k : List UInt8) (s e : Int) : Ok (cloL l k s e) := by
  unfold cloL
  split
  · next h9 =>
    obtain ⟨i, hi, h1, h2, h3⟩ := cloC_zero h9
    refine ⟨up_clo h.up k s e, fun x hx => ?_⟩
    obtain ⟨y, hy, rfl⟩ := List.mem_map.1 hx
    have hr := h.one y hy
    unfold RightI at hr ⊢
    split
    · next h8 => simp only; omega
    · exact hr
  · exact h
/-! ### What is found -/
def amongB (k lo hi : List UInt8) : Bool := !Op.bytesLess k lo && (decide (hi = []) || Op.bytesLess k hi)
def stabB (lo hi : List UInt8) (t : Int) (i : It) : Bool := amongB i.k lo hi && (decide (i.s ≤ t) && decide (t < i.e))
def overB (lo hi : List UInt8) (a b : Int) (i : It) : Bool := amongB i.k lo hi && decide (max i.s a < min i.e b)
def stab (l : List It) (lo hi : List UInt8) (t : Int) : List It := l.filter (stabB lo hi t)
def over (l : List It) (lo hi : List UInt8) (a b : Int) : List It := l.filter (overB lo hi a b)
def maxE (l : List It) : Int := l.foldl (fun m i => max m i.e) 0
theorem less_nil (k : List UInt8) : Op.bytesLess k [] = false := by cases k <;> rfl
theorem among_all (k : List UInt8) : amongB k [] [] = true := by unfold amongB; rw [less_nil]; simp
/-- What is asked of keys in two parts is what is asked of all. -/
theorem filter_cut {l : List It} (h : Up l) (key : List UInt8) (c : It → Bool) : l.filter (fun i => Op.bytesLess i.k key && c i) ++ l.filter (fun i => !Op.bytesLess i.k key && c i) = l.filter c := by
  induction l with
  | nil => rfl
  | cons a l ih =>
    obtain ⟨h1, h2⟩ := List.pairwise_cons.1 h
    cases hc : Op.bytesLess a.k key with
    | true =>
      cases hd : c a with
      | true =>
        rw [List.filter_cons_of_pos (by simp [hc, hd]), List.filter_cons_of_neg (by simp [hc]), List.filter_cons_of_pos hd, List.cons_append, ih h2]
      | false =>
        rw [List.filter_cons_of_neg (by simp [hd]), List.filter_cons_of_neg (by simp [hc]), List.filter_cons_of_neg (by simp [hd]), ih h2]
    | false =>
      have hall : ∀ x, x ∈ l → Op.bytesLess x.k key = false := fun x hx => by
        have h3 := ahead_iff.1 (h1 x hx)
        cases hx9 : Op.bytesLess x.k key with
        | false => rfl
        | true =>
          rcases h3 with h3 | ⟨h3, _⟩
          · rw [less_trans _ _ _ h3 hx9] at hc; cases hc
          · rw [h3, hx9] at hc; cases hc
      have e0 : (a :: l).filter (fun i => Op.bytesLess i.k key && c i) = [] := by
        rw [List.filter_eq_nil_iff]
        intro x hx
        rcases List.mem_cons.1 hx with rfl | hx
        · simp [hc]
        · simp [hall x hx]
      rw [e0, List.nil_append]
      refine List.filter_congr (fun x hx => ?_)
      rcases List.mem_cons.1 hx with rfl | hx
      · simp [hc]
      · simp [hall x hx]
theorem maxE_snoc (l : List It) (i : It) : maxE (l ++ [i]) = max (maxE l) i.e := by unfold maxE; rw [List.foldl_append]; rfl
theorem maxE_take {l : List It} {i : Nat} (hi : i < l.length) : maxE (l.take (i + 1)) = max (maxE (l.take i)) (l[i]).e := by rw [List.take_succ_eq_append_getElem hi, maxE_snoc]
theorem maxE_pos : ∀ l : List It, 0 ≤ maxE l := by
  intro l
  unfold maxE
  have key : ∀ (l : List It) (m : Int), 0 ≤ m → 0 ≤ l.foldl (fun m i => max m i.e) m := by
    intro l
    induction l with
    | nil => intro m h; exact h
    | cons a l ih => intro m h; exact ih (max m a.e) (by omega)
  exact key l 0 (by omega)
theorem maxE_ge {l : List It} {i : It} (h : i ∈ l) : i.e ≤ maxE l := by
  obtain ⟨a, b, rfl⟩ := List.append_of_mem h
  have key : ∀ (l : List It) (m : Int), m ≤ l.foldl (fun m i => max m i.e) m := by
    intro l
    induction l with
    | nil => intro m; exact Int.le_refl _
    | cons a l ih => intro m; exact Int.le_trans (show m ≤ max m a.e by omega) (ih (max m a.e))
  have e : maxE (a ++ i :: b) = b.foldl (fun m i => max m i.e) (max (maxE a) i.e) := by unfold maxE; rw [List.foldl_append]; rfl
  rw [e]
  exact Int.le_trans (by omega) (key b _)
theorem maxE_is {l : List It} (h : l ≠ []) (hp : ∀ i, i ∈ l → 0 < i.e) : ∃ i, i ∈ l ∧ i.e = maxE l := by
  have key : ∀ (l : List It) (m : Int), l.foldl (fun m i => max m i.e) m = m ∨ ∃ i, i ∈ l ∧ i.e = l.foldl (fun m i => max m i.e) m := by
    intro l
    induction l with
    | nil => intro m; exact .inl rfl
    | cons a l ih =>
      intro m
      rcases ih (max m a.e) with h | ⟨i, hi, h⟩
      · rw [List.foldl_cons, h]
        rcases Int.le_total m a.e with g | g
        · exact .inr ⟨a, by simp, by omega⟩
        · exact .inl (by omega)
      · exact .inr ⟨i, by simp [hi], h⟩
  rcases key l 0 with h9 | h9
  · obtain ⟨a, l', rfl⟩ := List.exists_cons_of_ne_nil h
    have h1 := maxE_ge (l := a :: l') (i := a) (by simp)
    have h2 := hp a (by simp)
    unfold maxE at h1
    omega
  · exact h9
end Idx
end Go.Proofs.Ytapdhelioecneaa
