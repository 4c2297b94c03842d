/- How large blocks are, plain; what insert and remove come to, by their items. No condition beyond what each says. -/
import Derived.Test.YtapdhelioecneaaWe
namespace Go.Proofs.Ytapdhelioecneaa
open Go.RowKit
namespace Idx
/-- Two neighbours have more than n together. -/
def Adj (n : Nat) : List Bkm → Prop
  | [] => True
  | [_] => True
  | a :: b :: l => n < a.xs.length + b.xs.length ∧ Adj n (b :: l)
theorem adj_cut {n : Nat} (x : Bkm) (C : List Bkm) : ∀ A : List Bkm, Adj n (A ++ x :: C) ↔ Adj n (A ++ [x]) ∧ Adj n (x :: C)
  | [] => by simp [Adj]
  | [a] => by
    show Adj n (a :: x :: C) ↔ Adj n [a, x] ∧ Adj n (x :: C)
    simp [Adj]
  | a :: b :: A => by
    have ih := adj_cut (n := n) x C (b :: A)
    show (n < a.xs.length + b.xs.length ∧ Adj n ((b :: A) ++ x :: C)) ↔ (n < a.xs.length + b.xs.length ∧ Adj n ((b :: A) ++ [x])) ∧ Adj n (x :: C)
    rw [ih, and_assoc]
theorem adj_end {n : Nat} (p x : Bkm) (A : List Bkm) : Adj n (A ++ [p] ++ [x]) ↔ Adj n (A ++ [p]) ∧ n < p.xs.length + x.xs.length := by
  rw [List.append_assoc]
  show Adj n (A ++ p :: [x]) ↔ _
  rw [adj_cut]
  simp [Adj]
theorem adj_iff {n : Nat} : ∀ Bs : List Bkm, Adj n Bs ↔ ∀ (j : Nat) (h : j + 1 < Bs.length), n < Bs[j].xs.length + Bs[j + 1].xs.length
  | [] => by simp [Adj]
  | [a] => by simp [Adj]
  | a :: b :: l => by
    have ih := adj_iff (n := n) (b :: l)
    show (n < a.xs.length + b.xs.length ∧ Adj n (b :: l)) ↔ _
    rw [ih]
    constructor
    · rintro ⟨h1, h2⟩ j h
      cases j with
      | zero => exact h1
      | succ j => exact h2 j (by simpa using h)
    · intro h
      exact ⟨h 0 (by simp), fun j hj => h (j + 1) (by simpa using hj)⟩
theorem siz_iff {n : Nat} {Bs : List Bkm} : Siz n Bs ↔ (∀ b, b ∈ Bs → 1 ≤ b.xs.length ∧ b.xs.length ≤ 2 * n) ∧ Adj n Bs := by
  rw [adj_iff]
  constructor
  · intro h
    exact ⟨fun b hb => by have := h.one b hb; omega, fun j hj => by have := h.two j hj; omega⟩
  · rintro ⟨h1, h2⟩
    exact ⟨fun b hb => by have := h1 b hb; omega, fun j hj => by have := h2 j hj; omega⟩
theorem adj_left {n : Nat} {A C : List Bkm} (h : Adj n (A ++ C)) : Adj n A := by
  cases C with
  | nil => simpa using h
  | cons x C =>
    have h1 := ((adj_cut x C A).1 h).1
    rcases List.eq_nil_or_concat A with rfl | ⟨A, p, rfl⟩
    · trivial
    · rw [List.concat_eq_append] at h1 ⊢; exact ((adj_end p x A).1 h1).1
theorem adj_right {n : Nat} {A C : List Bkm} (h : Adj n (A ++ C)) : Adj n C := by
  cases C with
  | nil => trivial
  | cons x C => exact ((adj_cut x C A).1 h).2
theorem adj_tail {n : Nat} {x : Bkm} {C : List Bkm} (h : Adj n (x :: C)) : Adj n C := adj_right (A := [x]) h
/-- The first, or the last, becomes larger. -/
theorem adj_head {n : Nat} {x y : Bkm} {C : List Bkm} (h : Adj n (x :: C)) (hxy : x.xs.length ≤ y.xs.length) : Adj n (y :: C) := by
  cases C with
  | nil => trivial
  | cons z C => exact ⟨by have := h.1; omega, h.2⟩
theorem adj_last {n : Nat} {x y : Bkm} {A : List Bkm} (h : Adj n (A ++ [x])) (hxy : x.xs.length ≤ y.xs.length) : Adj n (A ++ [y]) := by
  rcases List.eq_nil_or_concat A with rfl | ⟨A, p, rfl⟩
  · trivial
  · rw [List.concat_eq_append] at h ⊢
    rw [adj_end] at h ⊢
    exact ⟨h.1, by omega⟩
theorem adj_head_of {n : Nat} {y : Bkm} {C : List Bkm} (h : Adj n C) (hC : ∀ b, b ∈ C → 1 ≤ b.xs.length) (hy : n ≤ y.xs.length) : Adj n (y :: C) := by
  cases C with
  | nil => trivial
  | cons z C => exact ⟨by have := hC z List.mem_cons_self; omega, h⟩
theorem adj_last_of {n : Nat} {y : Bkm} {A : List Bkm} (h : Adj n A) (hA : ∀ b, b ∈ A → 1 ≤ b.xs.length) (hy : n ≤ y.xs.length) : Adj n (A ++ [y]) := by
  rcases List.eq_nil_or_concat A with rfl | ⟨A, p, rfl⟩
  · trivial
  · rw [List.concat_eq_append] at h hA ⊢
    rw [adj_end]
    exact ⟨h, by have := hA p (by simp); omega⟩
theorem at_split (Bs : List Bkm) (q : Nat) (hq : q < Bs.length) : Bs = Bs.take q ++ Bs[q] :: Bs.drop (q + 1) := by
  conv => lhs; rw [← List.take_append_drop q Bs, List.drop_eq_getElem_cons hq]
/-- One block was made larger, and not too large. -/
theorem siz_more {n : Nat} {Bs : List Bkm} (h : Siz n Bs) (q : Nat) (hq : q < Bs.length) (b : Bkm) (h1 : Bs[q].xs.length ≤ b.xs.length) (h2 : b.xs.length ≤ 2 * n) : Siz n (Bs.take q ++ [b] ++ Bs.drop (q + 1)) := by
  have e := at_split Bs q hq
  rw [siz_iff] at h ⊢
  obtain ⟨ho, ha⟩ := h
  have hoq := ho _ (List.getElem_mem hq)
  rw [e, adj_cut] at ha
  refine ⟨fun x hx => ?_, ?_⟩
  · simp only [List.mem_append, List.mem_singleton] at hx
    rcases hx with (hx | hx) | hx
    · exact ho x (List.mem_of_mem_take hx)
    · subst hx; omega
    · exact ho x (List.mem_of_mem_drop hx)
  · rw [List.append_assoc]
    show Adj n (Bs.take q ++ b :: Bs.drop (q + 1))
    rw [adj_cut]
    exact ⟨adj_last ha.1 h1, adj_head ha.2 h1⟩
/-- One block was cut in two. -/
theorem siz_two {n : Nat} {Bs : List Bkm} (h : Siz n Bs) (q : Nat) (hq : q < Bs.length) (a b : Bkm) (hn : 1 ≤ n) (h1 : a.xs.length = n) (h2 : n ≤ b.xs.length) (h3 : b.xs.length ≤ 2 * n) : Siz n (Bs.take q ++ [a, b] ++ Bs.drop (q + 1)) := by
  have e := at_split Bs q hq
  rw [siz_iff] at h ⊢
  obtain ⟨ho, ha⟩ := h
  rw [e, adj_cut] at ha
  refine ⟨fun x hx => ?_, ?_⟩
  · simp only [List.mem_append, List.mem_cons, List.not_mem_nil, or_false] at hx
    rcases hx with (hx | hx | hx) | hx
    · exact ho x (List.mem_of_mem_take hx)
    · subst hx; omega
    · subst hx; omega
    · exact ho x (List.mem_of_mem_drop hx)
  · rw [List.append_assoc]
    show Adj n (Bs.take q ++ a :: b :: Bs.drop (q + 1))
    rw [adj_cut]
    exact ⟨adj_last_of (adj_left ha.1) (fun x hx => (ho x (List.mem_of_mem_take hx)).1) (by omega), ⟨by omega, adj_head_of (adj_tail ha.2) (fun x hx => (ho x (List.mem_of_mem_drop hx)).1) h2⟩⟩
/-- One block of one item was taken out. -/
theorem siz_out {n : Nat} {Bs : List Bkm} (h : Siz n Bs) (q : Nat) (hq : q < Bs.length) (h1 : Bs[q].xs.length = 1) : Siz n (Bs.take q ++ [] ++ Bs.drop (q + 1)) := by
  have e := at_split Bs q hq
  rw [siz_iff] at h ⊢
  obtain ⟨ho, ha⟩ := h
  rw [List.append_nil]
  refine ⟨fun x hx => ?_, ?_⟩
  · rcases List.mem_append.1 hx with hx | hx
    · exact ho x (List.mem_of_mem_take hx)
    · exact ho x (List.mem_of_mem_drop hx)
  · rw [e, adj_cut] at ha
    cases hC : Bs.drop (q + 1) with
    | nil => rw [List.append_nil]; exact adj_left ha.1
    | cons y C =>
      rw [hC] at ha
      rw [adj_cut]
      refine ⟨adj_last_of (adj_left ha.1) (fun x hx => (ho x (List.mem_of_mem_take hx)).1) ?_, ha.2.2⟩
      have := ha.2.1
      omega
/-- Where all but the pairs at q and ahead of it are large enough. -/
structure Near (n : Nat) (A : List Bkm) (x : Bkm) (C : List Bkm) : Prop where
  one : ∀ b, b ∈ A ++ x :: C → 1 ≤ b.xs.length ∧ b.xs.length ≤ 2 * n
  a : Adj n A
  c : Adj n C
  l : Adj (n - 1) (A ++ [x])
  r : Adj (n - 1) (x :: C)
theorem adj_less {n m : Nat} (hm : m ≤ n) : ∀ {Bs : List Bkm}, Adj n Bs → Adj m Bs
  | [], _ => trivial
  | [_], _ => trivial
  | _ :: _ :: _, h => ⟨by have := h.1; omega, adj_less hm h.2⟩
/-- One block has one item less. -/
theorem near_of {n : Nat} {Bs : List Bkm} (h : Siz n Bs) (q : Nat) (hq : q < Bs.length) (b : Bkm) (h1 : b.xs.length + 1 = Bs[q].xs.length) (h2 : 1 ≤ b.xs.length) (hn : 1 ≤ n) : Near n (Bs.take q) b (Bs.drop (q + 1)) := by
  have e := at_split Bs q hq
  rw [siz_iff] at h
  obtain ⟨ho, ha⟩ := h
  have hoq := ho _ (List.getElem_mem hq)
  rw [e, adj_cut] at ha
  refine ⟨fun x hx => ?_, adj_left ha.1, adj_tail ha.2, ?_, ?_⟩
  · simp only [List.mem_append, List.mem_cons] at hx
    rcases hx with hx | hx | hx
    · exact ho x (List.mem_of_mem_take hx)
    · subst hx; omega
    · exact ho x (List.mem_of_mem_drop hx)
  · rcases List.eq_nil_or_concat (Bs.take q) with e9 | ⟨A, p, e9⟩
    · rw [e9]; trivial
    · rw [e9, List.concat_eq_append, adj_end]
      rw [e9, List.concat_eq_append, adj_end] at ha
      exact ⟨adj_less (by omega) ha.1.1, by have := ha.1.2; omega⟩
  · cases hC : Bs.drop (q + 1) with
    | nil => trivial
    | cons y C =>
      rw [hC] at ha
      exact ⟨by have := ha.2.1; omega, adj_less (by omega) ha.2.2⟩
/-- Joined with the next one. -/
theorem near_next {n : Nat} {A C : List Bkm} {x y b : Bkm} (h : Near n A x (y :: C)) (hb : b.xs = x.xs ++ y.xs) (hs : x.xs.length + y.xs.length ≤ n) (hn : 1 ≤ n) : Siz n (A ++ [b] ++ C) := by
  have hx := h.one x (by simp)
  have hy := h.one y (by simp)
  have hbl : b.xs.length = x.xs.length + y.xs.length := by rw [hb, List.length_append]
  have h1 := h.r.1
  rw [siz_iff]
  refine ⟨fun z hz => ?_, ?_⟩
  · simp only [List.mem_append, List.mem_singleton] at hz
    rcases hz with (hz | hz) | hz
    · exact h.one z (by simp [hz])
    · subst hz; omega
    · exact h.one z (by simp [hz])
  · rw [List.append_assoc]
    show Adj n (A ++ b :: C)
    rw [adj_cut]
    refine ⟨?_, ?_⟩
    · rcases List.eq_nil_or_concat A with e9 | ⟨A', p, e9⟩
      · rw [e9]; trivial
      · have hl := h.l
        have ha := h.a
        rw [e9, List.concat_eq_append, adj_end] at hl
        rw [e9, List.concat_eq_append] at ha
        rw [e9, List.concat_eq_append, adj_end]
        exact ⟨ha, by have := hl.2; omega⟩
    · have hc := h.c
      cases C with
      | nil => trivial
      | cons z C => exact ⟨by have := hc.1; omega, hc.2⟩
/-- Not joined with the next one; joined with the one ahead. -/
theorem near_prev {n : Nat} {A C : List Bkm} {p x b : Bkm} (h : Near n (A ++ [p]) x C) (hr : Adj n (x :: C)) (hb : b.xs = p.xs ++ x.xs) (hs : p.xs.length + x.xs.length ≤ n) : Siz n (A ++ [b] ++ C) := by
  have hx := h.one x (by simp)
  have hp := h.one p (by simp)
  have hbl : b.xs.length = p.xs.length + x.xs.length := by rw [hb, List.length_append]
  rw [siz_iff]
  refine ⟨fun z hz => ?_, ?_⟩
  · simp only [List.mem_append, List.mem_singleton] at hz
    rcases hz with (hz | hz) | hz
    · exact h.one z (by simp [hz])
    · subst hz; omega
    · exact h.one z (by simp [hz])
  · rw [List.append_assoc]
    show Adj n (A ++ b :: C)
    rw [adj_cut]
    exact ⟨adj_last h.a (by omega), adj_head hr (by omega)⟩
theorem near_none {n : Nat} {A C : List Bkm} {x : Bkm} (h : Near n A x C) (hl : Adj n (A ++ [x])) (hr : Adj n (x :: C)) : Siz n (A ++ [x] ++ C) := by
  rw [siz_iff]
  refine ⟨fun z hz => h.one z (by simpa using hz), ?_⟩
  rw [List.append_assoc]
  exact (adj_cut x C A).2 ⟨hl, hr⟩
/-- What was laid in at a place of a block. -/
theorem its_ins {Bs : List Bkm} {q i : Nat} (hq : q < Bs.length) (hi : i ≤ Bs[q].xs.length) (M : List Bkm) (t : It) (hM : its M = Bs[q].xs.take i ++ t :: Bs[q].xs.drop i) : its (Bs.take q ++ M ++ Bs.drop (q + 1)) = (its Bs).take (cnt Bs q + i) ++ t :: (its Bs).drop (cnt Bs q + i) := by
  have e0 := its_split Bs q hq
  obtain ⟨A, hA⟩ : ∃ A, A = its (Bs.take q) := ⟨_, rfl⟩
  have hc : cnt Bs q = A.length := by rw [hA]; rfl
  rw [its_app, its_app, hM, hc, e0, ← hA]
  have h1 : (A ++ (Bs[q].xs ++ its (Bs.drop (q + 1)))).take (A.length + i) = A ++ Bs[q].xs.take i := by
    rw [List.take_append, List.take_of_length_le (by omega), show A.length + i - A.length = i by omega, List.take_append_of_le_length hi]
  have h2 : (A ++ (Bs[q].xs ++ its (Bs.drop (q + 1)))).drop (A.length + i) = Bs[q].xs.drop i ++ its (Bs.drop (q + 1)) := by
    rw [List.drop_append, List.drop_eq_nil_of_le (by omega), List.nil_append, show A.length + i - A.length = i by omega, List.drop_append_of_le_length hi]
  rw [h1, h2]
  simp
theorem its_del {Bs : List Bkm} {q i : Nat} (hq : q < Bs.length) (hi : i < Bs[q].xs.length) (M : List Bkm) (hM : its M = Bs[q].xs.take i ++ Bs[q].xs.drop (i + 1)) : its (Bs.take q ++ M ++ Bs.drop (q + 1)) = (its Bs).take (cnt Bs q + i) ++ (its Bs).drop (cnt Bs q + i + 1) := by
  have e0 := its_split Bs q hq
  obtain ⟨A, hA⟩ : ∃ A, A = its (Bs.take q) := ⟨_, rfl⟩
  have hc : cnt Bs q = A.length := by rw [hA]; rfl
  rw [its_app, its_app, hM, hc, e0, ← hA]
  have h1 : (A ++ (Bs[q].xs ++ its (Bs.drop (q + 1)))).take (A.length + i) = A ++ Bs[q].xs.take i := by
    rw [List.take_append, List.take_of_length_le (by omega), show A.length + i - A.length = i by omega, List.take_append_of_le_length (by omega)]
  have h2 : (A ++ (Bs[q].xs ++ its (Bs.drop (q + 1)))).drop (A.length + i + 1) = Bs[q].xs.drop (i + 1) ++ its (Bs.drop (q + 1)) := by
    rw [List.drop_append, List.drop_eq_nil_of_le (by omega), List.nil_append, show A.length + i + 1 - A.length = i + 1 by omega, List.drop_append_of_le_length (by omega)]
  rw [h1, h2]
  simp
theorem its_set {Bs : List Bkm} {q i : Nat} (hq : q < Bs.length) (hi : i < Bs[q].xs.length) (t : It) (b : Bkm) (hb : b.xs = Bs[q].xs.set i t) : its (Bs.take q ++ [b] ++ Bs.drop (q + 1)) = (its Bs).set (cnt Bs q + i) t := by
  have e0 := its_split Bs q hq
  obtain ⟨A, hA⟩ : ∃ A, A = its (Bs.take q) := ⟨_, rfl⟩
  have hc : cnt Bs q = A.length := by rw [hA]; rfl
  rw [its_app, its_app, its_one, hb, hc, e0, ← hA, List.set_append_right _ _ (by omega), show A.length + i - A.length = i by omega, List.set_append_left _ _ hi]
  simp
theorem its_at {Bs : List Bkm} {q i : Nat} (hq : q < Bs.length) (hi : i < Bs[q].xs.length) : ∃ h : cnt Bs q + i < (its Bs).length, (its Bs)[cnt Bs q + i] = Bs[q].xs[i] := by
  have h := cnt_le Bs q hq
  refine ⟨by omega, ?_⟩
  have e0 := its_split Bs q hq
  have : (its Bs)[cnt Bs q + i]? = some (Bs[q].xs[i]) := by
    rw [e0, List.getElem?_append_right (by unfold cnt; omega), List.getElem?_append_left (by unfold cnt; omega), show cnt Bs q + i - (its (Bs.take q)).length = i by unfold cnt; omega, List.getElem?_eq_getElem hi]
  rw [List.getElem?_eq_getElem (by omega)] at this
  exact Option.some.inj this
end Idx
end Go.Proofs.Ytapdhelioecneaa
