/- Pieces, plain: coalesced (as few as can be: there is one such row), what goes and comes. No condition beyond what each says. -/
import Derived.Test.YtoacombaddknfaaOa
namespace Go.Proofs.Ytoacombaddknfaa
namespace Prd
open Spn
section
variable {α : Type} {good : α → Prop}
/-- No two that touch have the same row. -/
def Few : List (Sp × α) → Prop
  | [] => True
  | [_] => True
  | p :: q :: l => ¬ (p.1.2 = q.1.1 ∧ p.2 = q.2) ∧ Few (q :: l)
theorem Few.tail {p : Sp × α} {l : List (Sp × α)} (h : Few (p :: l)) : Few l := by
  cases l with
  | nil => trivial
  | cons q l => exact h.2
theorem few_app {l : List (Sp × α)} {p : Sp × α} (h : Few (l ++ [p])) : Few l := by
  induction l with
  | nil => trivial
  | cons q l ih =>
    cases l with
    | nil => trivial
    | cons r l => exact ⟨h.1, ih h.2⟩
theorem few_snoc {l : List (Sp × α)} {p q : Sp × α} (h : Few (l ++ [q])) (hq : ¬ (q.1.2 = p.1.1 ∧ q.2 = p.2)) : Few (l ++ [q] ++ [p]) := by
  induction l with
  | nil => exact ⟨hq, trivial⟩
  | cons r l ih =>
    cases l with
    | nil => exact ⟨h.1, ih h.2⟩
    | cons s l => exact ⟨h.1, ih h.2⟩
theorem few_last {l : List (Sp × α)} {q q' : Sp × α} (h : Few (l ++ [q])) (h1 : q'.1.1 = q.1.1) (h2 : q'.2 = q.2) : Few (l ++ [q']) := by
  induction l with
  | nil => trivial
  | cons r l ih =>
    cases l with
    | nil => exact ⟨fun h9 => h.1 ⟨h9.1.trans h1, h9.2.trans h2⟩, trivial⟩
    | cons s l => exact ⟨h.1, ih h.2⟩
theorem atP_before {p : Sp × α} {l : List (Sp × α)} (h : Ok good (p :: l)) {t : Int} (ht : t < p.1.2) : atP l t = none := by
  rw [atP_none]
  intro q hq hh
  have := (ok_cons.1 h).2.1 q hq
  have := hh.2.1
  omega
theorem atP_head {p : Sp × α} {l : List (Sp × α)} (h : Ok good (p :: l)) {t : Int} (h1 : p.1.1 ≤ t) (h2 : t < p.1.2) : atP (p :: l) t = some p.2 := by
  unfold atP
  rw [if_pos ⟨(ok_cons.1 h).1.1, h1, h2⟩]
theorem atP_behind {p : Sp × α} {l : List (Sp × α)} {t : Int} (h : p.1.2 ≤ t) : atP (p :: l) t = atP l t := by
  show (if Has p.1 t then some p.2 else atP l t) = _
  rw [if_neg (fun h9 => by have := h9.2.2; omega)]
theorem atP_ahead {p : Sp × α} {l : List (Sp × α)} (h : Ok good (p :: l)) {t : Int} (ht : t < p.1.1) : atP (p :: l) t = none := by
  have hp := (ok_cons.1 h).1.1.2.1
  rw [atP_none]
  intro q hq hh
  have := hh.2.1
  rcases List.mem_cons.1 hq with rfl | hq
  · omega
  · have := (ok_cons.1 h).2.1 q hq
    omega
theorem few_end {p : Sp × α} {l : List (Sp × α)} (h : Ok good (p :: l)) (hf : Few (p :: l)) : atP (p :: l) p.1.2 ≠ some p.2 := by
  rw [atP_behind (Int.le_refl _)]
  cases l with
  | nil => exact fun h9 => by cases h9
  | cons q l =>
    intro h9
    have h3 := (ok_cons.1 h).2.2
    have hq := (ok_cons.1 h).2.1 q (by simp)
    rcases Int.lt_or_le p.1.2 q.1.1 with c | c
    · rw [atP_ahead h3 c] at h9; cases h9
    · have e : p.1.2 = q.1.1 := by omega
      have hr := (ok_cons.1 h3).1.1.2.1
      rw [atP_head h3 (by omega) (by omega)] at h9
      exact hf.1 ⟨e, (Option.some.inj h9).symm⟩
/-- As few as can be: there is one such row. -/
theorem few_ext : ∀ {l m : List (Sp × α)}, Ok good l → Ok good m → Few l → Few m → (∀ t, atP l t = atP m t) → l = m := by
  intro l
  induction l with
  | nil =>
    intro m _ hm _ _ h
    cases m with
    | nil => rfl
    | cons q m =>
      have hr := (ok_cons.1 hm).1.1.2.1
      have := h q.1.1
      rw [atP_head hm (Int.le_refl _) hr] at this
      cases this
  | cons p l ih =>
    intro m hl hm fl fm h
    have hp := (ok_cons.1 hl).1.1.2.1
    cases m with
    | nil =>
      have := h p.1.1
      rw [atP_head hl (Int.le_refl _) hp] at this
      cases this
    | cons q m =>
      have hq := (ok_cons.1 hm).1.1.2.1
      have e1 : p.1.1 = q.1.1 := by
        rcases Int.lt_trichotomy p.1.1 q.1.1 with c | c | c
        · have := h p.1.1
          rw [atP_head hl (Int.le_refl _) hp, atP_ahead hm c] at this
          cases this
        · exact c
        · have := h q.1.1
          rw [atP_head hm (Int.le_refl _) hq, atP_ahead hl c] at this
          cases this
      have e2 : p.2 = q.2 := by
        have := h p.1.1
        rw [atP_head hl (Int.le_refl _) hp, atP_head hm (by omega) (by omega)] at this
        exact Option.some.inj this
      have e3 : p.1.2 = q.1.2 := by
        rcases Int.lt_trichotomy p.1.2 q.1.2 with c | c | c
        · exfalso
          have := h p.1.2
          rw [atP_head hm (by omega) c, ← e2] at this
          exact few_end hl fl this
        · exact c
        · exfalso
          have := (h q.1.2).symm
          rw [atP_head hl (by omega) c, e2] at this
          exact few_end hm fm this
      have e : p = q := Prod.ext (Prod.ext e1 e3) e2
      subst e
      rw [ih (ok_cons.1 hl).2.2 (ok_cons.1 hm).2.2 fl.tail fm.tail (fun t => ?_)]
      rcases Int.lt_or_le t p.1.2 with c | c
      · rw [atP_before hl c, atP_before hm c]
      · have := h t
        rwa [atP_behind c, atP_behind c] at this
theorem few_at {l : List (Sp × α)} (h : Few l) (i : Nat) (hi : i + 1 < l.length) : ¬ ((l[i]).1.2 = (l[i + 1]).1.1 ∧ (l[i]).2 = (l[i + 1]).2) := by
  induction l generalizing i with
  | nil => simp at hi
  | cons p l ih =>
    cases l with
    | nil => simp at hi
    | cons q l =>
      cases i with
      | zero => exact h.1
      | succ i => exact ih h.2 i (by simpa using hi)
variable [DecidableEq α]
/-- A row, and one more behind it, that may be one with its last. -/
def fuse : List (Sp × α) → Sp × α → List (Sp × α)
  | [], p => [p]
  | [q], p => if q.1.2 = p.1.1 ∧ q.2 = p.2 then [((q.1.1, p.1.2), q.2)] else [q, p]
  | q :: r :: l, p => q :: fuse (r :: l) p
theorem fuse_snoc (l : List (Sp × α)) (q p : Sp × α) : fuse (l ++ [q]) p = if q.1.2 = p.1.1 ∧ q.2 = p.2 then l ++ [((q.1.1, p.1.2), q.2)] else l ++ [q] ++ [p] := by
  induction l with
  | nil => rfl
  | cons r l ih =>
    cases l with
    | nil => show r :: fuse [q] p = _; unfold fuse; split <;> rfl
    | cons s l =>
      show r :: fuse (s :: (l ++ [q])) p = _
      rw [show s :: (l ++ [q]) = (s :: l) ++ [q] from rfl, ih]
      split <;> rfl
theorem fuse_len (l : List (Sp × α)) (p : Sp × α) : (fuse l p).length ≤ l.length + 1 := by
  rcases List.eq_nil_or_concat l with rfl | ⟨l', q, rfl⟩
  · simp [fuse]
  · rw [List.concat_eq_append, fuse_snoc]; split <;> simp
theorem fuse_ok {l : List (Sp × α)} {p : Sp × α} (h : Ok good l) (hf : Few l) (hp : Right p.1 ∧ good p.2) (hb : ∀ q, q ∈ l → q.1.2 ≤ p.1.1) :
    Ok good (fuse l p) ∧ Few (fuse l p) ∧ (∀ q, q ∈ fuse l p → q.1.2 ≤ p.1.2) ∧ ∀ t, atP (fuse l p) t = if Has p.1 t then some p.2 else atP l t := by
  have p1 := hp.1.2.1
  rcases List.eq_nil_or_concat l with rfl | ⟨l', q, rfl⟩
  · exact ⟨ok_cons.2 ⟨hp, by simp, ok_nil⟩, trivial, by simp [fuse], fun t => rfl⟩
  · rw [List.concat_eq_append] at h hf hb ⊢
    have h' := ok_app.1 h
    obtain ⟨h1, h2, h3⟩ := h'
    have hq := (ok_cons.1 h2).1
    have q1 := hq.1.2.1
    have hqb := hb q (by simp)
    have hlq : ∀ x, x ∈ l' → x.1.2 ≤ q.1.1 := fun x hx => h3 x hx q (by simp)
    rw [fuse_snoc]
    split
    · next c =>
      have hr2 : Right (q.1.1, p.1.2) := ⟨hq.1.1, by simp only; omega, hp.1.2.2⟩
      have hok : Ok good (l' ++ [((q.1.1, p.1.2), q.2)]) := ok_app.2 ⟨h1, ok_cons.2 ⟨⟨hr2, hq.2⟩, by simp, ok_nil⟩, fun x hx y hy => by
        simp at hy; subst hy; exact hlq x hx⟩
      refine ⟨hok, few_last hf rfl rfl, fun x hx => ?_, fun t => ?_⟩
      · rcases List.mem_append.1 hx with hx | hx
        · have := hb x (by simp [hx]); omega
        · simp at hx; subst hx; exact Int.le_refl _
      · split
        · next ht =>
          refine (atP_some hok).2 ⟨((q.1.1, p.1.2), q.2), by simp, ⟨hr2, ?_, ht.2.2⟩, c.2⟩
          have := ht.2.1
          simp only
          omega
        · next ht =>
          refine atP_eq hok h (fun r => ?_)
          constructor
          · rintro ⟨x, hx, h4, h5⟩
            rcases List.mem_append.1 hx with hx | hx
            · exact ⟨x, by simp [hx], h4, h5⟩
            · simp at hx
              subst hx
              refine ⟨q, by simp, ⟨hq.1, h4.2.1, ?_⟩, h5⟩
              rcases Int.lt_or_le t q.1.2 with d | d
              · exact d
              · exact absurd ⟨hp.1, by omega, h4.2.2⟩ ht
          · rintro ⟨x, hx, h4, h5⟩
            rcases List.mem_append.1 hx with hx | hx
            · exact ⟨x, by simp [hx], h4, h5⟩
            · simp at hx
              subst hx
              refine ⟨((x.1.1, p.1.2), x.2), by simp, ⟨hr2, h4.2.1, ?_⟩, h5⟩
              have := h4.2.2
              simp only
              omega
    · next c =>
      have hok : Ok good (l' ++ [q] ++ [p]) := ok_app.2 ⟨h, ok_cons.2 ⟨hp, by simp, ok_nil⟩, fun x hx y hy => by simp at hy; subst hy; exact hb x hx⟩
      refine ⟨hok, few_snoc hf c, fun x hx => ?_, fun t => ?_⟩
      · rcases List.mem_append.1 hx with hx | hx
        · have := hb x hx; omega
        · simp at hx; subst hx; exact Int.le_refl _
      · split
        · next ht => exact (atP_some hok).2 ⟨p, by simp, ht, rfl⟩
        · next ht =>
          refine atP_eq hok h (fun r => ?_)
          constructor
          · rintro ⟨x, hx, h4, h5⟩
            rcases List.mem_append.1 hx with hx | hx
            · exact ⟨x, hx, h4, h5⟩
            · simp at hx; subst hx; exact absurd h4 ht
          · rintro ⟨x, hx, h4, h5⟩; exact ⟨x, List.mem_append.2 (.inl hx), h4, h5⟩
/-- As few pieces as can be. -/
def coal (l : List (Sp × α)) : List (Sp × α) := l.foldl fuse []
theorem coal_snoc (l : List (Sp × α)) (p : Sp × α) : coal (l ++ [p]) = fuse (coal l) p := by unfold coal; rw [List.foldl_append]; rfl
theorem coal_take {l : List (Sp × α)} {i : Nat} (hi : i < l.length) : coal (l.take (i + 1)) = fuse (coal (l.take i)) l[i] := by rw [List.take_succ_eq_append_getElem hi, coal_snoc]
theorem coal_len (l : List (Sp × α)) : (coal l).length ≤ l.length := by
  have key : ∀ k, k ≤ l.length → (coal (l.take k)).length ≤ k := by
    intro k
    induction k with
    | zero => intro _; simp [coal]
    | succ k ih =>
      intro hk
      rw [coal_take (by omega)]
      have := fuse_len (coal (l.take k)) l[k]
      have := ih (by omega)
      omega
  have := key l.length (Nat.le_refl _)
  rwa [List.take_length] at this
theorem coal_all {l : List (Sp × α)} (h : Ok good l) : Ok good (coal l) ∧ Few (coal l) ∧ ∀ t, atP (coal l) t = atP l t := by
  have key : ∀ k, k ≤ l.length → Ok good (coal (l.take k)) ∧ Few (coal (l.take k)) ∧ (∀ q, q ∈ coal (l.take k) → ∃ p, p ∈ l.take k ∧ q.1.2 ≤ p.1.2) ∧ ∀ t, atP (coal (l.take k)) t = atP (l.take k) t := by
    intro k
    induction k with
    | zero => intro _; exact ⟨ok_nil, trivial, fun q hq => by simp [coal] at hq, fun t => rfl⟩
    | succ k ih =>
      intro hk
      obtain ⟨i1, i2, i3, i4⟩ := ih (by omega)
      have hs : l.take (k + 1) = l.take k ++ [l[k]] := List.take_succ_eq_append_getElem (by omega)
      have hok : Ok good (l.take (k + 1)) := h.sub (List.take_sublist _ _)
      rw [hs] at hok
      have h3 := ok_app.1 hok
      have hp := (ok_cons.1 h3.2.1).1
      obtain ⟨j1, j2, j3, j4⟩ := fuse_ok i1 i2 hp (fun q hq => by
        obtain ⟨p, hp2, hle⟩ := i3 q hq
        have := h3.2.2 p hp2 l[k] (by simp)
        omega)
      rw [coal_take (by omega)]
      refine ⟨j1, j2, fun q hq => ⟨l[k], by rw [hs]; exact List.mem_append.2 (.inr (List.mem_singleton.2 rfl)), j3 q hq⟩, fun t => ?_⟩
      rw [j4, hs]
      split
      · next c => exact ((atP_some hok).2 ⟨l[k], List.mem_append.2 (.inr (List.mem_singleton.2 rfl)), c, rfl⟩).symm
      · next c =>
        rw [i4]
        refine (atP_eq hok h3.1 (fun r => ?_)).symm
        constructor
        · rintro ⟨x, hx, h4, h5⟩
          rcases List.mem_append.1 hx with hx | hx
          · exact ⟨x, hx, h4, h5⟩
          · simp at hx; subst hx; exact absurd h4 c
        · rintro ⟨x, hx, h4, h5⟩; exact ⟨x, List.mem_append.2 (.inl hx), h4, h5⟩
  have := key l.length (Nat.le_refl _)
  rw [List.take_length] at this
  exact ⟨this.1, this.2.1, this.2.2.2⟩
theorem coal_eq {l m : List (Sp × α)} (h : Ok good l) (hm : Ok good m) (hf : Few m) (ha : ∀ t, atP m t = atP l t) : m = coal l :=
  few_ext hm (coal_all h).1 hf (coal_all h).2.1 (fun t => by rw [ha, (coal_all h).2.2])
theorem coal_again {l : List (Sp × α)} (h : Ok good l) : coal (coal l) = coal l :=
  (coal_eq (coal_all h).1 (coal_all h).1 (coal_all h).2.1 (fun _ => rfl)).symm
/-! ### What goes, what comes -/
/-- Those of a that are not among b's. -/
def goes (a b : List (Sp × α)) : List (Sp × α) := a.filter fun p => decide (p ∉ b)
theorem goes_self (a : List (Sp × α)) : goes a a = [] := by
  unfold goes
  rw [List.filter_eq_nil_iff]
  intro p hp
  simpa using hp
theorem goes_ok {a : List (Sp × α)} (h : Ok good a) (b : List (Sp × α)) : Ok good (goes a b) := h.sub List.filter_sublist
theorem goes_len {a b : List (Sp × α)} (ha : Ok good a) (hb : Ok good b) : a.length - (goes a b).length = b.length - (goes b a).length := by
  have split : ∀ a b : List (Sp × α), a.length = (a.filter fun p => decide (p ∈ b)).length + (goes a b).length := by
    intro a b
    unfold goes
    induction a with
    | nil => rfl
    | cons p a ih =>
      by_cases h : p ∈ b
      · rw [List.filter_cons_of_pos (by simp [h]), List.filter_cons_of_neg (by simp [h]), List.length_cons, List.length_cons]; omega
      · rw [List.filter_cons_of_neg (by simp [h]), List.filter_cons_of_pos (by simp [h]), List.length_cons, List.length_cons]; omega
  have hp : (a.filter fun p => decide (p ∈ b)).Perm (b.filter fun p => decide (p ∈ a)) :=
    (List.perm_ext_iff_of_nodup (ha.nodup.filter _) (hb.nodup.filter _)).2 (fun x => by
      simp only [List.mem_filter, decide_eq_true_eq]
      exact ⟨fun h => ⟨h.2, h.1⟩, fun h => ⟨h.2, h.1⟩⟩)
  have h1 := split a b
  have h2 := split b a
  have := hp.length_eq
  omega
theorem goes_le (a b : List (Sp × α)) : (goes a b).length ≤ a.length := List.length_filter_le _ _
end
end Prd
end Go.Proofs.Ytoacombaddknfaa
