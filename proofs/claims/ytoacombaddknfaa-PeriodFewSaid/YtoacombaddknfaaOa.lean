/- Pieces by valid periods, plain: what is dropped, put, found, coalesced, what goes and comes; by which of them there are. No condition beyond what each says. -/
import Derived.Test.YtoacombaddknfaaIa
namespace Go.Proofs.Ytoacombaddknfaa
namespace Prd
open Spn
section
variable {α : Type} {good : α → Prop}
/-- Pieces are right. -/
structure Ok (good : α → Prop) (l : List (Sp × α)) : Prop where
  one : ∀ p, p ∈ l → Right p.1 ∧ good p.2
  up : l.Pairwise (fun p q => p.1.2 ≤ q.1.1)
theorem ok_nil : Ok good ([] : List (Sp × α)) := ⟨fun p h => (by cases h), List.Pairwise.nil⟩
theorem ok_cons {p : Sp × α} {l : List (Sp × α)} : Ok good (p :: l) ↔ (Right p.1 ∧ good p.2) ∧ (∀ q, q ∈ l → p.1.2 ≤ q.1.1) ∧ Ok good l := by
  constructor
  · intro h
    have h2 := List.pairwise_cons.1 h.up
    exact ⟨h.one p (by simp), h2.1, ⟨fun q hq => h.one q (by simp [hq]), h2.2⟩⟩
  · rintro ⟨h1, h2, h3⟩
    refine ⟨fun q hq => ?_, List.pairwise_cons.2 ⟨h2, h3.up⟩⟩
    rcases List.mem_cons.1 hq with rfl | hq
    · exact h1
    · exact h3.one q hq
theorem ok_app {l m : List (Sp × α)} : Ok good (l ++ m) ↔ Ok good l ∧ Ok good m ∧ ∀ p, p ∈ l → ∀ q, q ∈ m → p.1.2 ≤ q.1.1 := by
  constructor
  · intro h
    have h2 := List.pairwise_append.1 h.up
    exact ⟨⟨fun p hp => h.one p (by simp [hp]), h2.1⟩, ⟨fun p hp => h.one p (by simp [hp]), h2.2.1⟩, h2.2.2⟩
  · rintro ⟨h1, h2, h3⟩
    refine ⟨fun p hp => ?_, List.pairwise_append.2 ⟨h1.up, h2.up, h3⟩⟩
    rcases List.mem_append.1 hp with hp | hp
    · exact h1.one p hp
    · exact h2.one p hp
/-- Two rows of right pieces that have the same ones are the same. -/
theorem ok_ext : ∀ {l m : List (Sp × α)}, Ok good l → Ok good m → (∀ p, p ∈ l ↔ p ∈ m) → l = m := by
  intro l
  induction l with
  | nil =>
    intro m _ _ h
    cases m with
    | nil => rfl
    | cons q m => exact absurd ((h q).2 (by simp)) (by simp)
  | cons p l ih =>
    intro m hl hm h
    rw [ok_cons] at hl
    obtain ⟨h1, h2, h3⟩ := hl
    cases m with
    | nil => exact absurd ((h p).1 (by simp)) (by simp)
    | cons q m =>
      rw [ok_cons] at hm
      obtain ⟨g1, g2, g3⟩ := hm
      have p1 := h1.1.2.1
      have q1 := g1.1.2.1
      have e : p = q := by
        rcases List.mem_cons.1 ((h p).1 (by simp)) with e | hp
        · exact e
        · rcases List.mem_cons.1 ((h q).2 (by simp)) with e | hq
          · exact e.symm
          · have a := g2 p hp
            have b := h2 q hq
            omega
      subst e
      rw [ih h3 g3 (fun x => ?_)]
      constructor
      · intro hx
        rcases List.mem_cons.1 ((h x).1 (by simp [hx])) with e | hx2
        · subst e
          have := h2 x hx
          omega
        · exact hx2
      · intro hx
        rcases List.mem_cons.1 ((h x).2 (by simp [hx])) with e | hx2
        · subst e
          have := g2 x hx
          omega
        · exact hx2
/-- Of two pieces that have a time, there is one. -/
theorem Ok.same {l : List (Sp × α)} (h : Ok good l) {p q : Sp × α} (hp : p ∈ l) (hq : q ∈ l) {t : Int} (h1 : Has p.1 t) (h2 : Has q.1 t) : p = q := by
  induction l with
  | nil => cases hp
  | cons x l ih =>
    rw [ok_cons] at h
    obtain ⟨_, hx, h3⟩ := h
    rcases List.mem_cons.1 hp with e | hp'
    · rcases List.mem_cons.1 hq with e2 | hq'
      · exact e.trans e2.symm
      · have := hx q hq'
        rw [← e] at this
        have := h1.2.2; have := h2.2.1
        omega
    · rcases List.mem_cons.1 hq with e2 | hq'
      · have := hx p hp'
        rw [← e2] at this
        have := h2.2.2; have := h1.2.1
        omega
      · exact ih h3 hp' hq'
theorem Ok.nodup {l : List (Sp × α)} (h : Ok good l) : l.Nodup := by
  induction l with
  | nil => exact List.nodup_nil
  | cons x l ih =>
    rw [ok_cons] at h
    obtain ⟨h1, hx, h3⟩ := h
    refine List.nodup_cons.2 ⟨fun hm => ?_, ih h3⟩
    have := hx x hm
    have := h1.1.2.1
    omega
theorem Ok.sub {l m : List (Sp × α)} (h : Ok good l) (hs : m.Sublist l) : Ok good m := ⟨fun p hp => h.one p (hs.subset hp), h.up.sublist hs⟩
/-! ### What is cut -/
theorem rcut_in {a b x : Sp} (h : x ∈ rcut a b) : Right x ∧ a.1 ≤ x.1 ∧ x.2 ≤ a.2 ∧ (x.2 ≤ b.1 ∨ b.2 ≤ x.1 ∨ ¬ Meets a b) := by
  have hr := (rcut_canon a b).right h
  refine ⟨hr, ?_⟩
  unfold rcut at h
  split at h
  · next hm =>
    obtain ⟨h1, h2, h3⟩ := hm
    have e1 : (mid a b).1 = max a.1 b.1 := rfl
    have e2 : (mid a b).2 = min a.2 b.2 := rfl
    unfold Right at h1 h2 h3
    rcases List.mem_append.1 h with h | h
    · split at h
      · next c => simp at h; subst h; simp only; omega
      · simp at h
    · split at h
      · next c => simp at h; subst h; simp only; omega
      · simp at h
  · next hm =>
    split at h
    · simp at h; subst h; exact ⟨Int.le_refl _, Int.le_refl _, .inr (.inr hm)⟩
    · simp at h
theorem rcut_away {a b x : Sp} (h : x ∈ rcut a b) (t : Int) : ¬ (Has x t ∧ Has b t) := by
  rintro ⟨h1, h2⟩
  have := (rcut_has a b t).1 ⟨x, h, h1⟩
  exact this.2 h2
theorem rcut_whole {a b : Sp} (ha : Right a) (h : ¬ Meets a b) : rcut a b = [a] := by unfold rcut; rw [if_neg h, if_pos ha]
theorem rcut_all {a : Sp} (ha : Right a) : rcut a a = [] := by
  unfold rcut
  have e : mid a a = a := by unfold mid; rw [show max a.1 a.1 = a.1 by omega, show min a.2 a.2 = a.2 by omega]
  have h' : Meets a a := ⟨ha, ha, by rw [e]; exact ha⟩
  rw [if_pos h', e, if_neg (by omega), if_neg (by omega)]
  rfl
theorem away_meets {x b : Sp} (h : ∀ t, ¬ (Has x t ∧ Has b t)) : ¬ Meets x b := fun hm => h (mid x b).1 ((has_mid hm _).1 ⟨hm.2.2, Int.le_refl _, hm.2.2.2.1⟩)
/-- Cut twice, in either order. -/
theorem cut_twice (p a b : Sp) : (rcut p a).flatMap (fun y => rcut y b) = (rcut p b).flatMap (fun y => rcut y a) := by
  have canon : ∀ a b : Sp, Canon ((rcut p a).flatMap fun y => rcut y b) := by
    intro a b
    have hc := rcut_canon p a
    generalize rcut p a = l at hc
    induction l with
    | nil => exact trivial
    | cons y l ih =>
      rw [List.flatMap_cons, canon_app]
      refine ⟨rcut_canon y b, ih hc.2.2, fun u hu v hv => ?_⟩
      obtain ⟨z, hz, hv2⟩ := List.mem_flatMap.1 hv
      have h1 := rcut_in hu
      have h2 := rcut_in hv2
      have h3 := hc.2.1 z hz
      omega
  have has : ∀ (a b : Sp) (t : Int), HasL ((rcut p a).flatMap fun y => rcut y b) t ↔ Has p t ∧ ¬ Has a t ∧ ¬ Has b t := by
    intro a b t
    constructor
    · rintro ⟨x, hx, ht⟩
      obtain ⟨y, hy, hx2⟩ := List.mem_flatMap.1 hx
      have h1 := (rcut_has y b t).1 ⟨x, hx2, ht⟩
      have h2 := (rcut_has p a t).1 ⟨y, hy, h1.1⟩
      exact ⟨h2.1, h2.2, h1.2⟩
    · rintro ⟨h1, h2, h3⟩
      obtain ⟨y, hy, ht⟩ := (rcut_has p a t).2 ⟨h1, h2⟩
      obtain ⟨x, hx, ht2⟩ := (rcut_has y b t).2 ⟨ht, h3⟩
      exact ⟨x, List.mem_flatMap.2 ⟨y, hy, hx⟩, ht2⟩
  refine canon_ext (canon a b) (canon b a) (fun t => ?_)
  rw [has, has]
  constructor
  · rintro ⟨h1, h2, h3⟩; exact ⟨h1, h3, h2⟩
  · rintro ⟨h1, h2, h3⟩; exact ⟨h1, h3, h2⟩
/-! ### Drop, Put -/
/-- The pieces, each without the times of s. -/
def away (l : List (Sp × α)) (s : Sp) : List (Sp × α) := l.flatMap fun p => (rcut p.1 s).map fun c => (c, p.2)
theorem away_cons (p : Sp × α) (l : List (Sp × α)) (s : Sp) : away (p :: l) s = (rcut p.1 s).map (fun c => (c, p.2)) ++ away l s := rfl
theorem away_app (l m : List (Sp × α)) (s : Sp) : away (l ++ m) s = away l s ++ away m s := by simp [away]
theorem mem_away {l : List (Sp × α)} {s : Sp} {x : Sp × α} : x ∈ away l s ↔ ∃ p, p ∈ l ∧ x.1 ∈ rcut p.1 s ∧ x.2 = p.2 := by
  unfold away
  rw [List.mem_flatMap]
  constructor
  · rintro ⟨p, hp, hx⟩
    obtain ⟨c, hc, rfl⟩ := List.mem_map.1 hx
    exact ⟨p, hp, hc, rfl⟩
  · rintro ⟨p, hp, h1, h2⟩
    exact ⟨p, hp, List.mem_map.2 ⟨x.1, h1, by rw [← h2]⟩⟩
theorem cuts_ok {p : Sp × α} (hg : good p.2) (s : Sp) : Ok good ((rcut p.1 s).map fun c => (c, p.2)) := by
  have hc := rcut_canon p.1 s
  generalize rcut p.1 s = l at hc
  induction l with
  | nil => exact ok_nil
  | cons c l ih =>
    rw [List.map_cons, ok_cons]
    refine ⟨⟨hc.1, hg⟩, fun q hq => ?_, ih hc.2.2⟩
    obtain ⟨d, hd, rfl⟩ := List.mem_map.1 hq
    exact Int.le_of_lt (hc.2.1 d hd)
theorem away_ok {l : List (Sp × α)} (h : Ok good l) (s : Sp) : Ok good (away l s) := by
  induction l with
  | nil => exact ok_nil
  | cons p l ih =>
    rw [ok_cons] at h
    obtain ⟨h1, h2, h3⟩ := h
    rw [away_cons, ok_app]
    refine ⟨cuts_ok h1.2 s, ih h3, fun x hx y hy => ?_⟩
    obtain ⟨c, hc, rfl⟩ := List.mem_map.1 hx
    obtain ⟨q, hq, hy2, _⟩ := mem_away.1 hy
    have a := rcut_in hc
    have b := rcut_in hy2
    have := h2 q hq
    simp only
    omega
theorem away_len (l : List (Sp × α)) (s : Sp) : (away l s).length ≤ 2 * l.length := by
  induction l with
  | nil => simp [away]
  | cons p l ih =>
    rw [away_cons, List.length_append, List.length_map, List.length_cons]
    have := rcut_len p.1 s
    omega
/-- In its place. -/
def lay (d : List (Sp × α)) (x : Sp × α) : List (Sp × α) := d.takeWhile (fun p => decide (p.1.1 < x.1.1)) ++ x :: d.dropWhile (fun p => decide (p.1.1 < x.1.1))
theorem mem_lay {d : List (Sp × α)} {x y : Sp × α} : y ∈ lay d x ↔ y = x ∨ y ∈ d := by
  have e := List.takeWhile_append_dropWhile (p := fun p : Sp × α => decide (p.1.1 < x.1.1)) (l := d)
  unfold lay
  rw [List.mem_append, List.mem_cons]
  constructor
  · rintro (h | h | h)
    · exact .inr (by rw [← e]; exact List.mem_append.2 (.inl h))
    · exact .inl h
    · exact .inr (by rw [← e]; exact List.mem_append.2 (.inr h))
  · rintro (h | h)
    · exact .inr (.inl h)
    · rw [← e] at h
      rcases List.mem_append.1 h with h | h
      · exact .inl h
      · exact .inr (.inr h)
theorem lay_ok {d : List (Sp × α)} {x : Sp × α} (h : Ok good d) (h1 : Right x.1) (h2 : good x.2) (ha : ∀ p, p ∈ d → p.1.2 ≤ x.1.1 ∨ x.1.2 ≤ p.1.1) : Ok good (lay d x) := by
  have e := List.takeWhile_append_dropWhile (p := fun p : Sp × α => decide (p.1.1 < x.1.1)) (l := d)
  have x1 := h1.2.1
  have h' := h
  rw [← e, ok_app] at h'
  obtain ⟨g1, g2, g3⟩ := h'
  have k1 : ∀ p, p ∈ d.takeWhile (fun p => decide (p.1.1 < x.1.1)) → p.1.1 < x.1.1 := fun p hp => of_decide_eq_true (List.all_eq_true.1 List.all_takeWhile p hp)
  have k2 : ∀ p, p ∈ d.dropWhile (fun p => decide (p.1.1 < x.1.1)) → x.1.1 ≤ p.1.1 := by
    intro p hp
    cases hd : d.dropWhile (fun p => decide (p.1.1 < x.1.1)) with
    | nil => rw [hd] at hp; cases hp
    | cons q m =>
      have hq : ¬ q.1.1 < x.1.1 := by
        have := List.head?_dropWhile_not (fun p : Sp × α => decide (p.1.1 < x.1.1)) d
        rw [hd] at this
        simpa using this
      rw [hd] at hp g2
      rcases List.mem_cons.1 hp with rfl | hp
      · omega
      · have := (ok_cons.1 g2).2.1 p hp
        have := (ok_cons.1 g2).1.1.2.1
        omega
  unfold lay
  rw [ok_app, ok_cons]
  have m1 : ∀ p, p ∈ d.takeWhile (fun p => decide (p.1.1 < x.1.1)) → p ∈ d := fun p hp => by rw [← e]; exact List.mem_append.2 (.inl hp)
  have m2 : ∀ p, p ∈ d.dropWhile (fun p => decide (p.1.1 < x.1.1)) → p ∈ d := fun p hp => by rw [← e]; exact List.mem_append.2 (.inr hp)
  refine ⟨g1, ⟨⟨h1, h2⟩, fun q hq => ?_, g2⟩, fun p hp q hq => ?_⟩
  · have := k2 q hq
    have := (g2.one q hq).1.2.1
    rcases ha q (m2 q hq) with c | c <;> omega
  · rcases List.mem_cons.1 hq with rfl | hq
    · have := k1 p hp
      have := (g1.one p hp).1.2.1
      rcases ha p (m1 p hp) with c | c <;> omega
    · exact g3 p hp q hq
theorem lay_len (d : List (Sp × α)) (x : Sp × α) : (lay d x).length = d.length + 1 := by
  have e := congrArg List.length (List.takeWhile_append_dropWhile (p := fun p : Sp × α => decide (p.1.1 < x.1.1)) (l := d))
  unfold lay
  rw [List.length_append] at e ⊢
  rw [List.length_cons]
  omega
theorem away_apart {l : List (Sp × α)} {s : Sp} (h : Ok good l) (hs : Right s) {p : Sp × α} (hp : p ∈ away l s) : p.1.2 ≤ s.1 ∨ s.2 ≤ p.1.1 := by
  obtain ⟨q, hq, h1, _⟩ := mem_away.1 hp
  have a := rcut_in h1
  have hr := (h.one q hq).1
  rcases a.2.2.2 with c | c | c
  · exact .inl c
  · exact .inr c
  · rcases Int.lt_or_le s.1 p.1.2 with d | d
    · rcases Int.lt_or_le p.1.1 s.2 with f | f
      · exfalso
        refine c ((meets_iff _ _).2 ⟨hr, hs, ?_⟩)
        have := a.1.2.1
        have := hs.2.1
        omega
      · exact .inr f
    · exact .inl d
theorem put_ok {l : List (Sp × α)} {s : Sp} {r : α} (h : Ok good l) (hs : Right s) (hg : good r) : Ok good (lay (away l s) (s, r)) :=
  lay_ok (away_ok h s) hs hg (fun _ hp => away_apart h hs hp)
/-! ### At -/
/-- The row that is valid at a time. -/
def atP : List (Sp × α) → Int → Option α
  | [], _ => none
  | p :: l, t => if Has p.1 t then some p.2 else atP l t
theorem atP_none {l : List (Sp × α)} {t : Int} : atP l t = none ↔ ∀ p, p ∈ l → ¬ Has p.1 t := by
  induction l with
  | nil => simp [atP]
  | cons p l ih =>
    unfold atP
    split
    · next h => simp [h]
    · next h => rw [ih]; simp [h]
theorem atP_some {l : List (Sp × α)} (h : Ok good l) {t : Int} {r : α} : atP l t = some r ↔ ∃ p, p ∈ l ∧ Has p.1 t ∧ p.2 = r := by
  induction l with
  | nil => simp [atP]
  | cons p l ih =>
    have h3 := (ok_cons.1 h).2.2
    unfold atP
    split
    · next c =>
      constructor
      · intro e
        exact ⟨p, by simp, c, by simpa using e⟩
      · rintro ⟨q, hq, h1, h2⟩
        rw [h.same (by simp : p ∈ p :: l) hq c h1, h2]
    · next c =>
      rw [ih h3]
      constructor
      · rintro ⟨q, hq, h1, h2⟩; exact ⟨q, by simp [hq], h1, h2⟩
      · rintro ⟨q, hq, h1, h2⟩
        rcases List.mem_cons.1 hq with rfl | hq
        · exact absurd h1 c
        · exact ⟨q, hq, h1, h2⟩
theorem atP_eq {l m : List (Sp × α)} (hl : Ok good l) (hm : Ok good m) {t : Int} (h : ∀ r, (∃ p, p ∈ l ∧ Has p.1 t ∧ p.2 = r) ↔ ∃ p, p ∈ m ∧ Has p.1 t ∧ p.2 = r) : atP l t = atP m t := by
  cases e : atP m t with
  | none =>
    rw [atP_none] at e ⊢
    intro p hp ht
    obtain ⟨q, hq, h1, _⟩ := (h p.2).1 ⟨p, hp, ht, rfl⟩
    exact e q hq h1
  | some r => rw [atP_some hm] at e; rw [atP_some hl]; exact (h r).2 e
theorem at_away {l : List (Sp × α)} (h : Ok good l) (s : Sp) (t : Int) : atP (away l s) t = if Has s t then none else atP l t := by
  split
  · next c =>
    rw [atP_none]
    intro p hp ht
    obtain ⟨q, _, h1, _⟩ := mem_away.1 hp
    exact rcut_away h1 t ⟨ht, c⟩
  · next c =>
    refine atP_eq (away_ok h s) h (fun r => ?_)
    constructor
    · rintro ⟨p, hp, ht, rfl⟩
      obtain ⟨q, hq, h1, h2⟩ := mem_away.1 hp
      exact ⟨q, hq, ((rcut_has q.1 s t).1 ⟨p.1, h1, ht⟩).1, h2.symm⟩
    · rintro ⟨q, hq, ht, rfl⟩
      obtain ⟨y, hy, h1⟩ := (rcut_has q.1 s t).2 ⟨ht, c⟩
      exact ⟨(y, q.2), mem_away.2 ⟨q, hq, hy, rfl⟩, h1, rfl⟩
theorem at_put {l : List (Sp × α)} (h : Ok good l) {s : Sp} {r : α} (hs : Right s) (hg : good r) (t : Int) : atP (lay (away l s) (s, r)) t = if Has s t then some r else atP l t := by
  have h1 := put_ok h hs hg
  split
  · next c => exact (atP_some h1).2 ⟨(s, r), mem_lay.2 (.inl rfl), c, rfl⟩
  · next c =>
    have h2 := at_away h s t
    rw [if_neg c] at h2
    rw [← h2]
    refine atP_eq h1 (away_ok h s) (fun q => ?_)
    constructor
    · rintro ⟨p, hp, ht, e⟩
      rcases mem_lay.1 hp with rfl | hp
      · exact absurd ht c
      · exact ⟨p, hp, ht, e⟩
    · rintro ⟨p, hp, ht, e⟩; exact ⟨p, mem_lay.2 (.inr hp), ht, e⟩
/-! ### Put and drop, once more, and apart -/
theorem away_again {l : List (Sp × α)} (h : Ok good l) (s : Sp) : away (away l s) s = away l s := by
  refine ok_ext (away_ok (away_ok h s) s) (away_ok h s) (fun x => ?_)
  rw [mem_away]
  constructor
  · rintro ⟨p, hp, h1, h2⟩
    obtain ⟨q, hq, h3, h4⟩ := mem_away.1 hp
    rw [rcut_whole (rcut_in h3).1 (away_meets (rcut_away h3))] at h1
    have e : x = p := Prod.ext (by simpa using h1) h2
    rw [e]; exact hp
  · intro hx
    obtain ⟨q, hq, h3, h4⟩ := mem_away.1 hx
    exact ⟨x, hx, by rw [rcut_whole (rcut_in h3).1 (away_meets (rcut_away h3))]; simp, rfl⟩
theorem drop_put {l : List (Sp × α)} (h : Ok good l) {s : Sp} {r : α} (hs : Right s) (hg : good r) : away (lay (away l s) (s, r)) s = away l s := by
  refine ok_ext (away_ok (put_ok h hs hg) s) (away_ok h s) (fun x => ?_)
  rw [mem_away]
  constructor
  · rintro ⟨p, hp, h1, h2⟩
    rcases mem_lay.1 hp with rfl | hp
    · rw [rcut_all hs] at h1; cases h1
    · rw [← away_again h s, mem_away]; exact ⟨p, hp, h1, h2⟩
  · intro hx
    have hx' := hx
    rw [← away_again h s, mem_away] at hx'
    obtain ⟨p, hp, h1, h2⟩ := hx'
    exact ⟨p, mem_lay.2 (.inr hp), h1, h2⟩
theorem put_again {l : List (Sp × α)} (h : Ok good l) {s : Sp} {r : α} (hs : Right s) (hg : good r) : lay (away (lay (away l s) (s, r)) s) (s, r) = lay (away l s) (s, r) := by
  rw [drop_put h hs hg]
theorem put_apart {l : List (Sp × α)} (h : Ok good l) {a b : Sp} {r q : α} (ha : Right a) (hb : Right b) (hr : good r) (hq : good q) (hn : ¬ Meets a b) :
    lay (away (lay (away l a) (a, r)) b) (b, q) = lay (away (lay (away l b) (b, q)) a) (a, r) := by
  have em : mid a b = mid b a := by unfold mid; rw [Int.max_comm, Int.min_comm]
  have hn' : ¬ Meets b a := fun hm => hn ⟨hm.2.1, hm.1, by rw [em]; exact hm.2.2⟩
  have key : ∀ (a b : Sp) (r : α), Right a → ¬ Meets a b → ∀ x, x ∈ away (lay (away l a) (a, r)) b ↔ x = (a, r) ∨ ∃ p, p ∈ l ∧ x.1 ∈ (rcut p.1 a).flatMap (fun y => rcut y b) ∧ x.2 = p.2 := by
    intro a b r ha hn x
    rw [mem_away]
    constructor
    · rintro ⟨p, hp, h1, h2⟩
      rcases mem_lay.1 hp with rfl | hp
      · rw [rcut_whole ha hn] at h1
        exact .inl (Prod.ext (by simpa using h1) h2)
      · obtain ⟨u, hu, h3, h4⟩ := mem_away.1 hp
        exact .inr ⟨u, hu, List.mem_flatMap.2 ⟨p.1, h3, h1⟩, h2.trans h4⟩
    · rintro (rfl | ⟨p, hp, h1, h2⟩)
      · exact ⟨(a, r), mem_lay.2 (.inl rfl), by rw [rcut_whole ha hn]; simp, rfl⟩
      · obtain ⟨y, hy, h3⟩ := List.mem_flatMap.1 h1
        exact ⟨(y, p.2), mem_lay.2 (.inr (mem_away.2 ⟨p, hp, hy, rfl⟩)), h3, h2⟩
  refine ok_ext (put_ok (put_ok h ha hr) hb hq) (put_ok (put_ok h hb hq) ha hr) (fun x => ?_)
  rw [mem_lay, mem_lay, key a b r ha hn, key b a q hb hn']
  constructor
  · rintro (e | e | ⟨p, hp, h1, h2⟩)
    · exact .inr (.inl e)
    · exact .inl e
    · exact .inr (.inr ⟨p, hp, by rw [cut_twice]; exact h1, h2⟩)
  · rintro (e | e | ⟨p, hp, h1, h2⟩)
    · exact .inr (.inl e)
    · exact .inl e
    · exact .inr (.inr ⟨p, hp, by rw [cut_twice]; exact h1, h2⟩)
end
end Prd
end Go.Proofs.Ytoacombaddknfaa
