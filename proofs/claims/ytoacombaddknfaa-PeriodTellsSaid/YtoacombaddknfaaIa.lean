/- Half-open intervals of times, plain: rows of them that rise and do not touch are the same where they have the same times; putting together, cutting, covering. No condition beyond what each says. -/
namespace Go.Proofs.Ytoacombaddknfaa
namespace Spn
/-- An interval: where it begins, where it ends. -/
abbrev Sp := Int × Int
def Right (s : Sp) : Prop := 0 ≤ s.1 ∧ s.1 < s.2 ∧ s.2 ≤ 1099511627776
instance (s : Sp) : Decidable (Right s) := by unfold Right; exact inferInstance
def Has (s : Sp) (t : Int) : Prop := Right s ∧ s.1 ≤ t ∧ t < s.2
instance (s : Sp) (t : Int) : Decidable (Has s t) := by unfold Has; exact inferInstance
def HasL (l : List Sp) (t : Int) : Prop := ∃ s, s ∈ l ∧ Has s t
theorem hasL_nil (t : Int) : ¬ HasL [] t := fun ⟨_, h, _⟩ => by cases h
theorem hasL_cons (s : Sp) (l : List Sp) (t : Int) : HasL (s :: l) t ↔ Has s t ∨ HasL l t := by
  constructor
  · rintro ⟨r, hr, h⟩
    rcases List.mem_cons.1 hr with rfl | hr
    · exact .inl h
    · exact .inr ⟨r, hr, h⟩
  · rintro (h | ⟨r, hr, h⟩)
    · exact ⟨s, by simp, h⟩
    · exact ⟨r, by simp [hr], h⟩
theorem hasL_app (l m : List Sp) (t : Int) : HasL (l ++ m) t ↔ HasL l t ∨ HasL m t := by
  induction l with
  | nil => simp [hasL_nil]
  | cons s l ih => rw [List.cons_append, hasL_cons, hasL_cons, ih, or_assoc]
theorem hasL_mem {l m : List Sp} (h : ∀ s, Right s → (s ∈ l ↔ s ∈ m)) (t : Int) : HasL l t ↔ HasL m t :=
  ⟨fun ⟨s, hs, ht⟩ => ⟨s, (h s ht.1).1 hs, ht⟩, fun ⟨s, hs, ht⟩ => ⟨s, (h s ht.1).2 hs, ht⟩⟩
/-- They rise, and do not touch. -/
def Canon : List Sp → Prop
  | [] => True
  | s :: l => Right s ∧ (∀ r, r ∈ l → s.2 < r.1) ∧ Canon l
theorem Canon.right {l : List Sp} (h : Canon l) {s : Sp} (hs : s ∈ l) : Right s := by
  induction l with
  | nil => cases hs
  | cons r l ih =>
    rcases List.mem_cons.1 hs with rfl | hs
    · exact h.1
    · exact ih h.2.2 hs
theorem canon_app (l m : List Sp) : Canon (l ++ m) ↔ Canon l ∧ Canon m ∧ ∀ a, a ∈ l → ∀ b, b ∈ m → a.2 < b.1 := by
  induction l with
  | nil => simp [Canon]
  | cons s l ih =>
    rw [List.cons_append]
    simp only [Canon, ih, List.mem_append, List.mem_cons]
    constructor
    · rintro ⟨h1, h2, h3, h4, h5⟩
      refine ⟨⟨h1, fun r hr => h2 r (.inl hr), h3⟩, h4, ?_⟩
      rintro a (rfl | ha) b hb
      · exact h2 b (.inr hb)
      · exact h5 a ha b hb
    · rintro ⟨⟨h1, h2, h3⟩, h4, h5⟩
      refine ⟨h1, ?_, h3, h4, fun a ha b hb => h5 a (.inr ha) b hb⟩
      rintro r (hr | hr)
      · exact h2 r hr
      · exact h5 s (.inl rfl) r hr
theorem Canon.first {s : Sp} {l : List Sp} (h : Canon (s :: l)) {t : Int} (ht : HasL (s :: l) t) : s.1 ≤ t := by
  rw [hasL_cons] at ht
  rcases ht with ht | ⟨r, hr, ht⟩
  · exact ht.2.1
  · have := h.2.1 r hr
    have := h.1.2.1
    have := ht.2.1
    omega
theorem Canon.behind {s : Sp} {l : List Sp} (h : Canon (s :: l)) {t : Int} (ht : HasL l t) : s.2 < t := by
  obtain ⟨r, hr, ht⟩ := ht
  have := h.2.1 r hr
  have := ht.2.1
  omega
theorem canon_ext : ∀ {n m : List Sp}, Canon n → Canon m → (∀ t, HasL n t ↔ HasL m t) → n = m := by
  intro n
  induction n with
  | nil =>
    intro m _ hm h
    cases m with
    | nil => rfl
    | cons r m =>
      have hr := hm.1
      exact absurd ((h r.1).2 ((hasL_cons _ _ _).2 (.inl ⟨hr, Int.le_refl _, hr.2.1⟩))) (hasL_nil _)
  | cons s n ih =>
    intro m hn hm h
    cases m with
    | nil =>
      have hs := hn.1
      exact absurd ((h s.1).1 ((hasL_cons _ _ _).2 (.inl ⟨hs, Int.le_refl _, hs.2.1⟩))) (hasL_nil _)
    | cons r m =>
      have hs := hn.1
      have hr := hm.1
      have e1 : s.1 = r.1 := by
        have a := hm.first ((h s.1).1 ((hasL_cons _ _ _).2 (.inl ⟨hs, Int.le_refl _, hs.2.1⟩)))
        have b := hn.first ((h r.1).2 ((hasL_cons _ _ _).2 (.inl ⟨hr, Int.le_refl _, hr.2.1⟩)))
        omega
      have e2 : s.2 = r.2 := by
        have s1 := hs.2.1
        have r1 := hr.2.1
        rcases Int.lt_trichotomy s.2 r.2 with c | c | c
        · exfalso
          have a := (h s.2).2 ((hasL_cons _ _ _).2 (.inl ⟨hr, by omega, c⟩))
          rw [hasL_cons] at a
          rcases a with a | a
          · have := a.2.2; omega
          · have := hn.behind a; omega
        · exact c
        · exfalso
          have a := (h r.2).1 ((hasL_cons _ _ _).2 (.inl ⟨hs, by omega, c⟩))
          rw [hasL_cons] at a
          rcases a with a | a
          · have := a.2.2; omega
          · have := hm.behind a; omega
      have e : s = r := Prod.ext e1 e2
      subst e
      rw [ih hn.2.2 hm.2.2 (fun t => ?_)]
      constructor
      · intro ht
        have hb := hn.behind ht
        have a := (h t).1 ((hasL_cons _ _ _).2 (.inr ht))
        rw [hasL_cons] at a
        rcases a with a | a
        · have := a.2.2; omega
        · exact a
      · intro ht
        have hb := hm.behind ht
        have a := (h t).2 ((hasL_cons _ _ _).2 (.inr ht))
        rw [hasL_cons] at a
        rcases a with a | a
        · have := a.2.2; omega
        · exact a
theorem Canon.apart {l : List Sp} (h : Canon l) {a b : Sp} (ha : a ∈ l) (hb : b ∈ l) : a = b ∨ a.2 < b.1 ∨ b.2 < a.1 := by
  induction l with
  | nil => cases ha
  | cons s l ih =>
    rcases List.mem_cons.1 ha with e | ha'
    · rcases List.mem_cons.1 hb with e2 | hb'
      · exact .inl (e.trans e2.symm)
      · exact .inr (.inl (by rw [e]; exact h.2.1 b hb'))
    · rcases List.mem_cons.1 hb with e2 | hb'
      · exact .inr (.inr (by rw [e2]; exact h.2.1 a ha'))
      · exact ih h.2.2 ha' hb'
theorem Canon.one {l : List Sp} (h : Canon l) {a b : Sp} (ha : a ∈ l) (hb : b ∈ l) {t : Int} (h1 : Has a t) (h2 : Has b t) : a = b := by
  rcases h.apart ha hb with e | e | e
  · exact e
  · have := h1.2.2; have := h2.2.1; omega
  · have := h2.2.2; have := h1.2.1; omega
theorem Canon.at {l : List Sp} (h : Canon l) (i j : Nat) (hij : i < j) (hj : j < l.length) : (l[i]).2 < (l[j]).1 := by
  induction l generalizing i j with
  | nil => simp at hj
  | cons s l ih =>
    cases j with
    | zero => omega
    | succ j =>
      cases i with
      | zero => exact h.2.1 _ (by simp)
      | succ i => exact ih h.2.2 i j (by omega) (by simpa using hj)
/-! ### What one row covers -/
theorem cov_iff {n : List Sp} (hn : Canon n) (s : Sp) : (Right s → ∃ q, q ∈ n ∧ q.1 ≤ s.1 ∧ s.2 ≤ q.2) ↔ ∀ t, Has s t → HasL n t := by
  constructor
  · intro h t ht
    obtain ⟨q, hq, h1, h2⟩ := h ht.1
    have := ht.2
    exact ⟨q, hq, hn.right hq, by omega, by omega⟩
  · intro h hs
    have h1 := hs.2.1
    obtain ⟨q, hq, hqt⟩ := h s.1 ⟨hs, Int.le_refl _, h1⟩
    refine ⟨q, hq, hqt.2.1, ?_⟩
    rcases Int.lt_or_le q.2 s.2 with c | c
    · exfalso
      have hqr := hqt.1.2.1
      obtain ⟨r, hr, hrt⟩ := h q.2 ⟨hs, Int.le_of_lt hqt.2.2, c⟩
      have := hrt.2
      rcases hn.apart hq hr with e | e | e
      · subst e; omega
      · omega
      · omega
    · exact c
/-! ### Two that meet, two that are joined -/
def top (a b : Int) : Int := if a < b then b else a
def bot (a b : Int) : Int := if a < b then a else b
theorem top_eq (a b : Int) : top a b = max a b := by unfold top; split <;> omega
theorem bot_eq (a b : Int) : bot a b = min a b := by unfold bot; split <;> omega
def mid (a b : Sp) : Sp := (max a.1 b.1, min a.2 b.2)
def wide (a b : Sp) : Sp := (min a.1 b.1, max a.2 b.2)
def Meets (a b : Sp) : Prop := Right a ∧ Right b ∧ Right (mid a b)
instance (a b : Sp) : Decidable (Meets a b) := by unfold Meets; exact inferInstance
def Joins (a b : Sp) : Prop := Right a ∧ Right b ∧ b.1 ≤ a.2 ∧ a.1 ≤ b.2
instance (a b : Sp) : Decidable (Joins a b) := by unfold Joins; exact inferInstance
def meet (a b : Sp) : Sp × Bool := if Meets a b then (mid a b, true) else ((0, 0), false)
def join (a b : Sp) : Sp × Bool := if Joins a b then (wide a b, true) else ((0, 0), false)
theorem meets_iff (a b : Sp) : Meets a b ↔ Right a ∧ Right b ∧ max a.1 b.1 < min a.2 b.2 := by
  unfold Meets mid Right; constructor
  · rintro ⟨h1, h2, h3⟩; exact ⟨h1, h2, h3.2.1⟩
  · rintro ⟨h1, h2, h3⟩; refine ⟨h1, h2, ?_, h3, ?_⟩ <;> simp only <;> omega
theorem has_mid {a b : Sp} (h : Meets a b) (t : Int) : Has (mid a b) t ↔ Has a t ∧ Has b t := by
  obtain ⟨h1, h2, h3⟩ := h
  unfold Has
  constructor
  · rintro ⟨_, h4, h5⟩
    simp only [mid] at h4 h5
    exact ⟨⟨h1, by omega, by omega⟩, h2, by omega, by omega⟩
  · rintro ⟨⟨_, h4, h5⟩, _, h6, h7⟩
    refine ⟨h3, ?_, ?_⟩ <;> simp only [mid] <;> omega
theorem not_meets {a b : Sp} (h : ¬ Meets a b) (t : Int) : ¬ (Has a t ∧ Has b t) := by
  rintro ⟨⟨h1, h4, h5⟩, h2, h6, h7⟩
  exact h ((meets_iff a b).2 ⟨h1, h2, by omega⟩)
theorem zero_not (t : Int) : ¬ Has (0, 0) t := by rintro ⟨⟨_, h, _⟩, _⟩; simp at h
theorem has_meet (a b : Sp) (t : Int) : Has (meet a b).1 t ↔ Has a t ∧ Has b t := by
  unfold meet
  split
  · next h => exact has_mid h t
  · next h => exact ⟨fun h9 => absurd h9 (zero_not t), fun h9 => absurd h9 (not_meets h t)⟩
theorem wide_right {a b : Sp} (h : Joins a b) : Right (wide a b) := by
  obtain ⟨h1, h2, h3, h4⟩ := h
  unfold Right at h1 h2 ⊢
  simp only [wide]
  omega
theorem has_wide {a b : Sp} (h : Joins a b) (t : Int) : Has (wide a b) t ↔ Has a t ∨ Has b t := by
  have hw := wide_right h
  obtain ⟨h1, h2, h3, h4⟩ := h
  unfold Has
  constructor
  · rintro ⟨_, h5, h6⟩
    simp only [wide] at h5 h6
    rcases Int.lt_or_le t a.2 with c | c
    · rcases Int.lt_or_le t a.1 with d | d
      · exact .inr ⟨h2, by omega, by omega⟩
      · exact .inl ⟨h1, d, c⟩
    · exact .inr ⟨h2, by omega, by omega⟩
  · rintro (⟨_, h5, h6⟩ | ⟨_, h5, h6⟩)
    · refine ⟨hw, ?_, ?_⟩ <;> simp only [wide] <;> omega
    · refine ⟨hw, ?_, ?_⟩ <;> simp only [wide] <;> omega
/-! ### The program's row: one behind the other -/
/-- A row, and one more behind it, that may touch its last. -/
def put : List Sp → Sp → List Sp
  | [], s => [s]
  | [q], s => if q.2 < s.1 then [q, s] else [(q.1, max q.2 s.2)]
  | q :: r :: l, s => q :: put (r :: l) s
theorem put_nil (s : Sp) : put [] s = [s] := rfl
theorem put_snoc (l : List Sp) (q s : Sp) : put (l ++ [q]) s = if q.2 < s.1 then l ++ [q, s] else l ++ [(q.1, max q.2 s.2)] := by
  induction l with
  | nil => rfl
  | cons r l ih =>
    cases l with
    | nil => show r :: put [q] s = _; unfold put; split <;> rfl
    | cons p l =>
      show r :: put (p :: (l ++ [q])) s = _
      rw [show p :: (l ++ [q]) = (p :: l) ++ [q] from rfl, ih]
      split <;> rfl
theorem put_len (l : List Sp) (s : Sp) : (put l s).length ≤ l.length + 1 := by
  rcases List.eq_nil_or_concat l with rfl | ⟨l', q, rfl⟩
  · simp [put]
  · rw [List.concat_eq_append, put_snoc]; split <;> simp
theorem put_canon {l : List Sp} {s : Sp} (hl : Canon l) (hs : Right s) (hb : ∀ q, q ∈ l → q.1 ≤ s.1) :
    Canon (put l s) ∧ (∀ q, q ∈ put l s → q.1 ≤ s.1) ∧ ∀ t, HasL (put l s) t ↔ HasL l t ∨ Has s t := by
  rcases List.eq_nil_or_concat l with rfl | ⟨l', q, rfl⟩
  · refine ⟨⟨hs, by simp, trivial⟩, by simp [put], fun t => ?_⟩
    rw [put_nil, hasL_cons]; simp [hasL_nil]
  · rw [List.concat_eq_append] at hl hb ⊢
    rw [canon_app] at hl
    obtain ⟨h1, ⟨h2, _, _⟩, h3⟩ := hl
    have hq := hb q (by simp)
    have s1 := hs.2.1
    have q1 := h2.2.1
    have h3' : ∀ a, a ∈ l' → a.2 < q.1 := fun a ha => h3 a ha q (by simp)
    rw [put_snoc]
    split
    · next c =>
      refine ⟨(canon_app _ _).2 ⟨h1, ⟨h2, by simpa using c, hs, by simp, trivial⟩, ?_⟩, ?_, fun t => ?_⟩
      · intro a ha b hb2
        have := h3' a ha
        simp at hb2
        rcases hb2 with rfl | rfl
        · exact this
        · omega
      · intro a ha
        simp at ha
        rcases ha with ha | rfl | rfl
        · exact hb a (by simp [ha])
        · exact hq
        · exact Int.le_refl _
      · rw [show l' ++ [q, s] = l' ++ [q] ++ [s] by simp, hasL_app (l' ++ [q]), hasL_cons]; simp [hasL_nil]
    · next c =>
      have c' : s.1 ≤ q.2 := by omega
      have hj : Joins q s := ⟨h2, hs, c', by omega⟩
      have he : wide q s = (q.1, max q.2 s.2) := by simp only [wide]; rw [show min q.1 s.1 = q.1 by omega]
      rw [← he]
      refine ⟨(canon_app _ _).2 ⟨h1, ⟨wide_right hj, by simp, trivial⟩, ?_⟩, ?_, fun t => ?_⟩
      · intro a ha b hb2
        have := h3' a ha
        simp at hb2
        subst hb2
        rw [he]; exact this
      · intro a ha
        simp at ha
        rcases ha with ha | rfl
        · exact hb a (by simp [ha])
        · rw [he]; exact hq
      · rw [hasL_app, hasL_app, hasL_cons, hasL_cons, has_wide hj, or_assoc, or_assoc]
        simp [hasL_nil]
def puts (l : List Sp) (acc : List Sp) : List Sp := l.foldl put acc
theorem puts_canon : ∀ (l acc : List Sp), Canon acc → (∀ s, s ∈ l → Right s) → (∀ q, q ∈ acc → ∀ s, s ∈ l → q.1 ≤ s.1) → l.Pairwise (fun a b => a.1 ≤ b.1) →
    Canon (puts l acc) ∧ ∀ t, HasL (puts l acc) t ↔ HasL acc t ∨ HasL l t := by
  intro l
  induction l with
  | nil => intro acc h _ _ _; exact ⟨h, fun t => by simp [puts, hasL_nil]⟩
  | cons s l ih =>
    intro acc h hr hb hp
    obtain ⟨h1, h2, h3⟩ := put_canon h (hr s (by simp)) (fun q hq => hb q hq s (by simp))
    rw [List.pairwise_cons] at hp
    obtain ⟨i1, i2⟩ := ih (put acc s) h1 (fun r hr2 => hr r (by simp [hr2])) (fun q hq r hr2 => Int.le_trans (h2 q hq) (hp.1 r hr2)) hp.2
    refine ⟨i1, fun t => ?_⟩
    show HasL (puts l (put acc s)) t ↔ _
    rw [i2, h3, hasL_cons, or_assoc]
/-! ### The document's row: each in turn is joined with those that are there -/
/-- What of the row lies ahead, the one that grows, what of the row lies behind. -/
structure Tri where
  ah : List Sp
  s : Sp
  be : List Sp
def step (x : Tri) (r : Sp) : Tri := if Joins x.s r then ⟨x.ah, wide x.s r, x.be⟩ else if r.1 < x.s.1 then ⟨x.ah ++ [r], x.s, x.be⟩ else ⟨x.ah, x.s, x.be ++ [r]⟩
def Tri.all (x : Tri) : List Sp := x.ah ++ x.s :: x.be
def steps (l : List Sp) (x : Tri) : Tri := l.foldl step x
def add (l : List Sp) (s : Sp) : List Sp := (steps l ⟨[], s, []⟩).all
theorem step_len (x : Tri) (r : Sp) : (step x r).ah.length + (step x r).be.length ≤ x.ah.length + x.be.length + 1 := by
  unfold step; split
  · simp
  · split <;> simp <;> omega
theorem steps_canon : ∀ (l : List Sp) (x : Tri), Canon l → Right x.s → Canon x.ah → Canon x.be → (∀ q, q ∈ x.ah → q.2 < x.s.1) → (∀ q, q ∈ x.be → x.s.2 < q.1) →
    (∀ q, q ∈ x.ah → ∀ r, r ∈ l → q.2 < r.1) → (∀ q, q ∈ x.be → ∀ r, r ∈ l → q.2 < r.1) →
    Canon (steps l x).all ∧ ∀ t, HasL (steps l x).all t ↔ HasL x.all t ∨ HasL l t := by
  intro l
  induction l with
  | nil =>
    intro x _ h1 h2 h3 h4 h5 _ _
    refine ⟨?_, fun t => by simp [steps, hasL_nil]⟩
    show Canon (x.ah ++ x.s :: x.be)
    rw [canon_app]
    refine ⟨h2, ⟨h1, h5, h3⟩, fun a ha b hb => ?_⟩
    have a1 := h4 a ha
    rcases List.mem_cons.1 hb with rfl | hb
    · exact a1
    · have := h5 b hb; have := h1.2.1; omega
  | cons r l ih =>
    intro x hl h1 h2 h3 h4 h5 h6 h7
    have hr := hl.1
    have r1 := hr.2.1
    have s1 := h1.2.1
    show Canon (steps l (step x r)).all ∧ ∀ t, HasL (steps l (step x r)).all t ↔ _
    have hb6 : ∀ q, q ∈ x.ah → ∀ p, p ∈ l → q.2 < p.1 := fun q hq p hp => h6 q hq p (by simp [hp])
    have hb7 : ∀ q, q ∈ x.be → ∀ p, p ∈ l → q.2 < p.1 := fun q hq p hp => h7 q hq p (by simp [hp])
    unfold step
    split
    · next c =>
      obtain ⟨_, _, c3, c4⟩ := c
      have hj : Joins x.s r := ⟨h1, hr, c3, c4⟩
      obtain ⟨i1, i2⟩ := ih ⟨x.ah, wide x.s r, x.be⟩ hl.2.2 (wide_right hj) h2 h3
        (fun q hq => by have := h4 q hq; have := h6 q hq r (by simp); simp only [wide]; omega)
        (fun q hq => by
          have := h5 q hq
          have := h7 q hq r (by simp)
          have := (h3.right hq).2.1
          exfalso; omega) hb6 hb7
      refine ⟨i1, fun t => ?_⟩
      rw [i2, hasL_cons]
      show HasL (x.ah ++ wide x.s r :: x.be) t ∨ _ ↔ HasL (x.ah ++ x.s :: x.be) t ∨ _
      rw [hasL_app, hasL_app, hasL_cons, hasL_cons, has_wide hj]
      constructor
      · rintro ((h | (h | h) | h) | h)
        · exact .inl (.inl h)
        · exact .inl (.inr (.inl h))
        · exact .inr (.inl h)
        · exact .inl (.inr (.inr h))
        · exact .inr (.inr h)
      · rintro ((h | h | h) | h | h)
        · exact .inl (.inl h)
        · exact .inl (.inr (.inl (.inl h)))
        · exact .inl (.inr (.inr h))
        · exact .inl (.inr (.inl (.inr h)))
        · exact .inr h
    · next c =>
      have c0 : ¬ (r.1 ≤ x.s.2 ∧ x.s.1 ≤ r.2) := fun h => c ⟨h1, hr, h.1, h.2⟩
      split
      · next d =>
        have d2 : r.2 < x.s.1 := by omega
        have hbe : x.be = [] := by
          cases hx : x.be with
          | nil => rfl
          | cons q m =>
            exfalso
            have := h5 q (by rw [hx]; simp)
            have := h7 q (by rw [hx]; simp) r (by simp)
            have := (h3.right (s := q) (by rw [hx]; simp)).2.1
            omega
        obtain ⟨i1, i2⟩ := ih ⟨x.ah ++ [r], x.s, x.be⟩ hl.2.2 h1 ((canon_app _ _).2 ⟨h2, ⟨hr, by simp, trivial⟩, fun a ha b hb => by simp at hb; subst hb; exact h6 a ha b (by simp)⟩) h3
          (fun q hq => by
            simp at hq
            rcases hq with hq | rfl
            · exact h4 q hq
            · exact d2) h5
          (fun q hq p hp => by
            simp at hq
            rcases hq with hq | rfl
            · exact hb6 q hq p hp
            · exact hl.2.1 p hp) hb7
        refine ⟨i1, fun t => ?_⟩
        rw [i2, hasL_cons]
        show HasL (x.ah ++ [r] ++ x.s :: x.be) t ∨ _ ↔ HasL (x.ah ++ x.s :: x.be) t ∨ _
        rw [hasL_app, hasL_app, hasL_app, hasL_cons, hasL_cons]
        simp only [hasL_nil, or_false]
        constructor
        · rintro (((h | h) | h) | h)
          · exact .inl (.inl h)
          · exact .inr (.inl h)
          · exact .inl (.inr h)
          · exact .inr (.inr h)
        · rintro ((h | h) | h | h)
          · exact .inl (.inl (.inl h))
          · exact .inl (.inr h)
          · exact .inl (.inl (.inr h))
          · exact .inr h
      · next d =>
        have d2 : x.s.2 < r.1 := by omega
        obtain ⟨i1, i2⟩ := ih ⟨x.ah, x.s, x.be ++ [r]⟩ hl.2.2 h1 h2 ((canon_app _ _).2 ⟨h3, ⟨hr, by simp, trivial⟩, fun a ha b hb => by simp at hb; subst hb; exact h7 a ha b (by simp)⟩) h4
          (fun q hq => by
            simp at hq
            rcases hq with hq | rfl
            · exact h5 q hq
            · exact d2) hb6
          (fun q hq p hp => by
            simp at hq
            rcases hq with hq | rfl
            · exact hb7 q hq p hp
            · exact hl.2.1 p hp)
        refine ⟨i1, fun t => ?_⟩
        rw [i2, hasL_cons]
        show HasL (x.ah ++ x.s :: (x.be ++ [r])) t ∨ _ ↔ HasL (x.ah ++ x.s :: x.be) t ∨ _
        rw [hasL_app, hasL_app, hasL_cons, hasL_cons, hasL_app, hasL_cons]
        simp only [hasL_nil, or_false]
        constructor
        · rintro ((h | h | h | h) | h)
          · exact .inl (.inl h)
          · exact .inl (.inr (.inl h))
          · exact .inl (.inr (.inr h))
          · exact .inr (.inl h)
          · exact .inr (.inr h)
        · rintro ((h | h | h) | h | h)
          · exact .inl (.inl h)
          · exact .inl (.inr (.inl h))
          · exact .inl (.inr (.inr (.inl h)))
          · exact .inl (.inr (.inr (.inr h)))
          · exact .inr h
theorem add_canon {l : List Sp} {s : Sp} (hl : Canon l) (hs : Right s) : Canon (add l s) ∧ ∀ t, HasL (add l s) t ↔ Has s t ∨ HasL l t := by
  obtain ⟨h1, h2⟩ := steps_canon l ⟨[], s, []⟩ hl hs trivial trivial (by simp) (by simp) (by simp) (by simp)
  refine ⟨h1, fun t => ?_⟩
  show HasL (steps l ⟨[], s, []⟩).all t ↔ _
  rw [h2]
  show HasL ([] ++ s :: []) t ∨ _ ↔ _
  rw [List.nil_append, hasL_cons]; simp [hasL_nil]
/-- A row as few as can be, as the document has it. -/
def norm (l : List Sp) : List Sp := l.foldl (fun n s => if Right s then add n s else n) []
theorem norm_snoc (l : List Sp) (s : Sp) : norm (l ++ [s]) = if Right s then add (norm l) s else norm l := by unfold norm; rw [List.foldl_append]; rfl
theorem norm_nil : norm [] = [] := rfl
theorem norm_ok (l : List Sp) : Canon (norm l) ∧ ∀ t, HasL (norm l) t ↔ HasL l t := by
  have key : ∀ k, k ≤ l.length → Canon (norm (l.take k)) ∧ ∀ t, HasL (norm (l.take k)) t ↔ HasL (l.take k) t := by
    intro k
    induction k with
    | zero => intro _; exact ⟨trivial, fun t => by simp [norm]⟩
    | succ k ih =>
      intro hk
      obtain ⟨i1, i2⟩ := ih (by omega)
      rw [List.take_succ_eq_append_getElem (by omega), norm_snoc]
      split
      · next c =>
        obtain ⟨a1, a2⟩ := add_canon i1 c
        refine ⟨a1, fun t => ?_⟩
        rw [a2, i2, hasL_app, hasL_cons]; simp [hasL_nil, or_comm]
      · next c =>
        refine ⟨i1, fun t => ?_⟩
        rw [i2, hasL_app, hasL_cons]
        simp only [hasL_nil, or_false]
        exact ⟨.inl, fun h => h.elim id (fun h => absurd h.1 c)⟩
  have := key l.length (Nat.le_refl _)
  rwa [List.take_length] at this
theorem norm_eq {l n : List Sp} (hn : Canon n) (h : ∀ t, HasL n t ↔ HasL l t) : n = norm l := canon_ext hn (norm_ok l).1 (fun t => by rw [h, (norm_ok l).2])
theorem norm_same {l m : List Sp} (h : ∀ t, HasL l t ↔ HasL m t) : norm l = norm m := norm_eq (norm_ok l).1 (fun t => by rw [(norm_ok l).2, h])
theorem norm_again {n : List Sp} (hn : Canon n) : norm n = n := (norm_eq hn (fun _ => Iff.rfl)).symm
/-- The right ones, in any order in which their beginnings rise, put one behind the other. -/
theorem puts_norm (l r : List Sp) (hp : ∀ s, s ∈ r ↔ s ∈ l ∧ Right s) (hs : r.Pairwise (fun a b => a.1 ≤ b.1)) : puts r [] = norm l := by
  obtain ⟨h1, h2⟩ := puts_canon r [] trivial (fun s h => ((hp s).1 h).2) (by simp) hs
  refine norm_eq h1 (fun t => ?_)
  rw [h2]
  simp only [hasL_nil, false_or]
  exact hasL_mem (fun s hr => by rw [hp]; exact ⟨fun h => h.1, fun h => ⟨h, hr⟩⟩) t
/-! ### What is cut -/
def cut (a b : Sp) : List Sp := if Meets a b then norm [(a.1, (mid a b).1), ((mid a b).2, a.2)] else norm [a]
/-- As the document has it. -/
def rcut (a b : Sp) : List Sp := if Meets a b then (if a.1 < (mid a b).1 then [(a.1, (mid a b).1)] else []) ++ (if (mid a b).2 < a.2 then [((mid a b).2, a.2)] else []) else if Right a then [a] else []
theorem rcut_canon (a b : Sp) : Canon (rcut a b) := by
  unfold rcut
  split
  · next h =>
    obtain ⟨h1, h2, h3⟩ := h
    unfold Right at h1 h2 h3
    rw [canon_app]
    refine ⟨?_, ?_, ?_⟩
    · split
      · exact ⟨⟨by simp only; omega, by simp only; omega, by simp only; omega⟩, by simp, trivial⟩
      · trivial
    · split
      · exact ⟨⟨by simp only; omega, by simp only; omega, by simp only; omega⟩, by simp, trivial⟩
      · trivial
    · intro x hx y hy
      split at hx
      · split at hy
        · simp at hx hy; subst hx hy; simp only; omega
        · simp at hy
      · simp at hx
  · split
    · next h => exact ⟨h, by simp, trivial⟩
    · trivial
theorem rcut_has (a b : Sp) (t : Int) : HasL (rcut a b) t ↔ Has a t ∧ ¬ Has b t := by
  unfold rcut
  split
  · next h =>
    have hm := has_mid h t
    obtain ⟨h1, h2, h3⟩ := h
    have e1 : (mid a b).1 = max a.1 b.1 := rfl
    have e2 : (mid a b).2 = min a.2 b.2 := rfl
    rw [hasL_app]
    unfold Right at h1 h2 h3
    constructor
    · rintro (h | h)
      · split at h
        · rw [hasL_cons] at h
          simp only [hasL_nil, or_false] at h
          obtain ⟨_, h5, h6⟩ := h
          simp only at h5 h6
          exact ⟨⟨h1, h5, by omega⟩, fun h9 => by have := h9.2.1; omega⟩
        · exact absurd h (hasL_nil t)
      · split at h
        · rw [hasL_cons] at h
          simp only [hasL_nil, or_false] at h
          obtain ⟨_, h5, h6⟩ := h
          simp only at h5 h6
          exact ⟨⟨h1, by omega, h6⟩, fun h9 => by have := h9.2.2; omega⟩
        · exact absurd h (hasL_nil t)
    · rintro ⟨⟨_, h5, h6⟩, h7⟩
      rcases Int.lt_or_le t (mid a b).1 with c | c
      · left
        rw [if_pos (by omega), hasL_cons]
        exact .inl ⟨⟨by simp only; omega, by simp only; omega, by simp only; omega⟩, h5, c⟩
      · rcases Int.lt_or_le t (mid a b).2 with d | d
        · exact absurd ((has_mid (a := a) (b := b) ⟨h1, h2, h3⟩ t).1 ⟨h3, c, d⟩).2 h7
        · right
          rw [if_pos (by omega), hasL_cons]
          exact .inl ⟨⟨by simp only; omega, by simp only; omega, by simp only; omega⟩, d, h6⟩
  · next h =>
    have hm := not_meets h t
    split
    · rw [hasL_cons]
      simp only [hasL_nil, or_false]
      exact ⟨fun h9 => ⟨h9, fun h8 => hm ⟨h9, h8⟩⟩, fun h9 => h9.1⟩
    · next c => exact ⟨fun h9 => absurd h9 (hasL_nil t), fun h9 => absurd h9.1.1 c⟩
theorem cut_eq (a b : Sp) : cut a b = rcut a b := by
  unfold cut
  split
  · next h =>
    refine (norm_eq (rcut_canon a b) (fun t => ?_)).symm
    unfold rcut
    rw [if_pos h, hasL_app, hasL_cons, hasL_cons]
    simp only [hasL_nil, or_false]
    constructor
    · rintro (h9 | h9)
      · split at h9
        · rw [hasL_cons] at h9; simp only [hasL_nil, or_false] at h9; exact .inl h9
        · exact absurd h9 (hasL_nil t)
      · split at h9
        · rw [hasL_cons] at h9; simp only [hasL_nil, or_false] at h9; exact .inr h9
        · exact absurd h9 (hasL_nil t)
    · rintro (h9 | h9)
      · left; rw [if_pos h9.1.2.1, hasL_cons]; exact .inl h9
      · right; rw [if_pos h9.1.2.1, hasL_cons]; exact .inl h9
  · next h =>
    refine (norm_eq (rcut_canon a b) (fun t => ?_)).symm
    unfold rcut
    rw [if_neg h, hasL_cons]
    simp only [hasL_nil, or_false]
    split
    · rw [hasL_cons]; simp [hasL_nil]
    · next c => exact ⟨fun h9 => absurd h9 (hasL_nil t), fun h9 => absurd h9.1 c⟩
theorem rcut_len (a b : Sp) : (rcut a b).length ≤ 2 := by
  unfold rcut
  split
  · rw [List.length_append]
    have h1 : (if a.1 < (mid a b).1 then [(a.1, (mid a b).1)] else ([] : List Sp)).length ≤ 1 := by split <;> simp
    have h2 : (if (mid a b).2 < a.2 then [((mid a b).2, a.2)] else ([] : List Sp)).length ≤ 1 := by split <;> simp
    omega
  · split <;> simp
end Spn
end Go.Proofs.Ytoacombaddknfaa
