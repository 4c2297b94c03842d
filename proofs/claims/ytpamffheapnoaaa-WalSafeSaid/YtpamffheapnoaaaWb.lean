/- What is read of a log's places: records, one behind the other; what a crash leaves of them. No condition. -/
import Derived.Test.YtpamffheapnoaaaWa
namespace Go.Proofs.Ytpamffheapnoaaa
namespace Wal
/-- The place p does not go on behind the place a. -/
def bad (a p : Pl) (top : Nat) : Bool := decide (p.turn < a.turn) || decide (top < p.turn) || (a.more && (p.turn != a.turn || p.sum != a.sum))
/-- The records that the places from i on tell, each with the place behind it: k places are left, a is the place ahead, acc what it has begun. -/
def go (pl : Nat → Option Pl) (top : Nat) : Nat → Nat → Pl → List UInt8 → List (List UInt8 × Nat)
  | 0, _, _, _ => []
  | k + 1, i, a, acc => match pl i with
    | none => []
    | some p => if bad a p top then [] else if p.more then go pl top k (i + 1) p (acc ++ p.part)
      else if Crc.good (acc ++ p.part ++ p.sum) then (acc ++ p.part, i + 1) :: go pl top k (i + 1) p [] else []
theorem go_none {pl : Nat → Option Pl} {top k i : Nat} {a : Pl} {acc : List UInt8} (h : pl i = none) : go pl top k i a acc = [] := by
  cases k with
  | zero => rfl
  | succ k => unfold go; rw [h]
theorem go_bad {pl : Nat → Option Pl} {top k i : Nat} {a p : Pl} {acc : List UInt8} (h : pl i = some p) (hb : bad a p top = true) : go pl top k i a acc = [] := by
  cases k with
  | zero => rfl
  | succ k => unfold go; rw [h]; simp only; rw [if_pos hb]
theorem go_more {pl : Nat → Option Pl} {top k i : Nat} {a p : Pl} {acc : List UInt8} (h : pl i = some p) (hb : bad a p top = false) (hm : p.more = true) : go pl top (k + 1) i a acc = go pl top k (i + 1) p (acc ++ p.part) := by
  conv => lhs; unfold go
  rw [h]; simp only; rw [if_neg (by rw [hb]; decide), if_pos hm]
theorem go_last {pl : Nat → Option Pl} {top k i : Nat} {a p : Pl} {acc : List UInt8} (h : pl i = some p) (hb : bad a p top = false) (hm : p.more = false) (hg : Crc.good (acc ++ p.part ++ p.sum) = true) : go pl top (k + 1) i a acc = (acc ++ p.part, i + 1) :: go pl top k (i + 1) p [] := by
  conv => lhs; unfold go
  rw [h]; simp only; rw [if_neg (by rw [hb]; decide), if_neg (by rw [hm]; decide), if_pos hg]
theorem go_spoilt {pl : Nat → Option Pl} {top k i : Nat} {a p : Pl} {acc : List UInt8} (h : pl i = some p) (hb : bad a p top = false) (hm : p.more = false) (hg : Crc.good (acc ++ p.part ++ p.sum) = false) : go pl top k i a acc = [] := by
  cases k with
  | zero => rfl
  | succ k => unfold go; rw [h]; simp only; rw [if_neg (by rw [hb]; decide), if_neg (by rw [hm]; decide), if_neg (by rw [hg]; decide)]
/-- The state between two records. -/
def st (t : Nat) : Pl := ⟨t, false, [], []⟩
theorem go_ahead {pl : Nat → Option Pl} {top k i : Nat} {a : Pl} {acc : List UInt8} (hm : a.more = false) : go pl top k i a acc = go pl top k i (st a.turn) acc := by
  cases k with
  | zero => rfl
  | succ k =>
    have hb : ∀ p, bad a p top = bad (st a.turn) p top := fun p => by unfold bad; rw [hm]; rfl
    unfold go
    simp only [hb]
theorem go_congr {pl pl' : Nat → Option Pl} {top : Nat} : ∀ (k i : Nat) (a : Pl) (acc : List UInt8), (∀ j, i ≤ j → j < i + k → pl j = pl' j) → go pl top k i a acc = go pl' top k i a acc := by
  intro k
  induction k with
  | zero => intro _ _ _ _; rfl
  | succ k ih =>
    intro i a acc h
    unfold go
    rw [h i (Nat.le_refl _) (by omega)]
    simp only [ih (i + 1) _ _ (fun j h1 h2 => h j (by omega) (by omega))]
/-- Nothing is read of places that are all too old. -/
theorem go_old {pl : Nat → Option Pl} {top k i t : Nat} {acc : List UInt8} (h : 0 < k → ∀ p, pl i = some p → p.turn < t ∨ top < p.turn) : go pl top k i (st t) acc = [] := by
  cases k with
  | zero => rfl
  | succ k =>
    cases hp : pl i with
    | none => exact go_none hp
    | some p =>
      refine go_bad hp ?_
      unfold bad st
      rcases h (by omega) p hp with h1 | h1
      · simp [h1]
      · simp [h1]
/-! ### Records -/
/-- A record, and its turn. -/
abbrev R := Nat × List UInt8
/-- How many parts a record has. -/
def np (s : List UInt8) : Nat := (s.length - 1) / 100 + 1
def prt (t : Nat) (s : List UInt8) (j : Nat) : Pl := ⟨t, decide (j + 1 < np s), Crc.four (Crc.more 0 s), (s.drop (100 * j)).take 100⟩
def tot : List R → Nat
  | [] => 0
  | r :: X => np r.2 + tot X
def pat : List R → Nat → Option Pl
  | [], _ => none
  | r :: X, i => if i < np r.2 then some (prt r.1 r.2 i) else pat X (i - np r.2)
def ends (i : Nat) : List R → List (List UInt8 × Nat)
  | [] => []
  | r :: X => (r.2, i + np r.2) :: ends (i + np r.2) X
/-- The last turn. -/
def lt (t : Nat) : List R → Nat
  | [] => t
  | r :: X => lt r.1 X
/-- The turns do not fall, from b on to t. -/
def Mono (b : Nat) : List R → Nat → Prop
  | [], t => b ≤ t
  | r :: X, t => b ≤ r.1 ∧ Mono r.1 X t
theorem tot_app (X Y : List R) : tot (X ++ Y) = tot X + tot Y := by
  induction X with
  | nil => simp [tot]
  | cons r X ih => simp only [List.cons_append, tot, ih]; omega
theorem pat_left (X Y : List R) : ∀ i, i < tot X → pat (X ++ Y) i = pat X i := by
  induction X with
  | nil => intro i h; simp [tot] at h
  | cons r X ih =>
    intro i h
    simp only [List.cons_append, pat, tot] at h ⊢
    split
    · rfl
    · exact ih _ (by omega)
theorem pat_right (X Y : List R) : ∀ i, pat (X ++ Y) (tot X + i) = pat Y i := by
  induction X with
  | nil => intro i; simp [tot]
  | cons r X ih =>
    intro i
    simp only [List.cons_append, pat, tot]
    rw [if_neg (by omega), show np r.2 + tot X + i - np r.2 = tot X + i by omega]
    exact ih i
theorem ends_app (X Y : List R) : ∀ i, ends i (X ++ Y) = ends i X ++ ends (i + tot X) Y := by
  induction X with
  | nil => intro i; simp [ends, tot]
  | cons r X ih =>
    intro i
    simp only [List.cons_append, ends, tot, ih]
    rw [show i + np r.2 + tot X = i + (np r.2 + tot X) by omega]
theorem ends_map (X : List R) : ∀ i, (ends i X).map Prod.fst = X.map Prod.snd := by
  induction X with
  | nil => intro i; rfl
  | cons r X ih => intro i; simp only [ends, List.map_cons, ih]
theorem lt_app (X Y : List R) : ∀ t, lt t (X ++ Y) = lt (lt t X) Y := by
  induction X with
  | nil => intro t; rfl
  | cons r X ih => intro t; exact ih r.1
theorem Mono.le {X : List R} : ∀ {b t : Nat}, Mono b X t → b ≤ t := by
  induction X with
  | nil => intro b t h; exact h
  | cons r X ih => intro b t h; exact Nat.le_trans h.1 (ih h.2)
theorem Mono.lt_le {X : List R} : ∀ {b t : Nat}, Mono b X t → lt b X ≤ t := by
  induction X with
  | nil => intro b t h; exact h
  | cons r X ih => intro b t h; exact ih h.2
theorem Mono.later {X : List R} : ∀ {b t u : Nat}, Mono b X t → t ≤ u → Mono b X u := by
  induction X with
  | nil => intro b t u h hu; exact Nat.le_trans h hu
  | cons r X ih => intro b t u h hu; exact ⟨h.1, ih h.2 hu⟩
theorem Mono.app {X Y : List R} : ∀ {b t : Nat}, Mono b X t → (∀ r ∈ Y, r.1 = t) → Mono b (X ++ Y) t := by
  induction X with
  | nil =>
    intro b t h hY
    induction Y generalizing b with
    | nil => exact h
    | cons r Y ih =>
      have e := hY r (List.mem_cons_self ..)
      exact ⟨by rw [e]; exact h, ih (b := r.1) (by rw [e]; exact Nat.le_refl _) (fun x hx => hY x (List.mem_cons_of_mem _ hx))⟩
  | cons r X ih => intro b t h hY; exact ⟨h.1, ih h.2 hY⟩
theorem Mono.pat {X : List R} : ∀ {b t : Nat}, Mono b X t → ∀ i p, pat X i = some p → p.turn ≤ t := by
  induction X with
  | nil => intro b t _ i p h; cases h
  | cons r X ih =>
    intro b t h i p hp
    simp only [Wal.pat] at hp
    split at hp
    · cases hp
      exact h.2.le
    · exact ih h.2 _ _ hp
theorem lt_same {Y : List R} {t : Nat} : ∀ {b}, Y ≠ [] → (∀ r ∈ Y, r.1 = t) → lt b Y = t := by
  induction Y with
  | nil => intro b h _; exact absurd rfl h
  | cons r Y ih =>
    intro b _ hY
    have e := hY r (List.mem_cons_self ..)
    cases Y with
    | nil => exact e
    | cons r' Y => exact ih (b := t) (by simp) (fun x hx => hY x (List.mem_cons_of_mem _ hx))
theorem pat_some (X : List R) : ∀ i, i < tot X → ∃ p, pat X i = some p := by
  induction X with
  | nil => intro i h; simp [tot] at h
  | cons r X ih =>
    intro i h
    simp only [tot] at h
    unfold pat
    split
    · exact ⟨_, rfl⟩
    · exact ih _ (by omega)
theorem np_pos (s : List UInt8) : 1 ≤ np s := by unfold np; omega
theorem np_len (s : List UInt8) : s.length ≤ 100 * np s := by unfold np; omega
theorem part_len {t : Nat} {s : List UInt8} {j : Nat} : (prt t s j).part.length ≤ 100 := by simp [prt]; omega
theorem part_full {t : Nat} {s : List UInt8} {j : Nat} (h : (prt t s j).more = true) : (prt t s j).part.length = 100 := by
  have h1 : j + 1 < np s := by simpa [prt] using h
  unfold np at h1
  simp only [prt, List.length_take, List.length_drop]
  omega
/-- The place ahead goes with a record. -/
def okA (a : Pl) (t : Nat) (s : List UInt8) : Prop := a.turn ≤ t ∧ (a.more = true → a.turn = t ∧ a.sum = Crc.four (Crc.more 0 s))
theorem okA_prt (t : Nat) (s : List UInt8) (j : Nat) : okA (prt t s j) t s := ⟨Nat.le_refl _, fun _ => ⟨rfl, rfl⟩⟩
theorem okA_st {u t : Nat} (h : u ≤ t) (s : List UInt8) : okA (st u) t s := ⟨h, fun e => by cases e⟩
theorem bad_ok {a : Pl} {t top : Nat} {s : List UInt8} (h : okA a t s) (ht : t ≤ top) (j : Nat) : bad a (prt t s j) top = false := by
  unfold bad
  have h1 : ¬ (prt t s j).turn < a.turn := by have := h.1; show ¬ t < a.turn; omega
  have h2 : ¬ top < (prt t s j).turn := by show ¬ top < t; omega
  cases hm : a.more with
  | false => simp [h1, h2]
  | true =>
    obtain ⟨e1, e2⟩ := h.2 hm
    have h3 : (prt t s j).turn = a.turn := e1.symm
    have h4 : (prt t s j).sum = a.sum := e2.symm
    rw [h3, h4]
    simp
    omega
theorem put_good (s : List UInt8) : Crc.good (s ++ Crc.four (Crc.more 0 s)) = true := Crc.good_put s
theorem take_more (s : List UInt8) (j : Nat) : s.take (100 * j) ++ (s.drop (100 * j)).take 100 = s.take (100 * (j + 1)) := by
  rw [show 100 * (j + 1) = 100 * j + 100 by omega, List.take_add]
/-- The rest of a record that is there. -/
theorem go_rest {pl : Nat → Option Pl} {top t i : Nat} {s : List UInt8} (ht : t ≤ top) (hp : ∀ j, j < np s → pl (i + j) = some (prt t s j)) :
    ∀ (m j k : Nat) (a : Pl), j + (m + 1) = np s → okA a t s → m + 1 ≤ k → go pl top k (i + j) a (s.take (100 * j)) = (s, i + np s) :: go pl top (k - (m + 1)) (i + np s) (st t) [] := by
  intro m
  induction m with
  | zero =>
    intro j k a hj ha hk
    obtain ⟨k, rfl⟩ : ∃ k', k = k' + 1 := ⟨k - 1, by omega⟩
    have hmore : (prt t s j).more = false := by simp [prt]; omega
    have hs : s.take (100 * j) ++ (prt t s j).part = s := by
      show s.take (100 * j) ++ (s.drop (100 * j)).take 100 = s
      rw [take_more, List.take_of_length_le]
      have := np_len s
      rw [← hj] at this
      exact this
    rw [go_last (hp j (by omega)) (bad_ok ha ht j) hmore (by rw [hs]; exact put_good s), hs, show i + j + 1 = i + np s by omega, go_ahead hmore]
    rfl
  | succ m ih =>
    intro j k a hj ha hk
    obtain ⟨k, rfl⟩ : ∃ k', k = k' + 1 := ⟨k - 1, by omega⟩
    have hmore : (prt t s j).more = true := by simp [prt]; omega
    rw [go_more (hp j (by omega)) (bad_ok ha ht j) hmore]
    have := ih (j + 1) k (prt t s j) (by omega) (okA_prt t s j) (by omega)
    rw [show s.take (100 * j) ++ (prt t s j).part = s.take (100 * (j + 1)) from take_more s j, show i + j + 1 = i + (j + 1) by omega, this, show k + 1 - (m + 1 + 1) = k - (m + 1) by omega]
theorem go_rec {pl : Nat → Option Pl} {top t u i k : Nat} {s : List UInt8} (ht : t ≤ top) (hu : u ≤ t) (hp : ∀ j, j < np s → pl (i + j) = some (prt t s j)) (hk : np s ≤ k) :
    go pl top k i (st u) [] = (s, i + np s) :: go pl top (k - np s) (i + np s) (st t) [] := by
  have h1 := np_pos s
  have := go_rest ht hp (np s - 1) 0 k (st u) (by omega) (okA_st hu s) (by omega)
  rw [show np s - 1 + 1 = np s by omega] at this
  simpa using this
/-- A record, of which a later part is an old one, is none. -/
theorem go_torn {pl : Nat → Option Pl} {top t i q : Nat} {s : List UInt8} (ht : t ≤ top) (hq : q < np s) (hp : ∀ j, j < q → pl (i + j) = some (prt t s j)) (ho : ∀ p, pl (i + q) = some p → p.turn < t) :
    ∀ (m j k : Nat) (a : Pl) (acc : List UInt8), j + m = q → okA a t s → (m = 0 → a.turn = t) → go pl top k (i + j) a acc = [] := by
  intro m
  induction m with
  | zero =>
    intro j k a acc hj ha hm
    have hjq : j = q := by omega
    subst hjq
    cases hpl : pl (i + j) with
    | none => exact go_none hpl
    | some p =>
      refine go_bad hpl ?_
      have h1 := ho p hpl
      have h2 := hm rfl
      unfold bad
      have h3 : p.turn < a.turn := by omega
      simp [h3]
  | succ m ih =>
    intro j k a acc hj ha hm
    cases k with
    | zero => rfl
    | succ k =>
      have hmore : (prt t s j).more = true := by simp [prt]; omega
      rw [go_more (hp j (by omega)) (bad_ok ha ht j) hmore, show i + j + 1 = i + (j + 1) by omega]
      exact ih (j + 1) k _ _ (by omega) (okA_prt t s j) (fun _ => rfl)
/-- Records that are there are read. -/
theorem go_recs {pl : Nat → Option Pl} {top : Nat} : ∀ (A : List R) (b i k : Nat), Mono b A top → tot A ≤ k → (∀ j, j < tot A → pl (i + j) = pat A j) →
    go pl top k i (st b) [] = ends i A ++ go pl top (k - tot A) (i + tot A) (st (lt b A)) [] := by
  intro A
  induction A with
  | nil => intro b i k _ _ _; simp [ends, tot, lt]
  | cons r A ih =>
    intro b i k hm hk hp
    simp only [tot] at hk hp
    have h1 : ∀ j, j < np r.2 → pl (i + j) = some (prt r.1 r.2 j) := fun j hj => by
      rw [hp j (by omega)]
      unfold pat
      rw [if_pos hj]
    rw [go_rec hm.2.le hm.1 h1 (by omega), ih r.1 (i + np r.2) (k - np r.2) hm.2 (by omega) (fun j hj => by
      rw [show i + np r.2 + j = i + (np r.2 + j) by omega, hp (np r.2 + j) (by omega)]
      show (if np r.2 + j < np r.2 then _ else pat A (np r.2 + j - np r.2)) = _
      rw [if_neg (by omega), show np r.2 + j - np r.2 = j by omega])]
    simp only [ends, tot, lt, List.cons_append]
    rw [show k - np r.2 - tot A = k - (np r.2 + tot A) by omega, show i + np r.2 + tot A = i + (np r.2 + tot A) by omega]
/-- Where nothing was read of old places, nothing is read when some of them are new ones. -/
theorem go_mixed {pl pl' : Nat → Option Pl} {t : Nat} : ∀ (k i : Nat) (a : Pl) (acc : List UInt8), (∀ j, i ≤ j → j < i + k → ∀ p, pl j = some p → p.turn < t) →
    (∀ j, i ≤ j → j < i + k → pl' j = pl j ∨ ∃ p, pl' j = some p ∧ p.turn = t) → go pl (t - 1) k i a acc = [] → (0 < k → pl' i = pl i ∨ (a.more = true ∧ a.turn < t)) → go pl' t k i a acc = [] := by
  intro k
  induction k with
  | zero => intro _ _ _ _ _ _ _; rfl
  | succ k ih =>
    intro i a acc hold hmix h hat
    have hcase : pl' i = pl i ∨ (∃ p, pl' i = some p ∧ p.turn = t ∧ a.more = true ∧ a.turn < t) := by
      rcases hat (by omega) with h1 | h1
      · exact .inl h1
      · rcases hmix i (Nat.le_refl _) (by omega) with h2 | ⟨p, h2, h3⟩
        · exact .inl h2
        · exact .inr ⟨p, h2, h3, h1⟩
    rcases hcase with h1 | ⟨p, h1, h2, h3, h4⟩
    · cases hp : pl i with
      | none => exact go_none (h1.trans hp)
      | some p =>
        have hpt := hold i (Nat.le_refl _) (by omega) p hp
        have hbb : bad a p t = bad a p (t - 1) := by
          unfold bad
          have e1 : ¬ t < p.turn := by omega
          have e2 : ¬ t - 1 < p.turn := by omega
          simp [e1, e2]
        cases hb : bad a p t with
        | true => exact go_bad (h1.trans hp) hb
        | false =>
          have hb' : bad a p (t - 1) = false := by rw [← hbb]; exact hb
          cases hm : p.more with
          | true =>
            rw [go_more (h1.trans hp) hb hm]
            rw [go_more hp hb' hm] at h
            exact ih (i + 1) p _ (fun j h1 h2 => hold j (by omega) (by omega)) (fun j h1 h2 => hmix j (by omega) (by omega)) h (fun _ => .inr ⟨hm, hpt⟩)
          | false =>
            cases hg : Crc.good (acc ++ p.part ++ p.sum) with
            | true => rw [go_last hp hb' hm hg] at h; cases h
            | false => exact go_spoilt (h1.trans hp) hb hm hg
    · refine go_bad h1 ?_
      unfold bad
      have e1 : p.turn ≠ a.turn := by omega
      simp [h3, e1]
theorem least (P : Nat → Prop) : ∀ n, (∀ j, j < n → P j) ∨ ∃ q, q < n ∧ ¬ P q ∧ ∀ j, j < q → P j := by
  intro n
  induction n with
  | zero => exact .inl (fun j h => by omega)
  | succ n ih =>
    rcases ih with h | ⟨q, h1, h2, h3⟩
    · by_cases hn : P n
      · exact .inl (fun j hj => by
          rcases Nat.lt_or_ge j n with h1 | h1
          · exact h j h1
          · rwa [show j = n by omega])
      · exact .inr ⟨n, by omega, hn, h⟩
    · exact .inr ⟨q, by omega, h2, h3⟩
/-- What is read of records of this turn, of which some parts may be lost: the first ones. -/
theorem go_first {pl : Nat → Option Pl} {t : Nat} : ∀ (B : List R) (i k : Nat), (∀ r ∈ B, r.1 = t) → tot B ≤ k → (∀ j, i ≤ j → j < i + k → pl j = (if j < i + tot B then pat B (j - i) else none) ∨ ∀ p, pl j = some p → p.turn < t) →
    ∃ m, m ≤ B.length ∧ go pl t k i (st t) [] = ends i (B.take m) ∧ go pl t (k - tot (B.take m)) (i + tot (B.take m)) (st t) [] = [] ∧ (∀ j, j < tot (B.take m) → pl (i + j) = pat B j) := by
  intro B
  induction B with
  | nil =>
    intro i k _ _ hp
    have h1 : go pl t k i (st t) [] = [] := go_old (fun hk p h => .inl (by
      rcases hp i (Nat.le_refl _) (by omega) with h2 | h2
      · rw [if_neg (by simp [tot]), h] at h2; cases h2
      · exact h2 p h))
    exact ⟨0, Nat.le_refl _, h1, by simpa [tot] using h1, fun j hj => by simp [tot] at hj⟩
  | cons r B ih =>
    intro i k hr hk hp
    obtain ⟨u, s⟩ := r
    have hu : u = t := hr _ (List.mem_cons_self ..)
    subst hu
    have htot : tot ((u, s) :: B) = np s + tot B := rfl
    have hnp := np_pos s
    have hfst : ∀ j, j < np s → pl (i + j) = some (prt u s j) ∨ ∀ p, pl (i + j) = some p → p.turn < u := fun j hj => by
      rcases hp (i + j) (by omega) (by omega) with h | h
      · left
        rw [h, if_pos (by omega), show i + j - i = j by omega]
        unfold pat
        rw [if_pos hj]
      · exact .inr h
    rcases least (fun j => pl (i + j) = some (prt u s j)) (np s) with hall | ⟨q, hq, hnq, hlt⟩
    · obtain ⟨m, hm, h1, h2, h3⟩ := ih (i + np s) (k - np s) (fun r hr' => hr r (List.mem_cons_of_mem _ hr')) (by omega) (fun j h1 h2 => by
        rcases hp j (by omega) (by omega) with h | h
        · left
          rw [h]
          by_cases hj : j < i + np s + tot B
          · rw [if_pos (by omega), if_pos hj]
            show (if j - i < np s then _ else pat B (j - i - np s)) = _
            rw [if_neg (by omega), show j - i - np s = j - (i + np s) by omega]
          · rw [if_neg (by omega), if_neg hj]
        · exact .inr h)
      refine ⟨m + 1, by simpa using hm, ?_, ?_, ?_⟩
      · rw [go_rec (Nat.le_refl _) (Nat.le_refl _) hall (by omega), h1]
        rfl
      · simp only [List.take_succ_cons, tot]
        rw [show k - (np s + tot (B.take m)) = k - np s - tot (B.take m) by omega, show i + (np s + tot (B.take m)) = i + np s + tot (B.take m) by omega]
        exact h2
      · intro j hj
        simp only [List.take_succ_cons, tot] at hj
        unfold pat
        by_cases hjn : j < np s
        · rw [if_pos hjn]; exact hall j hjn
        · rw [if_neg hjn, show i + j = i + np s + (j - np s) by omega]
          exact h3 _ (by omega)
    · have hold : ∀ p, pl (i + q) = some p → p.turn < u := by
        rcases hfst q hq with h | h
        · exact absurd h hnq
        · exact h
      have h0 : go pl u k i (st u) [] = [] := go_torn (Nat.le_refl _) hq hlt hold q 0 k (st u) [] (by omega) (okA_st (Nat.le_refl _) s) (fun _ => rfl)
      exact ⟨0, Nat.zero_le _, h0, by simpa [tot] using h0, fun j hj => by simp [tot] at hj⟩
/-- So it is behind records that are there, if nothing was read of the old places behind them. -/
theorem go_crash {pl pl' : Nat → Option Pl} {b t n : Nat} {A B : List R} (hm : Mono b A t) (hB : ∀ r ∈ B, r.1 = t) (hroom : tot A + tot B ≤ n) (ht : 1 ≤ t)
    (hA : ∀ j, j < tot A → pl' j = pat A j) (hold : ∀ j, tot A ≤ j → j < n → ∀ p, pl j = some p → p.turn < t)
    (hmix : ∀ j, tot A ≤ j → j < n → pl' j = pl j ∨ (j < tot A + tot B ∧ pl' j = pat B (j - tot A)))
    (hstop : go pl (t - 1) (n - tot A) (tot A) (st (lt b A)) [] = []) :
    ∃ m, m ≤ B.length ∧ go pl' t n 0 (st b) [] = ends 0 (A ++ B.take m) ∧ go pl' t (n - tot (A ++ B.take m)) (tot (A ++ B.take m)) (st (lt b (A ++ B.take m))) [] = [] ∧ (∀ j, j < tot (A ++ B.take m) → pl' j = pat (A ++ B.take m) j) := by
  have h1 := go_recs (pl := pl') A b 0 n hm (by omega) (fun j hj => by rw [Nat.zero_add]; exact hA j hj)
  rw [Nat.zero_add] at h1
  have hpart : ∀ j, tot A ≤ j → j < tot A + (n - tot A) → pl' j = (if j < tot A + tot B then pat B (j - tot A) else none) ∨ ∀ p, pl' j = some p → p.turn < t := fun j h2 h3 => by
    rcases hmix j h2 (by omega) with h | ⟨h4, h⟩
    · right; rw [h]; exact hold j h2 (by omega)
    · left; rw [if_pos h4]; exact h
  have key : ∃ m, m ≤ B.length ∧ go pl' t (n - tot A) (tot A) (st (lt b A)) [] = ends (tot A) (B.take m) ∧ go pl' t (n - tot A - tot (B.take m)) (tot A + tot (B.take m)) (st (lt (lt b A) (B.take m))) [] = [] ∧ (∀ j, j < tot (B.take m) → pl' (tot A + j) = pat B j) := by
    have turnB : ∀ j p, pat B j = some p → p.turn = t := fun j p hp => by
      clear hmix hpart hroom
      induction B generalizing j with
      | nil => cases hp
      | cons r B ih =>
        unfold pat at hp
        split at hp
        · cases hp; exact hB r (List.mem_cons_self ..)
        · exact ih (fun r hr => hB r (List.mem_cons_of_mem _ hr)) _ hp
    have hzero : (0 < n - tot A → pl' (tot A) = pl (tot A)) → go pl' t (n - tot A) (tot A) (st (lt b A)) [] = [] := fun h0 =>
      go_mixed (n - tot A) (tot A) (st (lt b A)) [] (fun j h2 h3 => hold j h2 (by omega)) (fun j h2 h3 => by
        rcases hmix j h2 (by omega) with h | ⟨h4, h⟩
        · exact .inl h
        · obtain ⟨p, hp⟩ := pat_some B (j - tot A) (by omega)
          exact .inr ⟨p, h.trans hp, turnB _ _ hp⟩) hstop (fun hk => .inl (h0 hk))
    cases B with
    | nil =>
      have h0 := hzero (fun hk => by
        rcases hmix (tot A) (Nat.le_refl _) (by omega) with h | ⟨h4, _⟩
        · exact h
        · simp [tot] at h4)
      exact ⟨0, Nat.le_refl _, h0, by simpa [tot, lt] using h0, fun j hj => by simp [tot] at hj⟩
    | cons r B =>
      obtain ⟨u, s⟩ := r
      have hu : u = t := hB _ (List.mem_cons_self ..)
      subst hu
      have hnp := np_pos s
      have htot : tot ((u, s) :: B) = np s + tot B := rfl
      rcases least (fun j => pl' (tot A + j) = some (prt u s j)) (np s) with hall | ⟨q, hq, hnq, hlt⟩
      · obtain ⟨m, hm2, g1, g2, g3⟩ := go_first (pl := pl') B (tot A + np s) (n - tot A - np s) (fun r hr => hB r (List.mem_cons_of_mem _ hr)) (by omega) (fun j h2 h3 => by
          rcases hpart j (by omega) (by omega) with h | h
          · left
            rw [h]
            by_cases hj : j < tot A + np s + tot B
            · rw [if_pos (by omega), if_pos hj]
              show (if j - tot A < np s then _ else pat B (j - tot A - np s)) = _
              rw [if_neg (by omega), show j - tot A - np s = j - (tot A + np s) by omega]
            · rw [if_neg (by omega), if_neg hj]
          · exact .inr h)
        refine ⟨m + 1, by simpa using hm2, ?_, ?_, ?_⟩
        · rw [go_rec (Nat.le_refl _) (hm.lt_le) hall (by omega), g1]
          rfl
        · simp only [List.take_succ_cons, tot, lt]
          rw [show n - tot A - (np s + tot (B.take m)) = n - tot A - np s - tot (B.take m) by omega, show tot A + (np s + tot (B.take m)) = tot A + np s + tot (B.take m) by omega]
          have hlt : lt u (B.take m) = u := by
            by_cases hne : B.take m = []
            · rw [hne]; rfl
            · exact lt_same hne (fun r hr => hB r (List.mem_cons_of_mem _ (List.mem_of_mem_take hr)))
          rw [hlt]
          exact g2
        · intro j hj
          simp only [List.take_succ_cons, tot] at hj
          unfold pat
          by_cases hjn : j < np s
          · rw [if_pos hjn]; exact hall j hjn
          · rw [if_neg hjn, show tot A + j = tot A + np s + (j - np s) by omega]
            exact g3 _ (by omega)
      · have hne : ¬ (pl' (tot A + q) = pat ((u, s) :: B) q) := fun e => hnq (by rw [e]; unfold pat; rw [if_pos hq])
        have hpq : pl' (tot A + q) = pl (tot A + q) := by
          rcases hmix (tot A + q) (by omega) (by omega) with h | ⟨_, h⟩
          · exact h
          · rw [show tot A + q - tot A = q by omega] at h; exact absurd h hne
        have h0 : go pl' u (n - tot A) (tot A) (st (lt b A)) [] = [] := by
          cases q with
          | zero => exact hzero (fun _ => hpq)
          | succ q =>
            have h2 := go_torn (pl := pl') (top := u) (t := u) (i := tot A) (q := q + 1) (s := s) (Nat.le_refl _) hq hlt (fun p hp => hold (tot A + (q + 1)) (by omega) (by omega) p (hpq ▸ hp)) (q + 1) 0 (n - tot A) (st (lt b A)) [] (by omega) (okA_st hm.lt_le s) (fun e => by omega)
            simpa using h2
        exact ⟨0, Nat.zero_le _, h0, by simpa [tot, lt] using h0, fun j hj => by simp [tot] at hj⟩
  obtain ⟨m, hmB, k1, k2, k3⟩ := key
  refine ⟨m, hmB, ?_, ?_, ?_⟩
  · rw [h1, k1, ends_app, Nat.zero_add]
  · rw [tot_app, lt_app, show n - (tot A + tot (B.take m)) = n - tot A - tot (B.take m) by omega]
    exact k2
  · intro j hj
    rw [tot_app] at hj
    by_cases hjA : j < tot A
    · rw [hA j hjA, pat_left _ _ j hjA]
    · have e : j = tot A + (j - tot A) := by omega
      rw [e, pat_right, k3 _ (by omega)]
      have : pat (B.take m ++ B.drop m) (j - tot A) = pat (B.take m) (j - tot A) := pat_left _ _ _ (by omega)
      rwa [List.take_append_drop] at this
end Wal
end Go.Proofs.Ytpamffheapnoaaa
