/- What is read of a log's places: records, one behind the other; what a crash leaves of them. No condition. -/
import Derived.Test.YtmccnlffikegfaaGreatDoorZWa
import Derived.Test.YtmccnlffikegfaaGreatDoorZDk
namespace Go.Proofs.YtmccnlffikegfaaGreatDoor
namespace Wal
/-- The place p does not go on behind the place a. -/
def bad (a p : Pl) (top : Nat) : Bool := decide (p.turn < a.turn) || decide (top < p.turn) || (a.more && (p.turn != a.turn || p.sum != a.sum))
/-- The records that the places from i on tell, each with the place behind it: k places are left, a is the place ahead, acc what it has begun. -/
def go (pl : Nat → Option Pl) (top : Nat) : Nat → Nat → Pl → List UInt8 → List (List UInt8 × Nat)
  | 0, _, _, _ => []
  | k + 1, i, a, acc => match pl i with
    | none => []
    | some p => if bad a p top then [] else if p.more then go pl top k (i + 1) p (acc ++ p.part)
      else if Crc.good (acc ++ p.part ++ p.sum) then (acc ++ p.part, i + 1) :: go pl top k (i + 1) p [] else []
theorem go_none {pl : Nat → Option Pl} {top k i : Nat} {a : Pl} {acc : List UInt8} (h : pl i = none) : go pl top k i a acc = [] := by
  cases k with
  | zero => rfl
  | succ k => unfold go; rw [h]
theorem go_bad {pl : Nat → Option Pl} {top k i : Nat} {a p : Pl} {acc : List UInt8} (h : pl i = some p) (hb : bad a p top = true) : go pl top k i a acc = [] := by
  cases k with
  | zero => rfl
  | succ k => unfold go; rw [h]; simp only; rw [if_pos hb]
theorem go_more {pl : Nat → Option Pl} {top k i : Nat} {a p : Pl} {acc : List UInt8} (h : pl i = some p) (hb : bad a p top = false) (hm : p.more = true) : go pl top (k + 1) i a acc = go pl top k (i + 1) p (acc ++ p.part) := by
  conv => lhs; unfold go
  rw [h]; simp only; rw [if_neg (by rw [hb]; decide), if_pos hm]
theorem go_last {pl : Nat → Option Pl} {top k i : Nat} {a p : Pl} {acc : List UInt8} (h : pl i = some p) (hb : bad a p top = false) (hm : p.more = false) (hg : Crc.good (acc ++ p.part ++ p.sum) = true) : go pl top (k + 1) i a acc = (acc ++ p.part, i + 1) :: go pl top k (i + 1) p [] := by
  conv => lhs; unfold go
  rw [h]; simp only; rw [if_neg (by rw [hb]; decide), if_neg (by rw [hm]; decide), if_pos hg]
theorem go_spoilt {pl : Nat → Option Pl} {top k i : Nat} {a p : Pl} {acc : List UInt8} (h : pl i = some p) (hb : bad a p top = false) (hm : p.more = false) (hg : Crc.good (acc ++ p.part ++ p.sum) = false) : go pl top k i a acc = [] := by
  cases k with
  | zero => rfl
  | succ k => unfold go; rw [h]; simp only; rw [if_neg (by rw [hb]; decide), if_neg (by rw [hm]; decide), if_neg (by rw [hg]; decide)]
/-- The state between two records. -/
def st (t : Nat) : Pl := ⟨t, false, [], []⟩
theorem go_ahead {pl : Nat → Option Pl} {top k i : Nat} {a : Pl} {acc : List UInt8} (hm : a.more = false) : go pl top k i a acc = go pl top k i (st a.turn) acc := by
  cases k with
  | zero => rfl
  | succ k =>
    have hb : ∀ p, bad a p top = bad (st a.turn) p top := fun p => by unfold bad; rw [hm]; rfl
    unfold go
    simp only [hb]
theorem go_congr {pl pl' : Nat → Option Pl} {top : Nat} : ∀ (k i : Nat) (a : Pl) (acc : List UInt8), (∀ j, i ≤ j → j < i + k → pl j = pl' j) → go pl top k i a acc = go pl' top k i a acc := by
  intro k
  induction k with
  | zero => intro _ _ _ _; rfl
  | succ k ih =>
    intro i a acc h
    unfold go
    rw [h i (Nat.le_refl _) (by omega)]
    simp only [ih (i + 1) _ _ (fun j h1 h2 => h j (by omega) (by omega))]
/-- Nothing is read of places that are all too old. -/
theorem go_old {pl : Nat → Option Pl} {top k i t : Nat} {acc : List UInt8} (h : 0 < k → ∀ p, pl i = some p → p.turn < t ∨ top < p.turn) : go pl top k i (st t) acc = [] := by
  cases k with
  | zero => rfl
  | succ k =>
    cases hp : pl i with
    | none => exact go_none hp
    | some p =>
      refine go_bad hp ?_
      unfold bad st
      rcases h (by omega) p hp with h1 | h1
      · simp [h1]
      · simp [h1]
/-! ### Records -/
/-- A record, and its turn. -/
abbrev R := Nat × List UInt8
/-- How many parts a record has. -/
def np (s : List UInt8) : Nat := (s.length - 1) / 100 + 1
def prt (t : Nat) (s : List UInt8) (j : Nat) : Pl := ⟨t, decide (j + 1 < np s), Crc.four (Crc.more 0 s), (s.drop (100 * j)).take 100⟩
def tot : List R → Nat
  | [] => 0
  | r :: X => np r.2 + tot X
def pat : List R → Nat → Option Pl
  | [], _ => none
  | r :: X, i => if i < np r.2 then some (prt r.1 r.2 i) else pat X (i - np r.2)
def ends (i : Nat) : List R → List (List UInt8 × Nat)
  | [] => []
  | r :: X => (r.2, i + np r.2) :: ends (i + np r.2) X
/-- The last turn. -/
def lt (t : Nat) : List R → Nat
  | [] => t
  | r :: X => lt r.1 X
/-- The turns do not fall, from b on to t. -/
def Mono (b : Nat) : List R → Nat → Prop
  | [], t => b ≤ t
  | r :: X, t => b ≤ r.1 ∧ Mono r.1 X t
theorem tot_app (X Y : List R) : tot (X ++ Y) = tot X + tot Y := by
  induction X with
  | nil => simp [tot]
  | cons r X ih => simp only [List.cons_append, tot, ih]; omega
theorem pat_left (X Y : List R) : ∀ i, i < tot X → pat (X ++ Y) i = pat X i := by
  induction X with
  | nil => intro i h; simp [tot] at h
  | cons r X ih =>
    intro i h
    simp only [List.cons_append, pat, tot] at h ⊢
    split
    · rfl
    · exact ih _ (by omega)
theorem pat_right (X Y : List R) : ∀ i, pat (X ++ Y) (tot X + i) = pat Y i := by
  induction X with
  | nil => intro i; simp [tot]
  | cons r X ih =>
    intro i
    simp only [List.cons_append, pat, tot]
    rw [if_neg (by omega), show np r.2 + tot X + i - np r.2 = tot X + i by omega]
    exact ih i
theorem ends_app (X Y : List R) : ∀ i, ends i (X ++ Y) = ends i X ++ ends (i + tot X) Y := by
  induction X with
  | nil => intro i; simp [ends, tot]
  | cons r X ih =>
    intro i
    simp only [List.cons_append, ends, tot, ih]
    rw [show i + np r.2 + tot X = i + (np r.2 + tot X) by omega]
theorem ends_map (X : List R) : ∀ i, (ends i X).map Prod.fst = X.map Prod.snd := by
  induction X with
  | nil => intro i; rfl
  | cons r X ih => intro i; simp only [ends, List.map_cons, ih]
theorem lt_app (X Y : List R) : ∀ t, lt t (X ++ Y) = lt (lt t X) Y := by
  induction X with
  | nil => intro t; rfl
  | cons r X ih => intro t; exact ih r.1
theorem Mono.le {X : List R} : ∀ {b t : Nat}, Mono b X t → b ≤ t := by
  induction X with
  | nil => intro b t h; exact h
  | cons r X ih => intro b t h; exact Nat.le_trans h.1 (ih h.2)
theorem Mono.lt_le {X : List R} : ∀ {b t : Nat}, Mono b X t → lt b X ≤ t := by
  induction X with
  | nil => intro b t h; exact h
  | cons r X ih => intro b t h; exact ih h.2
theorem Mono.later {X : List R} : ∀ {b t u : Nat}, Mono b X t → t ≤ u → Mono b X u := by
  induction X with
  | nil => intro b t u h hu; exact Nat.le_trans h hu
  | cons r X ih => intro b t u h hu; exact ⟨h.1, ih h.2 hu⟩
theorem Mono.app {X Y : List R} : ∀ {b t : Nat}, Mono b X t → (∀ r ∈ Y, r.1 = t) → Mono b (X ++ Y) t := by
  induction X with
  | nil =>
    intro b t h hY
    induction Y generalizing b with
    | nil => exact h
    | cons r Y ih =>
      have e := hY r (List.mem_cons_self ..)
      exact ⟨by rw [e]; exact h, ih (b := r.1) (by rw [e]; exact Nat.le_refl _) (fun x hx => hY x (List.mem_cons_of_mem _ hx))⟩
  | cons r X ih => intro b t h hY; exact ⟨h.1, ih h.2 hY⟩
theorem Mono.pat {X : List R} : ∀ {b t : Nat}, Mono b X t → ∀ i p, pat X i = some p → p.turn ≤ t := by
  induction X with
  | nil => intro b t _ i p h; cases h
  | cons r X ih =>
    intro b t h i p hp
    simp only [Wal.pat] at hp
    split at hp
    · cases hp
      exact h.2.le
    · exact ih h.2 _ _ hp
theorem lt_same {Y : List R} {t : Nat} : ∀ {b}, Y ≠ [] → (∀ r ∈ Y, r.1 = t) → lt b Y = t := by
  induction Y with
  | nil => intro b h _; exact absurd rfl h
  | cons r Y ih =>
    intro b _ hY
    have e := hY r (List.mem_cons_self ..)
    cases Y with
    | nil => exact e
    | cons r' Y => exact ih (b := t) (by simp) (fun x hx => hY x (List.mem_cons_of_mem _ hx))
theorem pat_some (X : List R) : ∀ i, i < tot X → ∃ p, pat X i = some p := by
  induction X with
  | nil => intro i h; simp [tot] at h
  | cons r X ih =>
    intro i h
    simp only [tot] at h
    unfold pat
    split
    · exact ⟨_, rfl⟩
    · exact ih _ (by omega)
theorem np_pos (s : List UInt8) : 1 ≤ np s := by unfold np; omega
theorem np_len (s : List UInt8) : s.length ≤ 100 * np s := by unfold np; omega
theorem part_len {t : Nat} {s : List UInt8} {j : Nat} : (prt t s j).part.length ≤ 100 := by simp [prt]; omega
theorem part_full {t : Nat} {s : List UInt8} {j : Nat} (h : (prt t s j).more = true) : (prt t s j).part.length = 100 := by
  have h1 : j + 1 < np s := by simpa [prt] using h
  unfold np at h1
  simp only [prt, List.length_take, List.length_drop]
  omega
/-- The place ahead goes with a record. -/
def okA (a : Pl) (t : Nat) (s : List UInt8) : Prop := a.turn ≤ t ∧ (a.more = true → a.turn = t ∧ a.sum = Crc.four (Crc.more 0 s))
theorem okA_prt (t : Nat) (s : List UInt8) (j : Nat) : okA (prt t s j) t s := ⟨Nat.le_refl _, fun _ => ⟨rfl, rfl⟩⟩
theorem okA_st {u t : Nat} (h : u ≤ t) (s : List UInt8) : okA (st u) t s := ⟨h, fun e => by cases e⟩
theorem bad_ok {a : Pl} {t top : Nat} {s : List UInt8} (h : okA a t s) (ht : t ≤ top) (j : Nat) : bad a (prt t s j) top = false := by
  unfold bad
  have h1 : ¬ (prt t s j).turn < a.turn := by have := h.1; show ¬ t < a.turn; omega
  have h2 : ¬ top < (prt t s j).turn := by show ¬ top < t; omega
  cases hm : a.more with
  | false => simp [h1, h2]
  | true =>
    obtain ⟨e1, e2⟩ := h.2 hm
    have h3 : (prt t s j).turn = a.turn := e1.symm
    have h4 : (prt t s j).sum = a.sum := e2.symm
    rw [h3, h4]
    simp
    omega
theorem put_good (s : List UInt8) : Crc.good (s ++ Crc.four (Crc.more 0 s)) = true := Crc.good_put s
theorem take_more (s : List UInt8) (j : Nat) : s.take (100 * j) ++ (s.drop (100 * j)).take 100 = s.take (100 * (j + 1)) := by
  rw [show 100 * (j + 1) = 100 * j + 100 by omega, List.take_add]
/-- The rest of a record that is there. -/
theorem go_rest {pl : Nat → Option Pl} {top t i : Nat} {s : List UInt8} (ht : t ≤ top) (hp : ∀ j, j < np s → pl (i + j) = some (prt t s j)) :
    ∀ (m j k : Nat) (a : Pl), j + (m + 1) = np s → okA a t s → m + 1 ≤ k → go pl top k (i + j) a (s.take (100 * j)) = (s, i + np s) :: go pl top (k - (m + 1)) (i + np s) (st t) [] := by
  intro m
  induction m with
  | zero =>
    intro j k a hj ha hk
    obtain ⟨k, rfl⟩ : ∃ k', k = k' + 1 := ⟨k - 1, by omega⟩
    have hmore : (prt t s j).more = false := by simp [prt]; omega
    have hs : s.take (100 * j) ++ (prt t s j).part = s := by
      show s.take (100 * j) ++ (s.drop (100 * j)).take 100 = s
      rw [take_more, List.take_of_length_le]
      have := np_len s
      rw [← hj] at this
      exact this
    rw [go_last (hp j (by omega)) (bad_ok ha ht j) hmore (by rw [hs]; exact put_good s), hs, show i + j + 1 = i + np s by omega, go_ahead hmore]
    rfl
  | succ m ih =>
    intro j k a hj ha hk
    obtain ⟨k, rfl⟩ : ∃ k', k = k' + 1 := ⟨k - 1, by omega⟩
    have hmore : (prt t s j).more = true := by simp [prt]; omega
    rw [go_more (hp j (by omega)) (bad_ok ha ht j) hmore]
    have := ih (j + 1) k (prt t s j) (by omega) (okA_prt t s j) (by omega)
    rw [show s.take (100 * j) ++ (prt t s j).part = s.take (100 * (j + 1)) from take_more s j, show i + j + 1 = i + (j + 1) by omega, this, show k + 1 - (m + 1 + 1) = k - (m + 1) by omega]
theorem go_rec {pl : Nat → Option Pl} {top t u i k : Nat} {s : List UInt8} (ht : t ≤ top) (hu : u ≤ t) (hp : ∀ j, j < np s → pl (i + j) = some (prt t s j)) (hk : np s ≤ k) :
    go pl top k i (st u) [] = (s, i + np s) :: go pl top (k - np s) (i + np s) (st t) [] := by
  have h1 := np_pos s
  have := go_rest ht hp (np s - 1) 0 k (st u) (by omega) (okA_st hu s) (by omega)
  rw [show np s - 1 + 1 = np s by omega] at this
  simpa using this
/-- A record, of which a later part is an old one, is none. -/
theorem go_torn {pl : Nat → Option Pl} {top t i q : Nat} {s : List UInt8} (ht : t ≤ top) (hq : q < np s) (hp : ∀ j, j < q → pl (i + j) = some (prt t s j)) (ho : ∀ p, pl (i + q) = some p → p.turn < t) :
    ∀ (m j k : Nat) (a : Pl) (acc : List UInt8), j + m = q → okA a t s → (m = 0 → a.turn = t) → go pl top k (i + j) a acc = [] := by
  intro m
  induction m with
  | zero =>
    intro j k a acc hj ha hm
    have hjq : j = q := by omega
    subst hjq
    cases hpl : pl (i + j) with
    | none => exact go_none hpl
    | some p =>
      refine go_bad hpl ?_
      have h1 := ho p hpl
      have h2 := hm rfl
      unfold bad
      have h3 : p.turn < a.turn := by omega
      simp [h3]
  | succ m ih =>
    intro j k a acc hj ha hm
    cases k with
    | zero => rfl
    | succ k =>
      have hmore : (prt t s j).more = true := by simp [prt]; omega
      rw [go_more (hp j (by omega)) (bad_ok ha ht j) hmore, show i + j + 1 = i + (j + 1) by omega]
      exact ih (j + 1) k _ _ (by omega) (okA_prt t s j) (fun _ => rfl)
/-- Records that are there are read. -/
theorem go_recs {pl : Nat → Option Pl} {top : Nat} : ∀ (A : List R) (b i k : Nat), Mono b A top → tot A ≤ k → (∀ j, j < tot A → pl (i + j) = pat A j) →
    go pl top k i (st b) [] = ends i A ++ go pl top (k - tot A) (i + tot A) (st (lt b A)) [] := by
  intro A
  induction A with
  | nil => intro b i k _ _ _; simp [ends, tot, lt]
  | cons r A ih =>
    intro b i k hm hk hp
    simp only [tot] at hk hp
    have h1 : ∀ j, j < np r.2 → pl (i + j) = some (prt r.1 r.2 j) := fun j hj => by
      rw [hp j (by omega)]
      unfold pat
      rw [if_pos hj]
    rw [go_rec hm.2.le hm.1 h1 (by omega), ih r.1 (i + np r.2) (k - np r.2) hm.2 (by omega) (fun j hj => by
      rw [show i + np r.2 + j = i + (np r.2 + j) by omega, hp (np r.2 + j) (by omega)]
      show (if np r.2 + j < np r.2 then _ else pat A (np r.2 + j - np r.2)) = _
      rw [if_neg (by omega), show np r.2 + j - np r.2 = j by omega])]
    simp only [ends, tot, lt, List.cons_append]
    rw [show k - np r.2 - tot A = k - (np r.2 + tot A) by omega, show i + np r.2 + tot A = i + (np r.2 + tot A) by omega]
/-- Where nothing was read of old places, nothing is read when some of them are new ones. -/
theorem go_mixed {pl pl' : Nat → Option Pl} {t : Nat} : ∀ (k i : Nat) (a : Pl) (acc : List UInt8), (∀ j, i ≤ j → j < i + k → ∀ p, pl j = some p → p.turn < t) →
    (∀ j, i ≤ j → j < i + k → pl' j = pl j ∨ ∃ p, pl' j = some p ∧ p.turn = t) → go pl (t - 1) k i a acc = [] → (0 < k → pl' i = pl i ∨ (a.more = true ∧ a.turn < t)) → go pl' t k i a acc = [] := by
  intro k
  induction k with
  | zero => intro _ _ _ _ _ _ _; rfl
  | succ k ih =>
    intro i a acc hold hmix h hat
    have hcase : pl' i = pl i ∨ (∃ p, pl' i = some p ∧ p.turn = t ∧ a.more = true ∧ a.turn < t) := by
      rcases hat (by omega) with h1 | h1
      · exact .inl h1
      · rcases hmix i (Nat.le_refl _) (by omega) with h2 | ⟨p, h2, h3⟩
        · exact .inl h2
        · exact .inr ⟨p, h2, h3, h1⟩
    rcases hcase with h1 | ⟨p, h1, h2, h3, h4⟩
    · cases hp : pl i with
      | none => exact go_none (h1.trans hp)
      | some p =>
        have hpt := hold i (Nat.le_refl _) (by omega) p hp
        have hbb : bad a p t = bad a p (t - 1) := by
          unfold bad
          have e1 : ¬ t < p.turn := by omega
          have e2 : ¬ t - 1 < p.turn := by omega
          simp [e1, e2]
        cases hb : bad a p t with
        | true => exact go_bad (h1.trans hp) hb
        | false =>
          have hb' : bad a p (t - 1) = false := by rw [← hbb]; exact hb
          cases hm : p.more with
          | true =>
            rw [go_more (h1.trans hp) hb hm]
            rw [go_more hp hb' hm] at h
            exact ih (i + 1) p _ (fun j h1 h2 => hold j (by omega) (by omega)) (fun j h1 h2 => hmix j (by omega) (by omega)) h (fun _ => .inr ⟨hm, hpt⟩)
          | false =>
            cases hg : Crc.good (acc ++ p.part ++ p.sum) with
            | true => rw [go_last hp hb' hm hg] at h; cases h
            | false => exact go_spoilt (h1.trans hp) hb hm hg
    · refine go_bad h1 ?_
      unfold bad
      have e1 : p.turn ≠ a.turn := by omega
      simp [h3, e1]
theorem least (P : Nat → Prop) : ∀ n, (∀ j, j < n → P j) ∨ ∃ q, q < n ∧ ¬ P q ∧ ∀ j, j < q → P j := by
  intro n
  induction n with
  | zero => exact .inl (fun j h => by omega)
  | succ n ih =>
    rcases ih with h | ⟨q, h1, h2, h3⟩
    · by_cases hn : P n
      · exact .inl (fun j hj => by
          rcases Nat.lt_or_ge j n with h1 | h1
          · exact h j h1
          · rwa [show j = n by omega])
      · exact .inr ⟨n, by omega, hn, h⟩
    · exact .inr ⟨q, by omega, h2, h3⟩
/-- What is read of records of this turn, of which some parts may be lost: the first ones. -/
theorem go_first {pl : Nat → Option Pl} {t : Nat} : ∀ (B : List R) (i k : Nat), (∀ r ∈ B, r.1 = t) → tot B ≤ k → (∀ j, i ≤ j → j < i + k → pl j = (if j < i + tot B then pat B (j - i) else none) ∨ ∀ p, pl j = some p → p.turn < t) →
    ∃ m, m ≤ B.length ∧ go pl t k i (st t) [] = ends i (B.take m) ∧ go pl t (k - tot (B.take m)) (i + tot (B.take m)) (st t) [] = [] ∧ (∀ j, j < tot (B.take m) → pl (i + j) = pat B j) := by
  intro B
  induction B with
  | nil =>
    intro i k _ _ hp
    have h1 : go pl t k i (st t) [] = [] := go_old (fun hk p h => .inl (by
      rcases hp i (Nat.le_refl _) (by omega) with h2 | h2
      · rw [if_neg (by simp [tot]), h] at h2; cases h2
      · exact h2 p h))
    exact ⟨0, Nat.le_refl _, h1, by simpa [tot] using h1, fun j hj => by simp [tot] at hj⟩
  | cons r B ih =>
    intro i k hr hk hp
    obtain ⟨u, s⟩ := r
    have hu : u = t := hr _ (List.mem_cons_self ..)
    subst hu
    have htot : tot ((u, s) :: B) = np s + tot B := rfl
    have hnp := np_pos s
    have hfst : ∀ j, j < np s → pl (i + j) = some (prt u s j) ∨ ∀ p, pl (i + j) = some p → p.turn < u := fun j hj => by
      rcases hp (i + j) (by omega) (by omega) with h | h
      · left
        rw [h, if_pos (by omega), show i + j - i = j by omega]
        unfold pat
        rw [if_pos hj]
      · exact .inr h
    rcases least (fun j => pl (i + j) = some (prt u s j)) (np s) with hall | ⟨q, hq, hnq, hlt⟩
    · obtain ⟨m, hm, h1, h2, h3⟩ := ih (i + np s) (k - np s) (fun r hr' => hr r (List.mem_cons_of_mem _ hr')) (by omega) (fun j h1 h2 => by
        rcases hp j (by omega) (by omega) with h | h
        · left
          rw [h]
          by_cases hj : j < i + np s + tot B
          · rw [if_pos (by omega), if_pos hj]
            show (if j - i < np s then _ else pat B (j - i - np s)) = _
            rw [if_neg (by omega), show j - i - np s = j - (i + np s) by omega]
          · rw [if_neg (by omega), if_neg hj]
        · exact .inr h)
      refine ⟨m + 1, by simpa using hm, ?_, ?_, ?_⟩
      · rw [go_rec (Nat.le_refl _) (Nat.le_refl _) hall (by omega), h1]
        rfl
      · simp only [List.take_succ_cons, tot]
        rw [show k - (np s + tot (B.take m)) = k - np s - tot (B.take m) by omega, show i + (np s + tot (B.take m)) = i + np s + tot (B.take m) by omega]
        exact h2
      · intro j hj
        simp only [List.take_succ_cons, tot] at hj
        unfold pat
        by_cases hjn : j < np s
        · rw [if_pos hjn]; exact hall j hjn
        · rw [if_neg hjn, show i + j = i + np s + (j - np s) by omega]
          exact h3 _ (by omega)
    · have hold : ∀ p, pl (i + q) = some p → p.turn < u := by
        rcases hfst q hq with h | h
        · exact absurd h hnq
        · exact h
      have h0 : go pl u k i (st u) [] = [] := go_torn (Nat.le_refl _) hq hlt hold q 0 k (st u) [] (by omega) (okA_st (Nat.le_refl _) s) (fun _ => rfl)
      exact ⟨0, Nat.zero_le _, h0, by simpa [tot] using h0, fun j hj => by simp [tot] at hj⟩
/-- So it is behind records that are there, if nothing was read of the old places behind them. -/
theorem go_crash {pl pl' : Nat → Option Pl} {b t n : Nat} {A B : List R} (hm : Mono b A t) (hB : ∀ r ∈ B, r.1 = t) (hroom : tot A + tot B ≤ n) (ht : 1 ≤ t)
    (hA : ∀ j, j < tot A → pl' j = pat A j) (hold : ∀ j, tot A ≤ j → j < n → ∀ p, pl j = some p → p.turn < t)
    (hmix : ∀ j, tot A ≤ j → j < n → pl' j = pl j ∨ (j < tot A + tot B ∧ pl' j = pat B (j - tot A)))
    (hstop : go pl (t - 1) (n - tot A) (tot A) (st (lt b A)) [] = []) :
    ∃ m, m ≤ B.length ∧ go pl' t n 0 (st b) [] = ends 0 (A ++ B.take m) ∧ go pl' t (n - tot (A ++ B.take m)) (tot (A ++ B.take m)) (st (lt b (A ++ B.take m))) [] = [] ∧ (∀ j, j < tot (A ++ B.take m) → pl' j = pat (A ++ B.take m) j) := by
  have h1 := go_recs (pl := pl') A b 0 n hm (by omega) (fun j hj => by rw [Nat.zero_add]; exact hA j hj)
  rw [Nat.zero_add] at h1
  have hpart : ∀ j, tot A ≤ j → j < tot A + (n - tot A) → pl' j = (if j < tot A + tot B then pat B (j - tot A) else none) ∨ ∀ p, pl' j = some p → p.turn < t := fun j h2 h3 => by
    rcases hmix j h2 (by omega) with h | ⟨h4, h⟩
    · right; rw [h]; exact hold j h2 (by omega)
    · left; rw [if_pos h4]; exact h
  have key : ∃ m, m ≤ B.length ∧ go pl' t (n - tot A) (tot A) (st (lt b A)) [] = ends (tot A) (B.take m) ∧ go pl' t (n - tot A - tot (B.take m)) (tot A + tot (B.take m)) (st (lt (lt b A) (B.take m))) [] = [] ∧ (∀ j, j < tot (B.take m) → pl' (tot A + j) = pat B j) := by
    have turnB : ∀ j p, pat B j = some p → p.turn = t := fun j p hp => by
      clear hmix hpart hroom
      induction B generalizing j with
      | nil => cases hp
      | cons r B ih =>
        unfold pat at hp
        split at hp
        · cases hp; exact hB r (List.mem_cons_self ..)
        · exact ih (fun r hr => hB r (List.mem_cons_of_mem _ hr)) _ hp
    have hzero : (0 < n - tot A → pl' (tot A) = pl (tot A)) → go pl' t (n - tot A) (tot A) (st (lt b A)) [] = [] := fun h0 =>
      go_mixed (n - tot A) (tot A) (st (lt b A)) [] (fun j h2 h3 => hold j h2 (by omega)) (fun j h2 h3 => by
        rcases hmix j h2 (by omega) with h | ⟨h4, h⟩
        · exact .inl h
        · obtain ⟨p, hp⟩ := pat_some B (j - tot A) (by omega)
          exact .inr ⟨p, h.trans hp, turnB _ _ hp⟩) hstop (fun hk => .inl (h0 hk))
    cases B with
    | nil =>
      have h0 := hzero (fun hk => by
        rcases hmix (tot A) (Nat.le_refl _) (by omega) with h | ⟨h4, _⟩
        · exact h
        · simp [tot] at h4)
      exact ⟨0, Nat.le_refl _, h0, by simpa [tot, lt] using h0, fun j hj => by simp [tot] at hj⟩
    | cons r B =>
      obtain ⟨u, s⟩ := r
      have hu : u = t := hB _ (List.mem_cons_self ..)
      subst hu
      have hnp := np_pos s
      have htot : tot ((u, s) :: B) = np s + tot B := rfl
      rcases least (fun j => pl' (tot A + j) = some (prt u s j)) (np s) with hall | ⟨q, hq, hnq, hlt⟩
      · obtain ⟨m, hm2, g1, g2, g3⟩ := go_first (pl := pl') B (tot A + np s) (n - tot A - np s) (fun r hr => hB r (List.mem_cons_of_mem _ hr)) (by omega) (fun j h2 h3 => by
          rcases hpart j (by omega) (by omega) with h | h
          · left
            rw [h]
            by_cases hj : j < tot A + np s + tot B
            · rw [if_pos (by omega), if_pos hj]
              show (if j - tot A < np s then _ else pat B (j - tot A - np s)) = _
              rw [if_neg (by omega), show j - tot A - np s = j - (tot A + np s) by omega]
            · rw [if_neg (by omega), if_neg hj]
          · exact .inr h)
        refine ⟨m + 1, by simpa using hm2, ?_, ?_, ?_⟩
        · rw [go_rec (Nat.le_refl _) (hm.lt_le) hall (by omega), g1]
          rfl
        · simp only [List.take_succ_cons, tot, lt]
          rw [show n - tot A - (np s + tot (B.take m)) = n - tot A - np s - tot (B.take m) by omega, show tot A + (np s + tot (B.take m)) = tot A + np s + tot (B.take m) by omega]
          have hlt : lt u (B.take m) = u := by
            by_cases hne : B.take m = []
            · rw [hne]; rfl
            · exact lt_same hne (fun r hr => hB r (List.mem_cons_of_mem _ (List.mem_of_mem_take hr)))
          rw [hlt]
          exact g2
        · intro j hj
          simp only [List.take_succ_cons, tot] at hj
          unfold pat
          by_cases hjn : j < np s
          · rw [if_pos hjn]; exact hall j hjn
          · rw [if_neg hjn, show tot A + j = tot A + np s + (j - np s) by omega]
            exact g3 _ (by omega)
      · have hne : ¬ (pl' (tot A + q) = pat ((u, s) :: B) q) := fun e => hnq (by rw [e]; unfold pat; rw [if_pos hq])
        have hpq : pl' (tot A + q) = pl (tot A + q) := by
          rcases hmix (tot A + q) (by omega) (by omega) with h | ⟨_, h⟩
          · exact h
          · rw [show tot A + q - tot A = q by omega] at h; exact absurd h hne
        have h0 : go pl' u (n - tot A) (tot A) (st (lt b A)) [] = [] := by
          cases q with
          | zero => exact hzero (fun _ => hpq)
          | succ q =>
            have h2 := go_torn (pl := pl') (top := u) (t := u) (i := tot A) (q := q + 1) (s := s) (Nat.le_refl _) hq hlt (fun p hp => hold (tot A + (q + 1)) (by omega) (by omega) p (hpq ▸ hp)) (q + 1) 0 (n - tot A) (st (lt b A)) [] (by omega) (okA_st hm.lt_le s) (fun e => by omega)
            simpa using h2
        exact ⟨0, Nat.zero_le _, h0, by simpa [tot, lt] using h0, fun j hj => by simp [tot] at hj⟩
  obtain ⟨m, hmB, k1, k2, k3⟩ := key
  refine ⟨m, hmB, ?_, ?_, ?_⟩
  · rw [h1, k1, ends_app, Nat.zero_add]
  · rw [tot_app, lt_app, show n - (tot A + tot (B.take m)) = n - tot A - tot (B.take m) by omega]
    exact k2
  · intro j hj
    rw [tot_app] at hj
    by_cases hjA : j < tot A
    · rw [hA j hjA, pat_left _ _ j hjA]
    · have e : j = tot A + (j - tot A) := by omega
      rw [e, pat_right, k3 _ (by omega)]
      have : pat (B.take m ++ B.drop m) (j - tot A) = pat (B.take m) (j - tot A) := pat_left _ _ _ (by omega)
      rwa [List.take_append_drop] at this
end Wal
end Go.Proofs.YtmccnlffikegfaaGreatDoor
/- A log on a disk, plain: what its sectors are in a life, what a crash leaves of them, what the next life begins with. No condition. -/
namespace Go.Proofs.YtmccnlffikegfaaGreatDoor
open Go.RowKit
namespace Wal
open Dsk (PD Wt upd upd_same upd_other pad undoW redo zeros)
theorem undoW_write (f : Int → List UInt8) (cs : List Wt) (p : Nat) (a : List UInt8) : undoW (upd f p a) (cs ++ [⟨p, a, f p⟩]) = undoW f cs := by
  unfold undoW
  rw [List.reverse_append]
  show List.foldl _ (upd (upd f p a) (p : Int) (f p)) cs.reverse = _
  congr 1
  funext j
  by_cases hj : j = (p : Int)
  · rw [hj, upd_same]
  · rw [upd_other _ _ _ _ hj, upd_other _ _ _ _ hj]
theorem redo_mem (j : Int) : ∀ (l : List (Wt × Bool)) (f : Int → List UInt8), (l.foldl (fun f p => if p.2 then upd f p.1.pos p.1.laid else f) f) j = f j ∨ ∃ p ∈ l, (p.1.pos : Int) = j ∧ (l.foldl (fun f p => if p.2 then upd f p.1.pos p.1.laid else f) f) j = p.1.laid := by
  intro l
  induction l with
  | nil => intro f; exact .inl rfl
  | cons p l ih =>
    intro f
    rw [List.foldl_cons]
    rcases ih (if p.2 = true then upd f p.1.pos p.1.laid else f) with h | ⟨q, hq, h1, h2⟩
    · rw [h]
      by_cases hp : p.2 = true
      · rw [if_pos hp]
        by_cases hj : j = (p.1.pos : Int)
        · right
          exact ⟨p, List.mem_cons_self .., hj.symm, by rw [hj, upd_same]⟩
        · left; rw [upd_other _ _ _ _ hj]
      · left; rw [if_neg hp]
    · exact .inr ⟨q, List.mem_cons_of_mem _ hq, h1, h2⟩
theorem crash_at (d : PD) (ks : List Bool) (q : Int) : (d.crash ks).f q = undoW d.f d.cs q ∨ ∃ x ∈ d.cs, (x.pos : Int) = q ∧ (d.crash ks).f q = x.laid := by
  rcases redo_mem q (d.cs.zip ks) (undoW d.f d.cs) with e | ⟨p, hp, h1, h2⟩
  · exact .inl e
  · exact .inr ⟨p.1, (List.of_mem_zip hp).1, h1, h2⟩
theorem fold_other (q : Int) : ∀ (l : List Wt) (f : Int → List UInt8), (∀ x ∈ l, (x.pos : Int) ≠ q) → (l.foldl (fun f x => upd f x.pos x.had) f) q = f q := by
  intro l
  induction l with
  | nil => intro f _; rfl
  | cons x l ih =>
    intro f h
    rw [List.foldl_cons, ih _ (fun y hy => h y (List.mem_cons_of_mem _ hy)), upd_other _ _ _ _ (fun e => h x (List.mem_cons_self ..) e.symm)]
theorem undo_other {f : Int → List UInt8} {cs : List Wt} {q : Int} (h : ∀ x ∈ cs, (x.pos : Int) ≠ q) : undoW f cs q = f q := by
  unfold undoW
  exact fold_other q _ f (fun x hx => h x (List.mem_reverse.1 hx))
/-- What the place i tells. -/
def plF (F : Nat) (f : Int → List UInt8) (i : Nat) : Option Pl := plP (f ((F + 2 + i : Nat) : Int)) i
def slF (F : Nat) (f : Int → List UInt8) : Nat × Nat := gr (slotP (f (F : Int))) (slotP (f ((F + 1 : Nat) : Int)))
theorem plF_congr {F i : Nat} {f g : Int → List UInt8} (h : f ((F + 2 + i : Nat) : Int) = g ((F + 2 + i : Nat) : Int)) : plF F f i = plF F g i := by unfold plF; rw [h]
/-- The slot of the turn t. -/
def slot (F t : Nat) : Nat := F + t % 2
theorem slot_set {F t b b' : Nat} {f : Int → List UInt8} (h : slF F f = (t, b)) (hb : b' ≤ t + 1) (ht : t + 1 ≤ 1099511627776) : slF F (upd f (slot F (t + 1) : Nat) (pad (sealB (sbody (t + 1) b')))) = (t + 1, b') := by
  obtain ⟨h1, h2⟩ := gr_le h
  have hs : slotP (pad (sealB (sbody (t + 1) b'))) = (t + 1, b') := slotP_body ht hb _
  unfold slF slot
  rcases Nat.mod_two_eq_zero_or_one (t + 1) with e | e
  · rw [e, Nat.add_zero, upd_same, hs, upd_other _ _ _ _ (by omega)]
    exact gr_left (by omega) (by omega)
  · rw [e, upd_same, hs, upd_other _ _ _ _ (by omega)]
    exact gr_right (by omega)
theorem slot_pl {F t i : Nat} {f : Int → List UInt8} {s : List UInt8} : plF F (upd f (slot F t : Nat) s) i = plF F f i :=
  plF_congr (upd_other _ _ _ _ (by unfold slot; omega))
/-- The sectors of a log of n places at F, at rest: they tell the turn t, the base b and the records A; nothing is read behind them. -/
structure Cn (F n t b : Nat) (f : Int → List UInt8) (A : List R) : Prop where
  slots : slF F f = (t, b)
  all : ∀ i, i < n → ∀ p, plF F f i = some p → p.turn ≤ t
  a1 : ∀ i, i < tot A → plF F f i = pat A i
  stop : go (plF F f) t (n - tot A) (tot A) (st (lt b A)) [] = []
  mono : Mono b A t
  room : tot A ≤ n
/-- The disk of a life, whose turn is t: A is there for sure, B may be lost. -/
structure Bd (F n t b : Nat) (d : PD) (A B : List R) : Prop where
  one : 1 ≤ t
  slots : slF F (undoW d.f d.cs) = (t, b)
  a1 : ∀ i, i < tot A → plF F (undoW d.f d.cs) i = pat A i
  cs : ∀ x ∈ d.cs, ∃ i, i < tot B ∧ x.pos = F + 2 + (tot A + i) ∧ plP x.laid (tot A + i) = pat B i
  old : ∀ i, tot A ≤ i → i < n → ∀ p, plF F (undoW d.f d.cs) i = some p → p.turn < t
  stop : go (plF F (undoW d.f d.cs)) (t - 1) (n - tot A) (tot A) (st (lt b A)) [] = []
  mono : Mono b A t
  all : ∀ r ∈ B, r.1 = t
  room : tot A + tot B ≤ n
/-- So it is while the log lives. -/
structure Life (F n t b : Nat) (d : PD) (A B : List R) : Prop where
  bd : Bd F n t b d A B
  cur : ∀ i, i < tot B → plF F d.f (tot A + i) = pat B i
section
variable {F n t b : Nat} {d : PD} {f : Int → List UInt8} {A B : List R}
theorem Cn.new (F n N : Nat) : Cn F n 0 0 (PD.new N).f [] := by
  have hz : ∀ i, plF F (PD.new N).f i = none := fun i => plP_zeros i
  refine ⟨?_, fun i _ p h => ?_, fun i h => ?_, ?_, Nat.le_refl _, Nat.zero_le _⟩
  · show gr (slotP zeros) (slotP zeros) = (0, 0)
    rw [show slotP zeros = (0, 0) from slotP_zeros]; rfl
  · rw [hz] at h; cases h
  · simp [tot] at h
  · exact go_none (hz _)
/-- The next life. -/
theorem Cn.opened (h : Cn F n t b f A) (hb : b ≤ t) (ht : t + 1 ≤ 1099511627776) (hf : d.f = upd f (slot F (t + 1) : Nat) (pad (sealB (sbody (t + 1) b)))) (hc : d.cs = []) : Life F n (t + 1) b d A [] := by
  have hu : undoW d.f d.cs = d.f := by rw [hc]; rfl
  have hp : ∀ i, plF F d.f i = plF F f i := fun i => by rw [hf]; exact slot_pl
  refine ⟨⟨by omega, ?_, fun i hi => ?_, fun x hx => ?_, fun i _ hi p h1 => ?_, ?_, h.mono.later (by omega), fun r hr => (nomatch hr), by have := h.room; simp [tot]; omega⟩, fun i hi => by simp [tot] at hi⟩
  · rw [hu, hf]; exact slot_set h.slots (by omega) ht
  · rw [hu, hp]; exact h.a1 i hi
  · rw [hc] at hx; cases hx
  · rw [hu, hp] at h1; have := h.all i hi p h1; omega
  · rw [hu, show t + 1 - 1 = t by omega, go_congr (pl' := plF F f) _ _ _ _ (fun j _ _ => hp j)]
    exact h.stop
theorem Bd.record (h : Bd F n t b d A B) (s : List UInt8) (hr : tot A + tot B + np s ≤ n) : Bd F n t b d A (B ++ [(t, s)]) := by
  have htt : tot (B ++ [(t, s)]) = tot B + np s := by rw [tot_app]; rfl
  refine ⟨h.one, h.slots, h.a1, fun x hx => ?_, h.old, h.stop, h.mono, fun r hr => ?_, by rw [htt]; omega⟩
  · obtain ⟨i, h1, h2, h3⟩ := h.cs x hx
    exact ⟨i, by rw [htt]; omega, h2, by rw [h3, pat_left _ _ _ h1]⟩
  · rcases List.mem_append.1 hr with hr | hr
    · exact h.all r hr
    · rw [List.mem_singleton.1 hr]
/-- What is written for the part j. -/
def wrote (d : PD) (F t u : Nat) (s : List UInt8) (j : Nat) : PD := (d.write (F + 2 + (u + j)) (sealB ((prt t s j).body (u + j)))).burn
theorem place_said {t u j : Nat} {s : List UInt8} (ht : t ≤ 1099511627776) (hu : u + j ≤ 1000) : plP (pad (sealB ((prt t s j).body (u + j)))) (u + j) = some (prt t s j) :=
  plP_body ht hu rfl part_len part_full _
theorem pat_new {s : List UInt8} {j : Nat} (hj : j < np s) : pat (B ++ [(t, s)]) (tot B + j) = some (prt t s j) := by
  rw [pat_right]
  unfold pat
  rw [if_pos hj]
theorem Bd.wrote {s : List UInt8} {j u : Nat} (h : Bd F n t b d A (B ++ [(t, s)])) (hj : j < np s) (hu : u = tot A + tot B) (ht : t ≤ 1099511627776) (hn : n ≤ 1000) : Bd F n t b (wrote d F t u s j) A (B ++ [(t, s)]) := by
  have hroom := h.room
  have htt : tot (B ++ [(t, s)]) = tot B + np s := by rw [tot_app]; rfl
  rw [htt] at hroom
  have hun : undoW (Wal.wrote d F t u s j).f (Wal.wrote d F t u s j).cs = undoW d.f d.cs := undoW_write d.f d.cs _ _
  refine ⟨h.one, by rw [hun]; exact h.slots, fun i hi => by rw [hun]; exact h.a1 i hi, fun x hx => ?_, fun i h1 h2 p hp => by rw [hun] at hp; exact h.old i h1 h2 p hp, by rw [hun]; exact h.stop, h.mono, h.all, h.room⟩
  have hx : x ∈ d.cs ++ [⟨F + 2 + (u + j), pad (sealB ((prt t s j).body (u + j))), d.f (F + 2 + (u + j) : Nat)⟩] := hx
  rcases List.mem_append.1 hx with hx | hx
  · exact h.cs x hx
  · rw [List.mem_singleton.1 hx]
    have hpl := place_said (t := t) (u := u) (j := j) (s := s) ht (by omega)
    refine ⟨tot B + j, by rw [htt]; omega, ?_, ?_⟩
    · show F + 2 + (u + j) = F + 2 + (tot A + (tot B + j))
      omega
    · rw [pat_new hj, show tot A + (tot B + j) = u + j by omega]
      exact hpl
theorem cur_wrote {s : List UInt8} {j u : Nat} (h : ∀ i, i < tot B + j → plF F d.f (tot A + i) = pat (B ++ [(t, s)]) i) (hj : j < np s) (hu : u = tot A + tot B) (ht : t ≤ 1099511627776) (hn : u + j ≤ 1000) :
    ∀ i, i < tot B + (j + 1) → plF F (wrote d F t u s j).f (tot A + i) = pat (B ++ [(t, s)]) i := by
  intro i hi
  by_cases he : i = tot B + j
  · rw [he, pat_new hj, ← Nat.add_assoc, ← hu]
    show plP (upd d.f _ _ _) _ = _
    rw [upd_same]
    exact place_said ht hn
  · rw [← h i (by omega)]
    exact plF_congr (upd_other _ _ _ _ (by omega))
theorem Life.start (h : Life F n t b d A B) (s : List UInt8) : ∀ i, i < tot B + 0 → plF F d.f (tot A + i) = pat (B ++ [(t, s)]) i := fun i hi => by
  rw [h.cur i (by omega), pat_left _ _ _ (by omega)]
/-- Where nothing was written. -/
theorem Bd.same (h : Bd F n t b d A B) {q : Int} (hq : q < (F + 2 + tot A : Nat) ∨ (F + 2 + tot A + tot B : Nat) ≤ q) : undoW d.f d.cs q = d.f q := undo_other fun x hx e => by
  obtain ⟨i, h1, h2, _⟩ := h.cs x hx
  rw [h2] at e
  omega
theorem Bd.slot_same (h : Bd F n t b d A B) : slF F d.f = (t, b) := by
  rw [← h.slots]
  unfold slF
  rw [h.same (q := (F : Int)) (.inl (by omega)), h.same (q := ((F + 1 : Nat) : Int)) (.inl (by omega))]
theorem Bd.pl_left (h : Bd F n t b d A B) (i : Nat) (hi : i < tot A) : plF F d.f i = pat A i := by
  rw [← h.a1 i hi]
  exact plF_congr (h.same (.inl (by omega))).symm
theorem Bd.pl_right (h : Bd F n t b d A B) (i : Nat) (hi : tot A + tot B ≤ i) : plF F d.f i = plF F (undoW d.f d.cs) i := plF_congr (h.same (.inr (by omega))).symm
theorem Life.all (h : Life F n t b d A B) (i : Nat) (hi : i < tot A + tot B) : plF F d.f i = pat (A ++ B) i := by
  by_cases hA : i < tot A
  · rw [pat_left _ _ _ hA]; exact h.bd.pl_left i hA
  · have e : i = tot A + (i - tot A) := by omega
    rw [e, pat_right]
    exact h.cur _ (by omega)
/-- All turns in a life are its own, or older ones. -/
theorem Life.turns (h : Life F n t b d A B) (i : Nat) (hi : i < n) (p : Pl) (hp : plF F d.f i = some p) : p.turn ≤ t := by
  by_cases h1 : i < tot A + tot B
  · rw [h.all i h1] at hp
    exact (h.bd.mono.app h.bd.all).pat i p hp
  · rw [h.bd.pl_right i (by omega)] at hp
    exact Nat.le_of_lt (h.bd.old i (by omega) hi p hp)
theorem Life.flush {d' : PD} (h : Life F n t b d A B) (hf : d'.f = d.f) (hc : d'.cs = []) : Life F n t b d' (A ++ B) [] := by
  have hu : undoW d'.f d'.cs = d.f := by rw [hc, hf]; rfl
  refine ⟨⟨h.bd.one, by rw [hu]; exact h.bd.slot_same, fun i hi => ?_, fun x hx => ?_, fun i h1 h2 p hp => ?_, ?_, h.bd.mono.app h.bd.all, fun r hr => (nomatch hr), ?_⟩, fun i hi => by simp [tot] at hi⟩
  · rw [tot_app] at hi; rw [hu]; exact h.all i hi
  · rw [hc] at hx; cases hx
  · rw [tot_app] at h1
    rw [hu, h.bd.pl_right i h1] at hp
    exact h.bd.old i (by omega) h2 p hp
  · rw [hu, tot_app]
    by_cases hB : B = []
    · subst hB
      rw [List.append_nil]
      simp only [tot, Nat.add_zero]
      rw [go_congr (pl' := plF F (undoW d.f d.cs)) _ _ _ _ (fun j h1 _ => h.bd.pl_right j (by simpa [tot] using h1))]
      exact h.bd.stop
    · rw [lt_app, lt_same hB h.bd.all]
      refine go_old (fun _ p _ => ?_)
      have := h.bd.one
      omega
  · rw [tot_app]; exact h.bd.room
theorem Life.reset {d' : PD} (h : Life F n t b d A B) (ht : t + 1 ≤ 1099511627776) (hf : d'.f = upd d.f (slot F (t + 1) : Nat) (pad (sealB (sbody (t + 1) (t + 1))))) (hc : d'.cs = []) : Life F n (t + 1) (t + 1) d' [] [] := by
  have hu : undoW d'.f d'.cs = d'.f := by rw [hc]; rfl
  have hp : ∀ i, plF F d'.f i = plF F d.f i := fun i => by rw [hf]; exact slot_pl
  have hold : ∀ i, i < n → ∀ p, plF F d'.f i = some p → p.turn < t + 1 := fun i hi p h1 => by
    rw [hp] at h1
    have := h.turns i hi p h1
    omega
  refine ⟨⟨by omega, by rw [hu, hf]; exact slot_set h.bd.slot_same (Nat.le_refl _) ht, fun i hi => by simp [tot] at hi, fun x hx => (by rw [hc] at hx; cases hx), fun i _ hi p h1 => hold i hi p (hu ▸ h1), ?_, Nat.le_refl _, fun r hr => (nomatch hr), Nat.zero_le _⟩, fun i hi => by simp [tot] at hi⟩
  rw [hu]
  refine go_old (fun hk p hp2 => .inl ?_)
  exact hold _ (by simp [tot] at hk ⊢; omega) p hp2
/-- What a crash leaves. -/
theorem Bd.crash (h : Bd F n t b d A B) (ks : List Bool) : ∃ m, m ≤ B.length ∧ Cn F n t b (d.crash ks).f (A ++ B.take m) := by
  have hat := crash_at d ks
  have hA : ∀ j, j < tot A → plF F (d.crash ks).f j = pat A j := fun j hj => by
    rw [← h.a1 j hj]
    rcases hat ((F + 2 + j : Nat) : Int) with e | ⟨x, hx, h1, h2⟩
    · exact plF_congr e
    · obtain ⟨i, h3, h4, _⟩ := h.cs x hx
      rw [h4] at h1
      omega
  have hmix : ∀ j, tot A ≤ j → j < n → plF F (d.crash ks).f j = plF F (undoW d.f d.cs) j ∨ (j < tot A + tot B ∧ plF F (d.crash ks).f j = pat B (j - tot A)) := fun j h1 _ => by
    rcases hat ((F + 2 + j : Nat) : Int) with e | ⟨x, hx, h2, h3⟩
    · exact .inl (plF_congr e)
    · obtain ⟨i, h4, h5, h6⟩ := h.cs x hx
      rw [h5] at h2
      have hji : j = tot A + i := by omega
      right
      refine ⟨by omega, ?_⟩
      rw [hji, show tot A + i - tot A = i by omega, ← h6]
      unfold plF
      rw [hji] at h3
      rw [h3]
  obtain ⟨m, hm, g1, g2, g3⟩ := go_crash (pl := plF F (undoW d.f d.cs)) (pl' := plF F (d.crash ks).f) h.mono h.all h.room h.one hA h.old hmix h.stop
  have hsub : ∀ r ∈ B.take m, r.1 = t := fun r hr => h.all r (List.mem_of_mem_take hr)
  have htk : tot (B.take m) ≤ tot B := by
    have := tot_app (B.take m) (B.drop m)
    rw [List.take_append_drop] at this
    omega
  have hroom := h.room
  refine ⟨m, hm, ?_, fun i hi p hp => ?_, g3, g2, h.mono.app hsub, by rw [tot_app]; omega⟩
  · rw [← h.slots]
    unfold slF
    have e1 : (d.crash ks).f (F : Int) = undoW d.f d.cs (F : Int) := by
      rcases hat (F : Int) with e | ⟨x, hx, h1, _⟩
      · exact e
      · obtain ⟨i, _, h4, _⟩ := h.cs x hx; rw [h4] at h1; omega
    have e2 : (d.crash ks).f ((F + 1 : Nat) : Int) = undoW d.f d.cs ((F + 1 : Nat) : Int) := by
      rcases hat ((F + 1 : Nat) : Int) with e | ⟨x, hx, h1, _⟩
      · exact e
      · obtain ⟨i, _, h4, _⟩ := h.cs x hx; rw [h4] at h1; omega
    rw [e1, e2]
  · by_cases h1 : i < tot A
    · rw [hA i h1] at hp
      exact h.mono.pat i p hp
    · rcases hmix i (by omega) hi with e | ⟨e1, e2⟩
      · rw [e] at hp
        exact Nat.le_of_lt (h.old i (by omega) hi p hp)
      · rw [e2] at hp
        exact (Mono.app (X := []) (b := t) (t := t) (Nat.le_refl _) h.all).pat _ p hp
/-- A crash in which the next turn's slot may be lost. -/
theorem Life.pending (h : Life F n t b d A []) (hc : d.cs = []) (ht : t + 1 ≤ 1099511627776) (ks : List Bool) {d1 : PD} (hf : d1.f = upd d.f (slot F (t + 1) : Nat) (pad (sealB (sbody (t + 1) (t + 1)))))
    (hcs : d1.cs = [⟨slot F (t + 1), pad (sealB (sbody (t + 1) (t + 1))), d.f (slot F (t + 1) : Nat)⟩]) : Cn F n t b (d1.crash ks).f A ∨ Cn F n (t + 1) (t + 1) (d1.crash ks).f [] := by
  have hu : undoW d1.f d1.cs = d.f := by
    rw [hf, hcs]
    exact undoW_write d.f [] (slot F (t + 1)) (pad (sealB (sbody (t + 1) (t + 1))))
  have hu0 : undoW d.f d.cs = d.f := by rw [hc]; rfl
  have hat := crash_at d1 ks
  rw [hu] at hat
  have hoth : ∀ q : Int, q ≠ (slot F (t + 1) : Nat) → (d1.crash ks).f q = d.f q := fun q hq => by
    rcases hat q with e | ⟨x, hx, h1, _⟩
    · exact e
    · rw [hcs] at hx
      rw [List.mem_singleton.1 hx] at h1
      exact absurd h1.symm hq
  have hp : ∀ i, plF F (d1.crash ks).f i = plF F d.f i := fun i => plF_congr (hoth _ (by unfold slot; omega))
  rcases hat (slot F (t + 1) : Nat) with e | ⟨x, hx, _, e⟩
  · left
    have hall : (d1.crash ks).f = d.f := funext fun q => by
      by_cases hq : q = (slot F (t + 1) : Nat)
      · rw [hq]; exact e
      · exact hoth q hq
    rw [hall]
    refine ⟨h.bd.slot_same, h.turns, h.bd.pl_left, ?_, h.bd.mono, by have := h.bd.room; simp [tot] at this; omega⟩
    have hs := h.bd.stop
    rw [hu0] at hs
    have hm := go_mixed (t := t) (pl' := plF F d.f) (n - tot A) (tot A) (st (lt b A)) [] (fun j h1 h2 p hp => by
      refine h.bd.old j h1 ?_ p (hu0.symm ▸ hp)
      omega) (fun j _ _ => .inl rfl) hs (fun _ => .inl rfl)
    exact hm
  · right
    rw [hcs] at hx
    rw [List.mem_singleton.1 hx] at e
    have hall : (d1.crash ks).f = upd d.f (slot F (t + 1) : Nat) (pad (sealB (sbody (t + 1) (t + 1)))) := funext fun q => by
      by_cases hq : q = (slot F (t + 1) : Nat)
      · rw [hq, upd_same]; exact e
      · rw [upd_other _ _ _ _ hq]; exact hoth q hq
    have hl := h.reset (d' := { d with f := upd d.f (slot F (t + 1) : Nat) (pad (sealB (sbody (t + 1) (t + 1)))), cs := [] }) ht rfl rfl
    rw [hall]
    refine ⟨hl.bd.slot_same, hl.turns, fun i hi => by simp [tot] at hi, ?_, Nat.le_refl _, Nat.zero_le _⟩
    have hs := hl.bd.stop
    exact go_mixed (t := t + 1) (n - tot []) (tot []) (st (lt (t + 1) [])) [] (fun j h1 h2 p hp => hl.bd.old j h1 (by omega) p hp) (fun j _ _ => .inl rfl) hs (fun _ => .inl rfl)
/-- What is read at rest. -/
theorem Cn.read (h : Cn F n t b f A) : go (plF F f) t n 0 (st b) [] = ends 0 A := by
  have h1 := go_recs (pl := plF F f) A b 0 n h.mono h.room (fun j hj => by rw [Nat.zero_add]; exact h.a1 j hj)
  rw [h1, Nat.zero_add, h.stop, List.append_nil]
end
end Wal
end Go.Proofs.YtmccnlffikegfaaGreatDoor
