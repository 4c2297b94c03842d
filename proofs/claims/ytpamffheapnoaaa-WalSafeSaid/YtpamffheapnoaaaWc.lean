/- A log on a disk, plain: what its sectors are in a life, what a crash leaves of them, what the next life begins with. No condition. -/
import Derived.Test.YtpamffheapnoaaaWb
import Derived.Test.YtpamffheapnoaaaDk
namespace Go.Proofs.Ytpamffheapnoaaa
open Go.RowKit
namespace Wal
open Dsk (PD Wt upd upd_same upd_other pad undoW redo zeros)
theorem undoW_write (f : Int → List UInt8) (cs : List Wt) (p : Nat) (a : List UInt8) : undoW (upd f p a) (cs ++ [⟨p, a, f p⟩]) = undoW f cs := by
  unfold undoW
  rw [List.reverse_append]
  show List.foldl _ (upd (upd f p a) (p : Int) (f p)) cs.reverse = _
  congr 1
  funext j
  by_cases hj : j = (p : Int)
  · rw [hj, upd_same]
  · rw [upd_other _ _ _ _ hj, upd_other _ _ _ _ hj]
theorem redo_mem (j : Int) : ∀ (l : List (Wt × Bool)) (f : Int → List UInt8), (l.foldl (fun f p => if p.2 then upd f p.1.pos p.1.laid else f) f) j = f j ∨ ∃ p ∈ l, (p.1.pos : Int) = j ∧ (l.foldl (fun f p => if p.2 then upd f p.1.pos p.1.laid else f) f) j = p.1.laid := by
  intro l
  induction l with
  | nil => intro f; exact .inl rfl
  | cons p l ih =>
    intro f
    rw [List.foldl_cons]
    rcases ih (if p.2 = true then upd f p.1.pos p.1.laid else f) with h | ⟨q, hq, h1, h2⟩
    · rw [h]
      by_cases hp : p.2 = true
      · rw [if_pos hp]
        by_cases hj : j = (p.1.pos : Int)
        · right
          exact ⟨p, List.mem_cons_self .., hj.symm, by rw [hj, upd_same]⟩
        · left; rw [upd_other _ _ _ _ hj]
      · left; rw [if_neg hp]
    · exact .inr ⟨q, List.mem_cons_of_mem _ hq, h1, h2⟩
theorem crash_at (d : PD) (ks : List Bool) (q : Int) : (d.crash ks).f q = undoW d.f d.cs q ∨ ∃ x ∈ d.cs, (x.pos : Int) = q ∧ (d.crash ks).f q = x.laid := by
  rcases redo_mem q (d.cs.zip ks) (undoW d.f d.cs) with e | ⟨p, hp, h1, h2⟩
  · exact .inl e
  · exact .inr ⟨p.1, (List.of_mem_zip hp).1, h1, h2⟩
theorem fold_other (q : Int) : ∀ (l : List Wt) (f : Int → List UInt8), (∀ x ∈ l, (x.pos : Int) ≠ q) → (l.foldl (fun f x => upd f x.pos x.had) f) q = f q := by
  intro l
  induction l with
  | nil => intro f _; rfl
  | cons x l ih =>
    intro f h
    rw [List.foldl_cons, ih _ (fun y hy => h y (List.mem_cons_of_mem _ hy)), upd_other _ _ _ _ (fun e => h x (List.mem_cons_self ..) e.symm)]
theorem undo_other {f : Int → List UInt8} {cs : List Wt} {q : Int} (h : ∀ x ∈ cs, (x.pos : Int) ≠ q) : undoW f cs q = f q := by
  unfold undoW
  exact fold_other q _ f (fun x hx => h x (List.mem_reverse.1 hx))
/-- What the place i tells. -/
def plF (F : Nat) (f : Int → List UInt8) (i : Nat) : Option Pl := plP (f ((F + 2 + i : Nat) : Int)) i
def slF (F : Nat) (f : Int → List UInt8) : Nat × Nat := gr (slotP (f (F : Int))) (slotP (f ((F + 1 : Nat) : Int)))
theorem plF_congr {F i : Nat} {f g : Int → List UInt8} (h : f ((F + 2 + i : Nat) : Int) = g ((F + 2 + i : Nat) : Int)) : plF F f i = plF F g i := by unfold plF; rw [h]
/-- The slot of the turn t. -/
def slot (F t : Nat) : Nat := F + t % 2
theorem slot_set {F t b b' : Nat} {f : Int → List UInt8} (h : slF F f = (t, b)) (hb : b' ≤ t + 1) (ht : t + 1 ≤ 1099511627776) : slF F (upd f (slot F (t + 1) : Nat) (pad (sealB (sbody (t + 1) b')))) = (t + 1, b') := by
  obtain ⟨h1, h2⟩ := gr_le h
  have hs : slotP (pad (sealB (sbody (t + 1) b'))) = (t + 1, b') := slotP_body ht hb _
  unfold slF slot
  rcases Nat.mod_two_eq_zero_or_one (t + 1) with e | e
  · rw [e, Nat.add_zero, upd_same, hs, upd_other _ _ _ _ (by omega)]
    exact gr_left (by omega) (by omega)
  · rw [e, upd_same, hs, upd_other _ _ _ _ (by omega)]
    exact gr_right (by omega)
theorem slot_pl {F t i : Nat} {f : Int → List UInt8} {s : List UInt8} : plF F (upd f (slot F t : Nat) s) i = plF F f i :=
  plF_congr (upd_other _ _ _ _ (by unfold slot; omega))
/-- The sectors of a log of n places at F, at rest: they tell the turn t, the base b and the records A; nothing is read behind them. -/
structure Cn (F n t b : Nat) (f : Int → List UInt8) (A : List R) : Prop where
  slots : slF F f = (t, b)
  all : ∀ i, i < n → ∀ p, plF F f i = some p → p.turn ≤ t
  a1 : ∀ i, i < tot A → plF F f i = pat A i
  stop : go (plF F f) t (n - tot A) (tot A) (st (lt b A)) [] = []
  mono : Mono b A t
  room : tot A ≤ n
/-- The disk of a life, whose turn is t: A is there for sure, B may be lost. -/
structure Bd (F n t b : Nat) (d : PD) (A B : List R) : Prop where
  one : 1 ≤ t
  slots : slF F (undoW d.f d.cs) = (t, b)
  a1 : ∀ i, i < tot A → plF F (undoW d.f d.cs) i = pat A i
  cs : ∀ x ∈ d.cs, ∃ i, i < tot B ∧ x.pos = F + 2 + (tot A + i) ∧ plP x.laid (tot A + i) = pat B i
  old : ∀ i, tot A ≤ i → i < n → ∀ p, plF F (undoW d.f d.cs) i = some p → p.turn < t
  stop : go (plF F (undoW d.f d.cs)) (t - 1) (n - tot A) (tot A) (st (lt b A)) [] = []
  mono : Mono b A t
  all : ∀ r ∈ B, r.1 = t
  room : tot A + tot B ≤ n
/-- So it is while the log lives. -/
structure Life (F n t b : Nat) (d : PD) (A B : List R) : Prop where
  bd : Bd F n t b d A B
  cur : ∀ i, i < tot B → plF F d.f (tot A + i) = pat B i
section
variable {F n t b : Nat} {d : PD} {f : Int → List UInt8} {A B : List R}
theorem Cn.new (F n N : Nat) : Cn F n 0 0 (PD.new N).f [] := by
  have hz : ∀ i, plF F (PD.new N).f i = none := fun i => plP_zeros i
  refine ⟨?_, fun i _ p h => ?_, fun i h => ?_, ?_, Nat.le_refl _, Nat.zero_le _⟩
  · show gr (slotP zeros) (slotP zeros) = (0, 0)
    rw [show slotP zeros = (0, 0) from slotP_zeros]; rfl
  · rw [hz] at h; cases h
  · simp [tot] at h
  · exact go_none (hz _)
/-- The next life. -/
theorem Cn.opened (h : Cn F n t b f A) (hb : b ≤ t) (ht : t + 1 ≤ 1099511627776) (hf : d.f = upd f (slot F (t + 1) : Nat) (pad (sealB (sbody (t + 1) b)))) (hc : d.cs = []) : Life F n (t + 1) b d A [] := by
  have hu : undoW d.f d.cs = d.f := by rw [hc]; rfl
  have hp : ∀ i, plF F d.f i = plF F f i := fun i => by rw [hf]; exact slot_pl
  refine ⟨⟨by omega, ?_, fun i hi => ?_, fun x hx => ?_, fun i _ hi p h1 => ?_, ?_, h.mono.later (by omega), fun r hr => (nomatch hr), by have := h.room; simp [tot]; omega⟩, fun i hi => by simp [tot] at hi⟩
  · rw [hu, hf]; exact slot_set h.slots (by omega) ht
  · rw [hu, hp]; exact h.a1 i hi
  · rw [hc] at hx; cases hx
  · rw [hu, hp] at h1; have := h.all i hi p h1; omega
  · rw [hu, show t + 1 - 1 = t by omega, go_congr (pl' := plF F f) _ _ _ _ (fun j _ _ => hp j)]
    exact h.stop
theorem Bd.record (h : Bd F n t b d A B) (s : List UInt8) (hr : tot A + tot B + np s ≤ n) : Bd F n t b d A (B ++ [(t, s)]) := by
  have htt : tot (B ++ [(t, s)]) = tot B + np s := by rw [tot_app]; rfl
  refine ⟨h.one, h.slots, h.a1, fun x hx => ?_, h.old, h.stop, h.mono, fun r hr => ?_, by rw [htt]; omega⟩
  · obtain ⟨i, h1, h2, h3⟩ := h.cs x hx
    exact ⟨i, by rw [htt]; omega, h2, by rw [h3, pat_left _ _ _ h1]⟩
  · rcases List.mem_append.1 hr with hr | hr
    · exact h.all r hr
    · rw [List.mem_singleton.1 hr]
/-- What is written for the part j. -/
def wrote (d : PD) (F t u : Nat) (s : List UInt8) (j : Nat) : PD := (d.write (F + 2 + (u + j)) (sealB ((prt t s j).body (u + j)))).burn
theorem place_said {t u j : Nat} {s : List UInt8} (ht : t ≤ 1099511627776) (hu : u + j ≤ 1000) : plP (pad (sealB ((prt t s j).body (u + j)))) (u + j) = some (prt t s j) :=
  plP_body ht hu rfl part_len part_full _
theorem pat_new {s : List UInt8} {j : Nat} (hj : j < np s) : pat (B ++ [(t, s)]) (tot B + j) = some (prt t s j) := by
  rw [pat_right]
  unfold pat
  rw [if_pos hj]
theorem Bd.wrote {s : List UInt8} {j u : Nat} (h : Bd F n t b d A (B ++ [(t, s)])) (hj : j < np s) (hu : u = tot A + tot B) (ht : t ≤ 1099511627776) (hn : n ≤ 1000) : Bd F n t b (wrote d F t u s j) A (B ++ [(t, s)]) := by
  have hroom := h.room
  have htt : tot (B ++ [(t, s)]) = tot B + np s := by rw [tot_app]; rfl
  rw [htt] at hroom
  have hun : undoW (Wal.wrote d F t u s j).f (Wal.wrote d F t u s j).cs = undoW d.f d.cs := undoW_write d.f d.cs _ _
  refine ⟨h.one, by rw [hun]; exact h.slots, fun i hi => by rw [hun]; exact h.a1 i hi, fun x hx => ?_, fun i h1 h2 p hp => by rw [hun] at hp; exact h.old i h1 h2 p hp, by rw [hun]; exact h.stop, h.mono, h.all, h.room⟩
  have hx : x ∈ d.cs ++ [⟨F + 2 + (u + j), pad (sealB ((prt t s j).body (u + j))), d.f (F + 2 + (u + j) : Nat)⟩] := hx
  rcases List.mem_append.1 hx with hx | hx
  · exact h.cs x hx
  · rw [List.mem_singleton.1 hx]
    have hpl := place_said (t := t) (u := u) (j := j) (s := s) ht (by omega)
    refine ⟨tot B + j, by rw [htt]; omega, ?_, ?_⟩
    · show F + 2 + (u + j) = F + 2 + (tot A + (tot B + j))
      omega
    · rw [pat_new hj, show tot A + (tot B + j) = u + j by omega]
      exact hpl
theorem cur_wrote {s : List UInt8} {j u : Nat} (h : ∀ i, i < tot B + j → plF F d.f (tot A + i) = pat (B ++ [(t, s)]) i) (hj : j < np s) (hu : u = tot A + tot B) (ht : t ≤ 1099511627776) (hn : u + j ≤ 1000) :
    ∀ i, i < tot B + (j + 1) → plF F (wrote d F t u s j).f (tot A + i) = pat (B ++ [(t, s)]) i := by
  intro i hi
  by_cases he : i = tot B + j
  · rw [he, pat_new hj, ← Nat.add_assoc, ← hu]
    show plP (upd d.f _ _ _) _ = _
    rw [upd_same]
    exact place_said ht hn
  · rw [← h i (by omega)]
    exact plF_congr (upd_other _ _ _ _ (by omega))
theorem Life.start (h : Life F n t b d A B) (s : List UInt8) : ∀ i, i < tot B + 0 → plF F d.f (tot A + i) = pat (B ++ [(t, s)]) i := fun i hi => by
  rw [h.cur i (by omega), pat_left _ _ _ (by omega)]
/-- Where nothing was written. -/
theorem Bd.same (h : Bd F n t b d A B) {q : Int} (hq : q < (F + 2 + tot A : Nat) ∨ (F + 2 + tot A + tot B : Nat) ≤ q) : undoW d.f d.cs q = d.f q := undo_other fun x hx e => by
  obtain ⟨i, h1, h2, _⟩ := h.cs x hx
  rw [h2] at e
  omega
theorem Bd.slot_same (h : Bd F n t b d A B) : slF F d.f = (t, b) := by
  rw [← h.slots]
  unfold slF
  rw [h.same (q := (F : Int)) (.inl (by omega)), h.same (q := ((F + 1 : Nat) : Int)) (.inl (by omega))]
theorem Bd.pl_left (h : Bd F n t b d A B) (i : Nat) (hi : i < tot A) : plF F d.f i = pat A i := by
  rw [← h.a1 i hi]
  exact plF_congr (h.same (.inl (by omega))).symm
theorem Bd.pl_right (h : Bd F n t b d A B) (i : Nat) (hi : tot A + tot B ≤ i) : plF F d.f i = plF F (undoW d.f d.cs) i := plF_congr (h.same (.inr (by omega))).symm
theorem Life.all (h : Life F n t b d A B) (i : Nat) (hi : i < tot A + tot B) : plF F d.f i = pat (A ++ B) i := by
  by_cases hA : i < tot A
  · rw [pat_left _ _ _ hA]; exact h.bd.pl_left i hA
  · have e : i = tot A + (i - tot A) := by omega
    rw [e, pat_right]
    exact h.cur _ (by omega)
/-- All turns in a life are its own, or older ones. -/
theorem Life.turns (h : Life F n t b d A B) (i : Nat) (hi : i < n) (p : Pl) (hp : plF F d.f i = some p) : p.turn ≤ t := by
  by_cases h1 : i < tot A + tot B
  · rw [h.all i h1] at hp
    exact (h.bd.mono.app h.bd.all).pat i p hp
  · rw [h.bd.pl_right i (by omega)] at hp
    exact Nat.le_of_lt (h.bd.old i (by omega) hi p hp)
theorem Life.flush {d' : PD} (h : Life F n t b d A B) (hf : d'.f = d.f) (hc : d'.cs = []) : Life F n t b d' (A ++ B) [] := by
  have hu : undoW d'.f d'.cs = d.f := by rw [hc, hf]; rfl
  refine ⟨⟨h.bd.one, by rw [hu]; exact h.bd.slot_same, fun i hi => ?_, fun x hx => ?_, fun i h1 h2 p hp => ?_, ?_, h.bd.mono.app h.bd.all, fun r hr => (nomatch hr), ?_⟩, fun i hi => by simp [tot] at hi⟩
  · rw [tot_app] at hi; rw [hu]; exact h.all i hi
  · rw [hc] at hx; cases hx
  · rw [tot_app] at h1
    rw [hu, h.bd.pl_right i h1] at hp
    exact h.bd.old i (by omega) h2 p hp
  · rw [hu, tot_app]
    by_cases hB : B = []
    · subst hB
      rw [List.append_nil]
      simp only [tot, Nat.add_zero]
      rw [go_congr (pl' := plF F (undoW d.f d.cs)) _ _ _ _ (fun j h1 _ => h.bd.pl_right j (by simpa [tot] using h1))]
      exact h.bd.stop
    · rw [lt_app, lt_same hB h.bd.all]
      refine go_old (fun _ p _ => ?_)
      have := h.bd.one
      omega
  · rw [tot_app]; exact h.bd.room
theorem Life.reset {d' : PD} (h : Life F n t b d A B) (ht : t + 1 ≤ 1099511627776) (hf : d'.f = upd d.f (slot F (t + 1) : Nat) (pad (sealB (sbody (t + 1) (t + 1))))) (hc : d'.cs = []) : Life F n (t + 1) (t + 1) d' [] [] := by
  have hu : undoW d'.f d'.cs = d'.f := by rw [hc]; rfl
  have hp : ∀ i, plF F d'.f i = plF F d.f i := fun i => by rw [hf]; exact slot_pl
  have hold : ∀ i, i < n → ∀ p, plF F d'.f i = some p → p.turn < t + 1 := fun i hi p h1 => by
    rw [hp] at h1
    have := h.turns i hi p h1
    omega
  refine ⟨⟨by omega, by rw [hu, hf]; exact slot_set h.bd.slot_same (Nat.le_refl _) ht, fun i hi => by simp [tot] at hi, fun x hx => (by rw [hc] at hx; cases hx), fun i _ hi p h1 => hold i hi p (hu ▸ h1), ?_, Nat.le_refl _, fun r hr => (nomatch hr), Nat.zero_le _⟩, fun i hi => by simp [tot] at hi⟩
  rw [hu]
  refine go_old (fun hk p hp2 => .inl ?_)
  exact hold _ (by simp [tot] at hk ⊢; omega) p hp2
/-- What a crash leaves. -/
theorem Bd.crash (h : Bd F n t b d A B) (ks : List Bool) : ∃ m, m ≤ B.length ∧ Cn F n t b (d.crash ks).f (A ++ B.take m) := by
  have hat := crash_at d ks
  have hA : ∀ j, j < tot A → plF F (d.crash ks).f j = pat A j := fun j hj => by
    rw [← h.a1 j hj]
    rcases hat ((F + 2 + j : Nat) : Int) with e | ⟨x, hx, h1, h2⟩
    · exact plF_congr e
    · obtain ⟨i, h3, h4, _⟩ := h.cs x hx
      rw [h4] at h1
      omega
  have hmix : ∀ j, tot A ≤ j → j < n → plF F (d.crash ks).f j = plF F (undoW d.f d.cs) j ∨ (j < tot A + tot B ∧ plF F (d.crash ks).f j = pat B (j - tot A)) := fun j h1 _ => by
    rcases hat ((F + 2 + j : Nat) : Int) with e | ⟨x, hx, h2, h3⟩
    · exact .inl (plF_congr e)
    · obtain ⟨i, h4, h5, h6⟩ := h.cs x hx
      rw [h5] at h2
      have hji : j = tot A + i := by omega
      right
      refine ⟨by omega, ?_⟩
      rw [hji, show tot A + i - tot A = i by omega, ← h6]
      unfold plF
      rw [hji] at h3
      rw [h3]
  obtain ⟨m, hm, g1, g2, g3⟩ := go_crash (pl := plF F (undoW d.f d.cs)) (pl' := plF F (d.crash ks).f) h.mono h.all h.room h.one hA h.old hmix h.stop
  have hsub : ∀ r ∈ B.take m, r.1 = t := fun r hr => h.all r (List.mem_of_mem_take hr)
  have htk : tot (B.take m) ≤ tot B := by
    have := tot_app (B.take m) (B.drop m)
    rw [List.take_append_drop] at this
    omega
  have hroom := h.room
  refine ⟨m, hm, ?_, fun i hi p hp => ?_, g3, g2, h.mono.app hsub, by rw [tot_app]; omega⟩
  · rw [← h.slots]
    unfold slF
    have e1 : (d.crash ks).f (F : Int) = undoW d.f d.cs (F : Int) := by
      rcases hat (F : Int) with e | ⟨x, hx, h1, _⟩
      · exact e
      · obtain ⟨i, _, h4, _⟩ := h.cs x hx; rw [h4] at h1; omega
    have e2 : (d.crash ks).f ((F + 1 : Nat) : Int) = undoW d.f d.cs ((F + 1 : Nat) : Int) := by
      rcases hat ((F + 1 : Nat) : Int) with e | ⟨x, hx, h1, _⟩
      · exact e
      · obtain ⟨i, _, h4, _⟩ := h.cs x hx; rw [h4] at h1; omega
    rw [e1, e2]
  · by_cases h1 : i < tot A
    · rw [hA i h1] at hp
      exact h.mono.pat i p hp
    · rcases hmix i (by omega) hi with e | ⟨e1, e2⟩
      · rw [e] at hp
        exact Nat.le_of_lt (h.old i (by omega) hi p hp)
      · rw [e2] at hp
        exact (Mono.app (X := []) (b := t) (t := t) (Nat.le_refl _) h.all).pat _ p hp
/-- A crash in which the next turn's slot may be lost. -/
theorem Life.pending (h : Life F n t b d A []) (hc : d.cs = []) (ht : t + 1 ≤ 1099511627776) (ks : List Bool) {d1 : PD} (hf : d1.f = upd d.f (slot F (t + 1) : Nat) (pad (sealB (sbody (t + 1) (t + 1)))))
    (hcs : d1.cs = [⟨slot F (t + 1), pad (sealB (sbody (t + 1) (t + 1))), d.f (slot F (t + 1) : Nat)⟩]) : Cn F n t b (d1.crash ks).f A ∨ Cn F n (t + 1) (t + 1) (d1.crash ks).f [] := by
  have hu : undoW d1.f d1.cs = d.f := by
    rw [hf, hcs]
    exact undoW_write d.f [] (slot F (t + 1)) (pad (sealB (sbody (t + 1) (t + 1))))
  have hu0 : undoW d.f d.cs = d.f := by rw [hc]; rfl
  have hat := crash_at d1 ks
  rw [hu] at hat
  have hoth : ∀ q : Int, q ≠ (slot F (t + 1) : Nat) → (d1.crash ks).f q = d.f q := fun q hq => by
    rcases hat q with e | ⟨x, hx, h1, _⟩
    · exact e
    · rw [hcs] at hx
      rw [List.mem_singleton.1 hx] at h1
      exact absurd h1.symm hq
  have hp : ∀ i, plF F (d1.crash ks).f i = plF F d.f i := fun i => plF_congr (hoth _ (by unfold slot; omega))
  rcases hat (slot F (t + 1) : Nat) with e | ⟨x, hx, _, e⟩
  · left
    have hall : (d1.crash ks).f = d.f := funext fun q => by
      by_cases hq : q = (slot F (t + 1) : Nat)
      · rw [hq]; exact e
      · exact hoth q hq
    rw [hall]
    refine ⟨h.bd.slot_same, h.turns, h.bd.pl_left, ?_, h.bd.mono, by have := h.bd.room; simp [tot] at this; omega⟩
    have hs := h.bd.stop
    rw [hu0] at hs
    have hm := go_mixed (t := t) (pl' := plF F d.f) (n - tot A) (tot A) (st (lt b A)) [] (fun j h1 h2 p hp => by
      refine h.bd.old j h1 ?_ p (hu0.symm ▸ hp)
      omega) (fun j _ _ => .inl rfl) hs (fun _ => .inl rfl)
    exact hm
  · right
    rw [hcs] at hx
    rw [List.mem_singleton.1 hx] at e
    have hall : (d1.crash ks).f = upd d.f (slot F (t + 1) : Nat) (pad (sealB (sbody (t + 1) (t + 1)))) := funext fun q => by
      by_cases hq : q = (slot F (t + 1) : Nat)
      · rw [hq, upd_same]; exact e
      · rw [upd_other _ _ _ _ hq]; exact hoth q hq
    have hl := h.reset (d' := { d with f := upd d.f (slot F (t + 1) : Nat) (pad (sealB (sbody (t + 1) (t + 1)))), cs := [] }) ht rfl rfl
    rw [hall]
    refine ⟨hl.bd.slot_same, hl.turns, fun i hi => by simp [tot] at hi, ?_, Nat.le_refl _, Nat.zero_le _⟩
    have hs := hl.bd.stop
    exact go_mixed (t := t + 1) (n - tot []) (tot []) (st (lt (t + 1) [])) [] (fun j h1 h2 p hp => hl.bd.old j h1 (by omega) p hp) (fun j _ _ => .inl rfl) hs (fun _ => .inl rfl)
/-- What is read at rest. -/
theorem Cn.read (h : Cn F n t b f A) : go (plF F f) t n 0 (st b) [] = ends 0 A := by
  have h1 := go_recs (pl := plF F f) A b 0 n h.mono h.room (fun j hj => by rw [Nat.zero_add]; exact h.a1 j hj)
  rw [h1, Nat.zero_add, h.stop, List.append_nil]
end
end Wal
end Go.Proofs.Ytpamffheapnoaaa
