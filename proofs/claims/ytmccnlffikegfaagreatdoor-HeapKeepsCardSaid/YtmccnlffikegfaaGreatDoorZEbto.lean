/- A heap, plain: a record's row of pages, laid and walked. Conditions: as each says. -/
import Derived.Test.YtmccnlffikegfaaGreatDoorZEpto
import Derived.Test.YtmccnlffikegfaaGreatDoorZE0to
namespace Go.Proofs.YtmccnlffikegfaaGreatDoor
open Go.RowKit
namespace Hep
open Pgr
open Dsk (zeros pad pad_len)
section
variable {G G' G2 : Pages} {N k j : Nat} {l : List Nat} {s : List UInt8}
/-! ### A row -/
/-- The pages l hold the record s. -/
def Row (G : Pages) : List Nat → List UInt8 → Prop
  | [], _ => False
  | [a], s => s.length ≤ 125 ∧ G a = page 0 s
  | a :: b :: l, s => 125 < s.length ∧ G a = page b (s.take 125) ∧ Row G (b :: l) (s.drop 125)
theorem Row.of (hG : ∀ a, a ∈ l → G' a = G a) : ∀ {s : List UInt8}, Row G l s → Row G' l s := by
  induction l with
  | nil => exact fun h => h
  | cons a l ih =>
    intro s h
    cases l with
    | nil => exact ⟨h.1, (hG a (by simp)).trans h.2⟩
    | cons b l => exact ⟨h.1, (hG a (by simp)).trans h.2.1, ih (fun c hc => hG c (List.mem_cons_of_mem _ hc)) h.2.2⟩
theorem Row.count : ∀ {l : List Nat} {s : List UInt8}, Row G l s → l.length = need s.length
  | [], _, h => h.elim
  | [a], s, h => (need_small h.1).symm
  | a :: b :: l, s, h => by
    have := Row.count h.2.2
    rw [List.length_cons, this, List.length_drop, need_more h.1]
/-- The record s is laid into the pages l. -/
def lays : List Nat → List UInt8 → Pages → Pages
  | [], _, G => G
  | a :: l, s, G => lays l (s.drop 125) (upG G a (page (l.headD 0) (s.take 125)))
theorem lays_no : ∀ {l : List Nat} {s : List UInt8} {G : Pages}, j ∉ l → lays l s G j = G j
  | [], _, _, _ => rfl
  | a :: l, s, G, h => by
    have h' : j ≠ a ∧ j ∉ l := by simpa using h
    show lays l (s.drop 125) (upG G a _) j = _
    rw [lays_no h'.2, upG_no h'.1]
theorem lays_row : ∀ {l : List Nat} {s : List UInt8} {G : Pages}, l.Nodup → l.length = need s.length → Row (lays l s G) l s
  | [], s, _, _, h => by have := need_pos s.length; rw [← h] at this; cases this
  | [a], s, G, _, h => by
    have hs : s.length ≤ 125 := by
      rcases Nat.lt_or_ge 125 s.length with c | c
      · rw [need_more c] at h
        have := need_pos (s.length - 125)
        simp at h; omega
      · exact c
    refine ⟨hs, ?_⟩
    show upG G a (page 0 (s.take 125)) a = _
    rw [upG_at, List.take_of_length_le hs]
  | a :: b :: l, s, G, hn, h => by
    have hs : 125 < s.length := by
      rcases Nat.lt_or_ge 125 s.length with c | c
      · exact c
      · rw [need_small c] at h; simp at h
    obtain ⟨n1, n2⟩ := List.nodup_cons.1 hn
    refine ⟨hs, ?_, ?_⟩
    · show lays (b :: l) (s.drop 125) (upG G a (page b (s.take 125))) a = _
      rw [lays_no n1, upG_at]
    · exact lays_row n2 (by rw [need_more hs] at h; rw [List.length_drop]; simpa using h)
/-! ### The walk -/
/-- The row that begins at page k: its pages, its bytes. -/
def walk (N : Nat) (G : Pages) : Nat → Nat → Option (List Nat × List UInt8)
  | 0, k => if k = 0 then some ([], []) else none
  | f + 1, k => if k = 0 then some ([], []) else if k < 2 ∨ N ≤ k ∨ inU G k = false then none
    else if 125 < manyOf (G k) ∨ (nextOf (G k) ≠ 0 ∧ manyOf (G k) ≠ 125) then none
    else (walk N G f (nextOf (G k))).map fun r => (k :: r.1, bodyOf (G k) ++ r.2)
theorem walk_zero (f : Nat) : walk N G f 0 = some ([], []) := by cases f <;> rfl
theorem walk_step {f k : Nat} {r : List Nat × List UInt8} (h : walk N G f k = some r) (h0 : k ≠ 0) : ∃ f' r', f = f' + 1 ∧ 2 ≤ k ∧ k < N ∧ inU G k = true ∧ manyOf (G k) ≤ 125 ∧ (nextOf (G k) = 0 ∨ manyOf (G k) = 125) ∧ walk N G f' (nextOf (G k)) = some r' ∧ r = (k :: r'.1, bodyOf (G k) ++ r'.2) := by
  cases f with
  | zero => unfold walk at h; rw [if_neg h0] at h; cases h
  | succ f =>
    unfold walk at h
    rw [if_neg h0] at h
    by_cases h1 : k < 2 ∨ N ≤ k ∨ inU G k = false
    · rw [if_pos h1] at h; cases h
    · rw [if_neg h1] at h
      by_cases h2 : 125 < manyOf (G k) ∨ (nextOf (G k) ≠ 0 ∧ manyOf (G k) ≠ 125)
      · rw [if_pos h2] at h; cases h
      · rw [if_neg h2] at h
        cases hw : walk N G f (nextOf (G k)) with
        | none => rw [hw] at h; cases h
        | some r' =>
          rw [hw] at h
          refine ⟨f, r', rfl, by omega, by omega, ?_, by omega, by omega, hw, ?_⟩
          · cases hu : inU G k
            · exact absurd (.inr (.inr hu)) h1
            · rfl
          · simpa using h.symm
theorem walk_of {f k : Nat} {r' : List Nat × List UInt8} (h2 : 2 ≤ k) (hN : k < N) (hu : inU G k = true) (hm : manyOf (G k) ≤ 125) (hx : nextOf (G k) = 0 ∨ manyOf (G k) = 125) (hw : walk N G f (nextOf (G k)) = some r') : walk N G (f + 1) k = some (k :: r'.1, bodyOf (G k) ++ r'.2) := by
  unfold walk
  rw [if_neg (by omega : ¬ k = 0), if_neg (by rw [hu]; simp; omega), if_neg (by omega), hw]
  rfl
theorem walk_more : ∀ {f k : Nat} {r : List Nat × List UInt8}, walk N G f k = some r → ∀ m, r.1.length ≤ m → walk N G m k = some r := by
  intro f
  induction f with
  | zero =>
    intro k r h m hm
    by_cases h0 : k = 0
    · subst h0; rw [walk_zero] at h ⊢; exact h
    · obtain ⟨_, _, e, _⟩ := walk_step h h0; cases e
  | succ f ih =>
    intro k r h m hm
    by_cases h0 : k = 0
    · subst h0; rw [walk_zero] at h ⊢; exact h
    · obtain ⟨f', r', e, a1, a2, a3, a4, a5, a6, a7⟩ := walk_step h h0
      cases e
      subst a7
      cases m with
      | zero => simp at hm
      | succ m => exact walk_of a1 a2 a3 a4 a5 (ih a6 m (by simpa using hm))
theorem walk_in : ∀ {f k : Nat} {r : List Nat × List UInt8}, walk N G f k = some r → ∀ a, a ∈ r.1 → (2 ≤ a ∧ a < N ∧ inU G a = true) ∧ ∃ f' r', walk N G f' a = some r' ∧ r'.1.length ≤ r.1.length ∧ (a ≠ k → r'.1.length < r.1.length) := by
  intro f
  induction f with
  | zero =>
    intro k r h a ha
    by_cases h0 : k = 0
    · subst h0; rw [walk_zero] at h; cases h; cases ha
    · obtain ⟨_, _, e, _⟩ := walk_step h h0; cases e
  | succ f ih =>
    intro k r h a ha
    by_cases h0 : k = 0
    · subst h0; rw [walk_zero] at h; cases h; cases ha
    · obtain ⟨f', r', e, a1, a2, a3, a4, a5, a6, a7⟩ := walk_step h h0
      cases e
      subst a7
      rcases List.mem_cons.1 ha with e | e
      · subst e
        exact ⟨⟨a1, a2, a3⟩, _, _, h, Nat.le_refl _, fun c => absurd rfl c⟩
      · obtain ⟨b1, f2, r2, b2, b3, _⟩ := ih a6 a e
        exact ⟨b1, f2, r2, b2, by simp; omega, fun _ => by simp; omega⟩
theorem walk_det {f f2 k : Nat} {r r2 : List Nat × List UInt8} (h : walk N G f k = some r) (h2 : walk N G f2 k = some r2) : r = r2 := by
  have a := walk_more h (max r.1.length r2.1.length) (Nat.le_max_left _ _)
  have b := walk_more h2 (max r.1.length r2.1.length) (Nat.le_max_right _ _)
  rw [a] at b
  exact Option.some.inj b
theorem walk_once : ∀ {f k : Nat} {r : List Nat × List UInt8}, walk N G f k = some r → r.1.Nodup := by
  intro f
  induction f with
  | zero =>
    intro k r h
    by_cases h0 : k = 0
    · subst h0; rw [walk_zero] at h; cases h; exact List.nodup_nil
    · obtain ⟨_, _, e, _⟩ := walk_step h h0; cases e
  | succ f ih =>
    intro k r h
    by_cases h0 : k = 0
    · subst h0; rw [walk_zero] at h; cases h; exact List.nodup_nil
    · obtain ⟨f', r', e, a1, a2, a3, a4, a5, a6, a7⟩ := walk_step h h0
      cases e
      subst a7
      refine List.nodup_cons.2 ⟨fun hk => ?_, ih a6⟩
      obtain ⟨_, f2, r2, b2, b3, _⟩ := walk_in a6 k hk
      have := walk_det h b2
      rw [← this] at b3
      simp at b3; omega
theorem range_le : ∀ (N : Nat) (l : List Nat), l.Nodup → (∀ a, a ∈ l → a < N) → l.length ≤ N
  | 0, l, _, h => by
    cases l with
    | nil => exact Nat.le_refl _
    | cons a l => exact absurd (h a (by simp)) (by omega)
  | N + 1, l, hn, h => by
    have h1 := range_le N (l.erase N) (hn.erase N) (fun a ha => by
      have h2 := h a (List.mem_of_mem_erase ha)
      have h3 : a ≠ N := fun e => by subst e; exact (List.Nodup.not_mem_erase hn) ha
      omega)
    rw [List.length_erase] at h1
    split at h1 <;> omega
theorem walk_full {f k : Nat} {r : List Nat × List UInt8} (h : walk N G f k = some r) : r.1.length ≤ N := range_le N r.1 (walk_once h) (fun a ha => (walk_in h a ha).1.2.1)
/-- A row is walked. -/
theorem Row.walk : ∀ {l : List Nat} {s : List UInt8} {f : Nat}, N ≤ 65536 → Row G l s → (∀ a, a ∈ l → 2 ≤ a ∧ a < N ∧ inU G a = true) → l.length ≤ f → Hep.walk N G f (l.headD 0) = some (l, s)
  | [], _, _, _, h, _, _ => h.elim
  | [a], s, f, _, h, hi, hf => by
    obtain ⟨f, rfl⟩ : ∃ f', f = f' + 1 := ⟨f - 1, by simp at hf; omega⟩
    obtain ⟨i1, i2, i3⟩ := hi a (by simp)
    have e1 : nextOf (G a) = 0 := by rw [h.2]; exact page_next (by decide)
    have e2 : manyOf (G a) = s.length := by rw [h.2]; exact page_many h.1
    have e3 : bodyOf (G a) = s := by rw [h.2]; exact page_body h.1
    have := walk_of (f := f) (r' := ([], [])) i1 i2 i3 (by rw [e2]; exact h.1) (.inl e1) (by rw [e1]; exact walk_zero f)
    rw [e3] at this
    simpa using this
  | a :: b :: l, s, f, hN, h, hi, hf => by
    obtain ⟨f, rfl⟩ : ∃ f', f = f' + 1 := ⟨f - 1, by simp at hf; omega⟩
    obtain ⟨i1, i2, i3⟩ := hi a (by simp)
    have hb := (hi b (by simp)).2.1
    have ht : (s.take 125).length = 125 := by rw [List.length_take]; have := h.1; omega
    have e1 : nextOf (G a) = b := by rw [h.2.1]; exact page_next (by omega)
    have e2 : manyOf (G a) = 125 := by rw [h.2.1, page_many (by omega)]; exact ht
    have e3 : bodyOf (G a) = s.take 125 := by rw [h.2.1]; exact page_body (by omega)
    have ih := Row.walk (f := f) hN h.2.2 (fun c hc => hi c (List.mem_cons_of_mem _ hc)) (by simpa using hf)
    have := walk_of (f := f) (r' := (b :: l, s.drop 125)) i1 i2 i3 (by omega) (.inr e2) (by rw [e1]; exact ih)
    rw [e3, List.take_append_drop] at this
    exact this
end
end Hep
end Go.Proofs.YtmccnlffikegfaaGreatDoor
/- A heap, plain: all its records (Hs): put, dropped, the root page; what is got. Conditions: as each says. -/
namespace Go.Proofs.YtmccnlffikegfaaGreatDoor
open Go.RowKit
namespace Hep
open Pgr
open Dsk (zeros pad pad_len)
section
variable {G G' G1 : Pages} {N k j x : Nat} {l : List Nat} {s : List UInt8}
/-- A record: its pages, its bytes. -/
abbrev Rec := List Nat × List UInt8
def Rec.id (r : Rec) : Nat := r.1.headD 0
/-- All pages of these records. -/
def pgs (A : List Rec) : List Nat := A.flatMap (·.1)
/-- The root page, of the id x. -/
def rootP (x : Nat) : List UInt8 := pad [82, UInt8.ofNat (x / 256), UInt8.ofNat (x % 256)]
def rootOf (t : List UInt8) : Nat := 256 * (byteAt t 1).toNat + (byteAt t 2).toNat
theorem root_len : (rootP x).length = 128 := pad_len (by simp)
theorem root_of (h : x < 65536) : rootOf (rootP x) = x := by
  unfold rootOf byteAt rootP pad
  simp only [List.cons_append, List.getElem?_cons_zero, List.getElem?_cons_succ, Option.getD_some, UInt8.toNat_ofNat']
  omega
theorem root_mark : byteAt (rootP x) 0 = 82 := rfl
/-- These are all records of the heap, and x stands in the root page. -/
structure Hs (N : Nat) (G : Pages) (x : Nat) (A : List Rec) : Prop where
  l0 : (G 0).length = 128
  sz : 2 ≤ N ∧ N ≤ 1024
  one : inU G 1 = true
  root : G 1 = rootP x
  rows : ∀ r, r ∈ A → Row G r.1 r.2 ∧ ∀ a, a ∈ r.1 → 2 ≤ a ∧ a < N ∧ inU G a = true
  once : (pgs A).Nodup
  free : freeN (G 0) N + 2 + (pgs A).length = N
theorem mem_pgs {A : List Rec} {r : Rec} (h : r ∈ A) {a : Nat} (ha : a ∈ r.1) : a ∈ pgs A := List.mem_flatMap.2 ⟨r, h, ha⟩
theorem once_part : ∀ {A : List Rec} {r : Rec}, (pgs A).Nodup → r ∈ A → r.1.Nodup
  | [], _, _, h => by cases h
  | q :: A, r, hn, h => by
    obtain ⟨n1, n2, _⟩ := List.nodup_append.1 (show (q.1 ++ pgs A).Nodup from hn)
    rcases List.mem_cons.1 h with e | e
    · subst e; exact n1
    · exact once_part n2 e
theorem Hs.in {A : List Rec} (h : Hs N G x A) {a : Nat} (ha : a ∈ pgs A) : 2 ≤ a ∧ a < N ∧ inU G a = true := by
  obtain ⟨r, hr, ha⟩ := List.mem_flatMap.1 ha
  exact (h.rows r hr).2 a ha
theorem Hs.perm {A B : List Rec} (h : Hs N G x A) (hp : A.Perm B) : Hs N G x B := by
  have hq : (pgs A).Perm (pgs B) := List.Perm.flatMap_right (fun r : Rec => r.1) hp
  exact ⟨h.l0, h.sz, h.one, h.root, fun r hr => h.rows r (hp.mem_iff.2 hr), hq.nodup_iff.1 h.once, by rw [← hq.length_eq]; exact h.free⟩
/-- A record is put. -/
theorem Hs.put {A : List Rec} (h : Hs N G x A) (ht : Takes N G l G1) (hl : l.length = need s.length) : Hs N (lays l s G1) x ((l, s) :: A) := by
  have t := ht.took h.sz.2 h.l0
  have z0 : 0 ∉ l := fun e => (t.was 0 e).2.1 rfl
  have z1 : 1 ∉ l := fun e => by have := (t.was 1 e).1; rw [h.one] at this; cases this
  have u0 : lays l s G1 0 = G1 0 := lays_no z0
  have hu : ∀ a, inU (lays l s G1) a = inU G1 a := fun a => by unfold inU; rw [u0]
  have hp : ∀ a, a ∈ pgs A → a ∉ l := fun a ha e => by have h1 := (t.was a e).1; rw [(h.in ha).2.2] at h1; cases h1
  refine ⟨by rw [u0]; exact t.l0, h.sz, ?_, ?_, fun r hr => ?_, ?_, ?_⟩
  · rw [hu, t.use, h.one]; rfl
  · rw [lays_no z1, t.same 1 (by decide) z1]; exact h.root
  · rcases List.mem_cons.1 hr with e | e
    · subst e
      refine ⟨lays_row t.once hl, fun a ha => ?_⟩
      obtain ⟨a1, a2, a3⟩ := t.was a ha
      have a4 : a ≠ 1 := fun c => z1 (c ▸ ha)
      exact ⟨by omega, a3, by rw [hu, t.use]; simp [show a ∈ l from ha]⟩
    · obtain ⟨b1, b2⟩ := h.rows r e
      refine ⟨Row.of (fun a ha => ?_) b1, fun a ha => ?_⟩
      · have c := hp a (mem_pgs e ha)
        have c2 := (b2 a ha).1
        rw [lays_no c, t.same a (by omega) c]
      · obtain ⟨c1, c2, c3⟩ := b2 a ha
        exact ⟨c1, c2, by rw [hu, t.use, c3]; rfl⟩
  · show (l ++ pgs A).Nodup
    rw [List.nodup_append]
    exact ⟨t.once, h.once, fun a ha b hb e => hp b hb (e ▸ ha)⟩
  · show freeN (lays l s G1 0) N + 2 + (l ++ pgs A).length = N
    rw [u0, List.length_append]
    have h1 := t.free
    have h2 := h.free
    omega
/-- A record is dropped. -/
theorem Hs.drop {A : List Rec} {r : Rec} (h : Hs N G x (r :: A)) : Hs N (gives r.1 G) x A := by
  obtain ⟨h1, h2⟩ := h.rows r (by simp)
  have hn : (r.1 ++ pgs A).Nodup := h.once
  obtain ⟨n1, n2, n3⟩ := List.nodup_append.1 hn
  have t := gave h.sz.2 h.l0 n1 (fun a ha => by obtain ⟨c1, c2, c3⟩ := h2 a ha; exact ⟨c3, by omega, c2⟩)
  have z1 : 1 ∉ r.1 := fun e => by have := (h2 1 e).1; omega
  refine ⟨t.l0, h.sz, ?_, ?_, fun q hq => ?_, n2, ?_⟩
  · rw [t.use, h.one]; simp [z1]
  · rw [t.same 1 (by decide)]; exact h.root
  · obtain ⟨b1, b2⟩ := h.rows q (List.mem_cons_of_mem _ hq)
    refine ⟨Row.of (fun a ha => t.same a (by have := (b2 a ha).1; omega)) b1, fun a ha => ?_⟩
    obtain ⟨c1, c2, c3⟩ := b2 a ha
    refine ⟨c1, c2, ?_⟩
    rw [t.use, c3]
    have : a ∉ r.1 := fun e => n3 a e a (mem_pgs hq ha) rfl
    simp [this]
  · have h3 := t.free
    have h4 : freeN (G 0) N + 2 + (r.1 ++ pgs A).length = N := h.free
    rw [List.length_append] at h4
    omega
theorem Hs.gone {A : List Rec} {r : Rec} (h : Hs N G x (r :: A)) {a : Nat} (ha : a ∈ r.1) : inU (gives r.1 G) a = false := by
  obtain ⟨h1, h2⟩ := h.rows r (by simp)
  have hn : (r.1 ++ pgs A).Nodup := h.once
  have t := gave h.sz.2 h.l0 (List.nodup_append.1 hn).1 (fun a ha => by obtain ⟨c1, c2, c3⟩ := h2 a ha; exact ⟨c3, by omega, c2⟩)
  rw [t.use]; simp [ha]
/-- The root page is written. -/
theorem Hs.mark {A : List Rec} (h : Hs N G x A) (y : Nat) : Hs N (upG G 1 (rootP y)) y A := by
  have hu : ∀ a, inU (upG G 1 (rootP y)) a = inU G a := fun a => inU_up (by decide)
  have u0 : upG G 1 (rootP y) 0 = G 0 := upG_no (by decide)
  refine ⟨by rw [u0]; exact h.l0, h.sz, by rw [hu]; exact h.one, upG_at, fun r hr => ?_, h.once, by rw [u0]; exact h.free⟩
  obtain ⟨b1, b2⟩ := h.rows r hr
  exact ⟨Row.of (fun a ha => upG_no (by have := (b2 a ha).1; omega)) b1, fun a ha => by rw [hu]; exact b2 a ha⟩
/-- What is there is got. -/
theorem Hs.got {A : List Rec} {r : Rec} (h : Hs N G x A) (hr : r ∈ A) : walk N G N r.id = some r ∧ 2 ≤ r.id ∧ r.id < N ∧ inU G r.id = true ∧ r.1.length = need r.2.length := by
  obtain ⟨h1, h2⟩ := h.rows r hr
  have hn : r.1.Nodup := by
    exact once_part h.once hr
  have hw := Row.walk (f := N) (Nat.le_trans h.sz.2 (by decide)) h1 h2 (range_le N r.1 hn (fun a ha => (h2 a ha).2.1))
  have hm : r.id ∈ r.1 := by
    obtain ⟨l, s⟩ := r
    cases l with
    | nil => exact h1.elim
    | cons a l => simp [Rec.id]
  obtain ⟨c1, c2, c3⟩ := h2 _ hm
  exact ⟨hw, c1, c2, c3, h1.count⟩
/-- A new heap. -/
theorem Hs.new (hN : 2 ≤ N ∧ N ≤ 1024) : Hs N (upG (takeG (fun _ => zeros) 1) 1 (rootP 0)) 0 [] := by
  have hz : (zeros : List UInt8).length = 128 := Dsk.zeros_len
  have hu := inU_take (G := fun _ => zeros) hz (by decide : 1 < 1024) (by decide : (1 : Nat) ≠ 0)
  have f1 := free_off (m := zeros) (m' := takeG (fun _ => zeros) 1 0) (k := 1) hu (by rw [use_zeros]; rfl) N
  rw [if_pos (by omega)] at f1
  have f0 : ∀ n, 1 ≤ n → freeN (zeros : List UInt8) n + 1 = n := by
    intro n hn
    induction n with
    | zero => omega
    | succ n ih =>
      show freeN zeros n + (if useB zeros n then 0 else 1) + 1 = n + 1
      rw [use_zeros]
      rcases n with _ | n
      · rfl
      · have := ih (by omega)
        simp; omega
  have h9 := f0 N (by omega)
  have u0 : upG (takeG (fun _ => zeros) 1) 1 (rootP 0) 0 = takeG (fun _ => zeros) 1 0 := upG_no (by decide)
  refine ⟨by rw [u0]; exact take_l0 hz (by decide), hN, ?_, upG_at, fun r hr => (by cases hr), List.nodup_nil, ?_⟩
  · rw [inU_up (by decide), hu]; simp
  · rw [u0]; show _ + 2 + 0 = N; omega
end
end Hep
end Go.Proofs.YtmccnlffikegfaaGreatDoor
/- A heap, plain: what its calls tell of any pages; a record dropped out of a row of records by its last. Conditions: as each says. -/
namespace Go.Proofs.YtmccnlffikegfaaGreatDoor
open Go.RowKit
namespace Hep
open Pgr
open Dsk (zeros pad pad_len)
section
variable {G G' G1 G2 : Pages} {N x : Nat} {l : List Nat} {s : List UInt8}
/-- No record begins at this number. -/
def noId (N : Nat) (G : Pages) (id : Int) : Prop := id < 2 ∨ (N : Int) ≤ id ∨ inU G id.toNat = false
open Classical in
/-- The record of this number, or what is wrong. -/
noncomputable def recOf (N : Nat) (G : Pages) (id : Int) : Rec × Int := if noId N G id then (([], []), 4) else match walk N G N id.toNat with
  | none => (([], []), 7)
  | some r => (r, 0)
theorem recOf_no {id : Int} (h : noId N G id) : recOf N G id = (([], []), 4) := if_pos h
theorem recOf_bad {id : Int} (h : ¬ noId N G id) (hw : walk N G N id.toNat = none) : recOf N G id = (([], []), 7) := by
  unfold recOf; rw [if_neg h, hw]
theorem recOf_yes {id : Int} {r : Rec} (h : ¬ noId N G id) (hw : walk N G N id.toNat = some r) : recOf N G id = (r, 0) := by
  unfold recOf; rw [if_neg h, hw]
/-- Any walk that ends serves. -/
theorem recOf_walk {id : Int} {r : Rec} {f : Nat} (h : ¬ noId N G id) (hw : walk N G f id.toNat = some r) : recOf N G id = (r, 0) := recOf_yes h (walk_more hw N (walk_full hw))
theorem Hs.recAt {A : List Rec} {r : Rec} (h : Hs N G x A) (hr : r ∈ A) : recOf N G (r.id : Int) = (r, 0) := by
  obtain ⟨h1, h2, h3, h4, _⟩ := h.got hr
  refine recOf_yes (fun c => ?_) (by simpa using h1)
  rcases c with c | c | c
  · omega
  · omega
  · rw [show ((r.id : Int)).toNat = r.id from rfl, h4] at c; cases c
/-- What a Put tells and leaves: ErrBig; ErrFull; or the pages taken have the record. -/
inductive PutR (N : Nat) (G : Pages) (s : List UInt8) : Nat → Int → Pages → Prop
  | big : 100000 < s.length → PutR N G s 0 19 G
  | full : s.length ≤ 100000 → freeN (G 0) N < need s.length → PutR N G s 0 3 G
  | put (l : List Nat) (G1 : Pages) : s.length ≤ 100000 → need s.length ≤ freeN (G 0) N → l.length = need s.length → Takes N G l G1 → PutR N G s (l.headD 0) 0 (lays l s G1)
theorem PutR.one {i j : Nat} {c e : Int} (h : PutR N G s i c G1) (k : PutR N G s j e G2) : i = j ∧ c = e ∧ G1 = G2 := by
  cases h <;> cases k
  · exact ⟨rfl, rfl, rfl⟩
  · omega
  · omega
  · omega
  · exact ⟨rfl, rfl, rfl⟩
  · omega
  · omega
  · omega
  · rename_i l1 H1 _ _ b1 t1 l2 H2 _ _ b2 t2
    obtain ⟨e1, e2⟩ := Takes.one t1 t2 (b1.trans b2.symm)
    subst e1
    exact ⟨rfl, rfl, by rw [e2]⟩
theorem Hs.putR {A : List Rec} {i : Nat} {c : Int} (h : Hs N G x A) (hp : PutR N G s i c G') : (c ≠ 0 ∧ i = 0 ∧ G' = G ∧ (100000 < s.length ∨ freeN (G 0) N < need s.length)) ∨ (c = 0 ∧ s.length ≤ 100000 ∧ need s.length ≤ freeN (G 0) N ∧ ∃ l, l.headD 0 = i ∧ l.length = need s.length ∧ Hs N G' x ((l, s) :: A)) := by
  cases hp with
  | big h1 => exact .inl ⟨by decide, rfl, rfl, .inl h1⟩
  | full h1 h2 => exact .inl ⟨by decide, rfl, rfl, .inr h2⟩
  | put l G1 h1 h2 h3 h4 => exact .inr ⟨rfl, h1, h2, l, rfl, h3, h.put h4 h3⟩
/-- The root's number in the root page. -/
theorem Hs.rootId {A : List Rec} (h : Hs N G x A) (hx : x < 65536) : rootOf (G 1) = x := by rw [h.root]; exact root_of hx
/-! ### A row of records out of which one goes, its place taken by the last -/
theorem perm_erase {α : Type} : ∀ (M : List α) (k : Nat) (h : k < M.length), M.Perm (M[k] :: M.eraseIdx k)
  | [], _, h => absurd h (Nat.not_lt_zero _)
  | a :: M, 0, _ => List.Perm.refl _
  | a :: M, k + 1, h => by
    have hk : k < M.length := by simpa using h
    have ih := perm_erase M k hk
    exact (List.Perm.cons a ih).trans (List.Perm.swap M[k] a (M.eraseIdx k))
theorem perm_swap {α : Type} : ∀ (L : List α) (k : Nat) (hk : k < L.length), L.Perm (L[k] :: (L.set k (L[L.length - 1]'(by omega))).dropLast) := by
  intro L k hk
  rcases List.eq_nil_or_concat L with h | ⟨M, b, h⟩
  · subst h; cases hk
  · rw [List.concat_eq_append] at h
    subst h
    have hb : (M ++ [b])[(M ++ [b]).length - 1]'(by simp) = b := by simp
    rw [hb]
    rcases Nat.lt_or_ge k M.length with h | h
    · rw [List.getElem_append_left h, List.set_append_left _ _ h, List.dropLast_concat]
      have h1 : M.Perm (M[k] :: M.eraseIdx k) := perm_erase M k h
      have h2 : (M.set k b).Perm (b :: M.eraseIdx k) := by
        have := perm_erase (M.set k b) k (by simpa using h)
        rw [List.getElem_set_self, List.eraseIdx_set_eq] at this
        exact this
      refine (List.perm_append_comm.trans ?_)
      show (b :: M).Perm _
      refine (List.Perm.cons b h1).trans ?_
      refine (List.Perm.swap M[k] b (M.eraseIdx k)).trans ?_
      exact List.Perm.cons _ h2.symm
    · have hk' : k = M.length := by simp at hk; omega
      subst hk'
      rw [List.getElem_append_right (Nat.le_refl _), List.set_append_right _ _ (Nat.le_refl _)]
      simp only [Nat.sub_self, List.set_cons_zero, List.dropLast_concat, List.getElem_cons_zero]
      exact List.perm_append_comm
end
end Hep
end Go.Proofs.YtmccnlffikegfaaGreatDoor
