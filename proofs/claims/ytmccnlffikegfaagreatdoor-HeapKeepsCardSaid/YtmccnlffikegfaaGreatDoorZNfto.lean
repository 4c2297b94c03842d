/- The program's heap with all its records: put, got, dropped, the root. Conditions: as each says. -/
import Derived.Test.YtmccnlffikegfaaGreatDoorZNcto
import Derived.Laws.MakeOwn
namespace Go.Proofs.YtmccnlffikegfaaGreatDoor
open Go.RowKit
namespace Hep
open Pgr
open Dsk (zeros pad pad_len KeepQ Only cell_later below_keeps owns_later)
open Crc (S S_of S_size S_append)
/-- These numbers are the least ones that are none of U, one behind the other. -/
def Least (N : Nat) : List Nat → List Nat → Prop
  | _, [] => True
  | U, k :: l => (k < N ∧ 2 ≤ k ∧ k ∉ U ∧ ∀ j, 2 ≤ j → j < k → j ∈ U) ∧ Least N (k :: U) l
theorem Takes.least {N : Nat} {G' : Pages} (hN : N ≤ 1024) : ∀ {l U : List Nat} {G : Pages}, (G 0).length = 128 → inU G 1 = true → (∀ j, j < N → inU G j = true → j < 2 ∨ j ∈ U) → (∀ j ∈ U, inU G j = true) → Takes N G l G' → Least N U l
  | [], _, _, _, _, _, _, _ => trivial
  | k :: l, U, G, hm, h1, hu, hU, h => by
    obtain ⟨a1, a2, a3, a4, a5⟩ := h
    have ht := inU_take hm (by omega : k < 1024) a2
    have hk1 : k ≠ 1 := fun e => by rw [e, h1] at a3; cases a3
    refine ⟨⟨a1, by omega, (fun e => by rw [hU k e] at a3; cases a3), fun j h2 hj => ?_⟩, Takes.least hN (take_l0 hm a2) (by rw [ht, h1]; rfl) (fun j hj hi => ?_) (fun j hj => ?_) a5⟩
    · rcases hu j (by omega) (a4 j hj) with e | e
      · omega
      · exact e
    · rw [ht] at hi
      rcases Bool.or_eq_true_iff.1 hi with e | e
      · exact (hu j hj e).imp id (fun e => List.mem_cons_of_mem _ e)
      · exact .inr (by rw [beq_iff_eq.1 e]; simp)
    · rw [ht]
      rcases List.mem_cons.1 hj with e | e
      · simp [e]
      · rw [hU j e]; rfl
theorem Least.one {N k m : Nat} {U l : List Nat} (h : Least N U (k :: l)) (h2 : 2 ≤ m) (hm : m ∉ U) (hU : ∀ j, 2 ≤ j → j < m → j ∈ U) : k = m := by
  obtain ⟨⟨h1, h3, h4, h5⟩, _⟩ := h
  rcases Nat.lt_trichotomy k m with c | c | c
  · exact absurd (hU k h3 c) h4
  · exact c
  · exact absurd (h5 m h2 c) hm
/-- The heap has the records A, and the root page the number x. -/
structure Hp (W : World) (Q : Nat → Prop) (B P L D n N K : Nat) (u : Bool) (V : Pages) (c : Nat) (G : Pages) (x : Nat) (A : List Rec) (w : World) : Prop where
  g : HG W Q B P L D n N K u V c G w
  h : Hs N G x A
  us : ∀ j, j < N → inU G j = true → j < 2 ∨ j ∈ pgs A
  rt : x = 0 ∨ ∃ r ∈ A, r.id = x
section
variable {W w w' : World} {Q Q' : Nat → Prop} {B P L D n N K : Nat} {u : Bool} {c c' : Nat} {V G G' : Pages} {x : Nat} {A : List Rec}
theorem Hp.later (h : Hp W Q B P L D n N K u V c G x A w) (hb : Below w.heap.size w w') : Hp W Q B P L D n N K u V c G x A w' := ⟨h.g.later hb, h.h, h.us, h.rt⟩
theorem Hp.kept (h : Hp W Q B P L D n N K u V c G x A w) (hb : Below w.heap.size w w') : KeepQ Q w w' := h.g.kept hb
theorem Hp.bel (h : Hp W Q B P L D n N K u V c G x A w) : Below W.heap.size W w := h.g.bel
theorem Hp.any (h : Hp W Q B P L D n N K u V c G x A w) : Hp W Q B P L D n N K u V N G x A w := ⟨h.g.any, h.h, h.us, h.rt⟩
theorem Hp.wide (h : Hp W Q B P L D n N K u V c G x A w) (hc : c ≤ c') : Hp W Q B P L D n N K u V c' G x A w := ⟨h.g.wide hc, h.h, h.us, h.rt⟩
theorem Hp.less (h : Hp W Q B P L D n N K u V c G x A w) (hQ : ∀ k, Q' k → Q k) (hB : Q' B) : Hp W Q' B P L D n N K u V c G x A w := ⟨h.g.less hQ hB, h.h, h.us, h.rt⟩
theorem Hp.guard (h : Hp W Q B P L D n N K u V c G x A w) (hb : Below w.heap.size w w') : Hp W (fun k => Q k ∨ (w.heap.size ≤ k ∧ k < w'.heap.size)) B P L D n N K u V c G x A w' := ⟨h.g.guard hb, h.h, h.us, h.rt⟩
theorem Hp.guardO {T : Nat → Prop} (h : Hp W Q B P L D n N K u V c G x A w) (ho : Only T w w') (hT : ∀ k, T k → Q k ∧ W.heap.size ≤ k) (hB : ¬ T B) : Hp W (fun k => Q k ∨ (w.heap.size ≤ k ∧ k < w'.heap.size)) B P L D n N K u V c G x A w' := ⟨h.g.guardO ho hT hB, h.h, h.us, h.rt⟩
theorem Hp.perm {A' : List Rec} (h : Hp W Q B P L D n N K u V c G x A w) (hp : A.Perm A') : Hp W Q B P L D n N K u V c G x A' w := by
  have hq : (pgs A).Perm (pgs A') := List.Perm.flatMap_right (fun r : Rec => r.1) hp
  exact ⟨h.g, h.h.perm hp, fun j hj hi => (h.us j hj hi).imp id (fun e => hq.mem_iff.1 e), h.rt.imp id (fun ⟨r, hr, e⟩ => ⟨r, hp.mem_iff.1 hr, e⟩)⟩
theorem Hp.xlt (h : Hp W Q B P L D n N K u V c G x A w) : x < 65536 := by
  rcases h.rt with e | ⟨r, hr, e⟩
  · omega
  · obtain ⟨_, _, h3, _⟩ := h.h.got hr
    have := h.h.sz.2
    omega
theorem Hp.frees (h : Hp W Q B P L D n N K u V c G x A w) : Calls Tryz.prog 14 #[.pointer (some ⟨P, 0, none⟩)] w fun e w' => e = .returned (.int .i64 ((N - (2 + (pgs A).length) : Nat) : Int)) ∧ Below w.heap.size w w' := by
  have h1 := h.g.pg.frees
  have h2 := h.h.free
  rw [show freeN (G 0) N = N - (2 + (pgs A).length) by omega] at h1
  exact h1
theorem Hp.need (h : Hp W Q B P L D n N K u V c G x A w) (k : Nat) (hk : k ≤ 100000) : Calls Tryz.prog 12 #[.pointer (some ⟨B, 0, none⟩), .int .i64 (k : Int)] w fun e w' => e = .returned (.int .i64 (Hep.need k : Int)) ∧ w = w' := hneed_any h.g k hk
theorem Hp.get {r : Rec} (h : Hp W Q B P L D n N K u V c G x A w) (hr : r ∈ A) (k : Nat) (hk : r.id = k) : Calls Tryz.prog 13 #[.pointer (some ⟨B, 0, none⟩), .int .i64 (k : Int)] w fun e w' => e = .returned (.tuple #[.string (S r.2), .int .i64 0]) ∧ Below w.heap.size w w' := by
  obtain ⟨h1, h2, h3, h4, _⟩ := h.h.got hr
  rw [hk] at h1 h2 h3 h4
  exact hget_yes h.g k h2 h3 h4 r h1
theorem Hp.root_no (h : Hp W Q B P L D n N K u V c G 0 A w) : Calls Tryz.prog 22 #[.pointer (some ⟨B, 0, none⟩)] w fun e w' => e = .returned (.tuple #[.string ⟨#[]⟩, .int .i64 4]) ∧ Below w.heap.size w w' :=
  hrootget_no h.g h.h.sz.1 (h.h.rootId (by decide))
theorem Hp.root {r : Rec} (h : Hp W Q B P L D n N K u V c G x A w) (hr : r ∈ A) (hx : r.id = x) : Calls Tryz.prog 22 #[.pointer (some ⟨B, 0, none⟩)] w fun e w' => e = .returned (.tuple #[.string (S r.2), .int .i64 0]) ∧ Below w.heap.size w w' := by
  obtain ⟨h1, h2, h3, h4, _⟩ := h.h.got hr
  rw [hx] at h1 h2 h3 h4
  exact hrootget_yes h.g x (h.h.rootId h.xlt) h2 h3 h4 r h1
theorem Hp.put_no (h : Hp W Q B P L D n N K u V c G x A w) (s : List UInt8) (hs : s.length ≤ 100000) (hf : N < Hep.need s.length + 2 + (pgs A).length) : Calls Tryz.prog 9 #[.pointer (some ⟨B, 0, none⟩), .string (S s)] w fun e w' => e = .returned (.tuple #[.int .i64 0, .int .i64 3]) ∧ Below w.heap.size w w' :=
  hput_full h.g (S s) (by rw [S_size]; exact hs) (by rw [S_size]; have := h.h.free; omega)
/-- What a Put comes to that finds room: the least pages that are free. -/
def PutQ (W : World) (Q : Nat → Prop) (B P L D n N K : Nat) (u : Bool) (V : Pages) (c x : Nat) (A : List Rec) (s : List UInt8) (w : World) (e : Ending) (w' : World) : Prop :=
  ∃ (l : List Nat) (G' : Pages), e = .returned (.tuple #[.int .i64 ((l.headD 0 : Nat) : Int), .int .i64 0]) ∧ l.length = Hep.need s.length ∧ Least N (pgs A) l ∧ Hp W Q B P L D n N K u V (c + 3 * Hep.need s.length) G' x ((l, s) :: A) w' ∧ KeepQ Q w w'
theorem put_use {l : List Nat} {s : List UInt8} {G1 : Pages} (h : Hs N G x A) (hu : ∀ j, j < N → inU G j = true → j < 2 ∨ j ∈ pgs A) (ht : Takes N G l G1) : ∀ j, j < N → inU (lays l s G1) j = true → j < 2 ∨ j ∈ pgs ((l, s) :: A) := fun j hj hi => by
  have htk := ht.took h.sz.2 h.l0
  have h0l : 0 ∉ l := fun e => (htk.was 0 e).2.1 rfl
  rw [lays_use h0l, htk.use] at hi
  show j < 2 ∨ j ∈ l ++ pgs A
  rcases Bool.or_eq_true_iff.1 hi with e | e
  · exact (hu j hj e).imp id (fun e => List.mem_append.2 (.inr e))
  · exact .inr (List.mem_append.2 (.inl (of_decide_eq_true e)))
theorem drop_use {r : Rec} (h : Hs N G x (r :: A)) (hu : ∀ j, j < N → inU G j = true → j < 2 ∨ j ∈ pgs (r :: A)) : ∀ j, j < N → inU (gives r.1 G) j = true → j < 2 ∨ j ∈ pgs A := fun j hj hi => by
  obtain ⟨h1, h2⟩ := h.rows r (by simp)
  have hn : (r.1 ++ pgs A).Nodup := h.once
  have t := gave h.sz.2 h.l0 (List.nodup_append.1 hn).1 (fun a ha => by obtain ⟨c1, c2, c3⟩ := h2 a ha; exact ⟨c3, by omega, c2⟩)
  rw [t.use] at hi
  obtain ⟨e1, e2⟩ := Bool.and_eq_true_iff.1 hi
  rcases hu j hj e1 with e | e
  · exact .inl e
  · rcases List.mem_append.1 (show j ∈ r.1 ++ pgs A from e) with e3 | e3
    · simp [e3] at e2
    · exact .inr e3
theorem Hp.least {l : List Nat} {G1 : Pages} (h : Hp W Q B P L D n N K u V c G x A w) (ht : Takes N G l G1) : Least N (pgs A) l := Takes.least h.h.sz.2 h.h.l0 h.h.one h.us (fun _ hj => (h.h.in hj).2.2) ht
theorem Hp.put (h : Hp W Q B P L D n N K u V c G x A w) (s : List UInt8) (hs : s.length ≤ 100000) (hf : Hep.need s.length + 2 + (pgs A).length ≤ N) : Calls Tryz.prog 9 #[.pointer (some ⟨B, 0, none⟩), .string (S s)] w fun e w' => PutQ W Q B P L D n N K u V c x A s w e w' := by
  refine (hput_yes h.g s hs (by have := h.h.free; omega)).mono fun e w' hh => ?_
  obtain ⟨l, G1, he, hl, ht, hg, hk⟩ := hh
  exact ⟨l, _, he, hl, h.least ht, ⟨hg, h.h.put ht hl, put_use h.h h.us ht, h.rt.imp id (fun ⟨r, hr, e⟩ => ⟨r, List.mem_cons_of_mem _ hr, e⟩)⟩, hk⟩
/-- What is gone is told so. -/
def GetNo (B k : Nat) (w : World) : Prop := ∀ z, Below w.heap.size w z → Calls Tryz.prog 13 #[.pointer (some ⟨B, 0, none⟩), .int .i64 (k : Int)] z fun e w' => e = .returned (.tuple #[.string ⟨#[]⟩, .int .i64 4]) ∧ Below z.heap.size z w'
theorem GetNo.later {k : Nat} (h : GetNo B k w) (hb : Below w.heap.size w w') : GetNo B k w' := fun z hz => h z (hb.trans (hz.mono hb.size))
theorem Hp.drop {r : Rec} (h : Hp W Q B P L D n N K u V c G x (r :: A) w) (hx : x = 0 ∨ ∃ q ∈ A, q.id = x) (k : Nat) (hk : r.id = k) : Calls Tryz.prog 10 #[.pointer (some ⟨B, 0, none⟩), .int .i64 (k : Int)] w fun e w' => e = .returned (.int .i64 0) ∧ (∃ G', Hp W Q B P L D n N K u V (c + r.1.length) G' x A w') ∧ GetNo B k w' ∧ KeepQ Q w w' := by
  obtain ⟨h1, h2, h3, h4, h5⟩ := h.h.got (r := r) (by simp)
  have hm : r.id ∈ r.1 := by
    obtain ⟨hr, _⟩ := h.h.rows r (by simp)
    obtain ⟨l, s⟩ := r
    cases l with
    | nil => exact hr.elim
    | cons a l => simp [Rec.id]
  have hgone := h.h.gone hm
  rw [hk] at h1 h2 h3 h4 hgone
  refine (hdrop_yes h.g k h2 h3 h4 r h1).mono fun e w' hh => ?_
  obtain ⟨he, hg, hkq⟩ := hh
  exact ⟨he, ⟨_, hg, h.h.drop, drop_use h.h h.us, hx⟩, fun z hz => hget_no (hg.later hz) k (.inr (.inr (by simpa using hgone))), hkq⟩
theorem Hp.old_none (h : Hp W Q B P L D n N K u V c G 0 A w) : Old N G (rootOf (G 1)) ([], []) := .inl ⟨.inl (by rw [h.h.rootId (by decide)]; decide), rfl⟩
theorem Hp.old {r : Rec} (h : Hp W Q B P L D n N K u V c G x A w) (hr : r ∈ A) (hx : r.id = x) : Old N G (rootOf (G 1)) r := by
  obtain ⟨h1, h2, h3, h4, _⟩ := h.h.got hr
  rw [hx] at h1 h2 h3 h4
  rw [h.h.rootId h.xlt]
  exact .inr ⟨h2, h3, h4, h1⟩
/-- What a SetRoot comes to that finds room. -/
def SetQ (W : World) (Q : Nat → Prop) (B P L D n N K : Nat) (u : Bool) (V : Pages) (c m : Nat) (A A' : List Rec) (s : List UInt8) (w : World) (e : Ending) (w' : World) : Prop :=
  ∃ (l : List Nat) (G' : Pages), e = .returned (.int .i64 0) ∧ l.length = Hep.need s.length ∧ Least N (pgs A) l ∧ Hp W Q B P L D n N K u V (c + 3 * Hep.need s.length + m + 1) G' (l.headD 0) ((l, s) :: A') w' ∧ KeepQ Q w w'
theorem Hp.set_first (h : Hp W Q B P L D n N K u V c G 0 A w) (s : List UInt8) (hs : s.length ≤ 100000) (hf : Hep.need s.length + 2 + (pgs A).length ≤ N) : Calls Tryz.prog 11 #[.pointer (some ⟨B, 0, none⟩), .string (S s)] w fun e w' => SetQ W Q B P L D n N K u V c 0 A A s w e w' := by
  refine (hset_yes h.g h.h.sz.1 ([], []) h.old_none s hs (by have := h.h.free; omega)).mono fun e w' hh => ?_
  obtain ⟨l, G1, he, hl, ht, hg, hk⟩ := hh
  refine ⟨l, _, he, hl, h.least ht, ⟨hg, ((h.h.put ht hl)).mark _, fun j hj hi => ?_, .inr ⟨(l, s), by simp, rfl⟩⟩, hk⟩
  rw [inU_up (by decide)] at hi
  exact put_use h.h h.us ht j hj hi
theorem Hp.set_again {r : Rec} (h : Hp W Q B P L D n N K u V c G x (r :: A) w) (hx : r.id = x) (s : List UInt8) (hs : s.length ≤ 100000) (hf : Hep.need s.length + 2 + (pgs (r :: A)).length ≤ N) : Calls Tryz.prog 11 #[.pointer (some ⟨B, 0, none⟩), .string (S s)] w fun e w' => SetQ W Q B P L D n N K u V c r.1.length (r :: A) A s w e w' := by
  refine (hset_yes h.g h.h.sz.1 r (h.old (by simp) hx) s hs (by have := h.h.free; omega)).mono fun e w' hh => ?_
  obtain ⟨l, G1, he, hl, ht, hg, hk⟩ := hh
  have hp1 : Hs N (lays l s G1) x (r :: (l, s) :: A) := (h.h.put ht hl).perm (List.Perm.swap _ _ _)
  have hu1 : ∀ j, j < N → inU (lays l s G1) j = true → j < 2 ∨ j ∈ pgs (r :: (l, s) :: A) := fun j hj hi => (put_use h.h h.us ht j hj hi).imp id (fun e => by
    have hq : (pgs ((l, s) :: r :: A)).Perm (pgs (r :: (l, s) :: A)) := List.Perm.flatMap_right (fun r : Rec => r.1) (List.Perm.swap _ _ _)
    exact hq.mem_iff.1 e)
  refine ⟨l, _, he, hl, h.least ht, ⟨hg, hp1.drop.mark _, fun j hj hi => ?_, .inr ⟨(l, s), by simp, rfl⟩⟩, hk⟩
  rw [inU_up (by decide)] at hi
  exact drop_use hp1 hu1 j hj hi
theorem Hp.set_no {r : Rec} (h : Hp W Q B P L D n N K u V c G x A w) (ho : Old N G (rootOf (G 1)) r) (s : List UInt8) (hs : s.length ≤ 100000) (hf : N < Hep.need s.length + 2 + (pgs A).length) : Calls Tryz.prog 11 #[.pointer (some ⟨B, 0, none⟩), .string (S s)] w fun e w' => e = .returned (.int .i64 3) ∧ Below w.heap.size w w' :=
  hset_bad h.g h.h.sz.1 r ho (S s) 3 (by decide) (fun z hz => (h.later hz).put_no s hs hf)
theorem Hp.new (h : HG W Q B P L D n N K u V c (upG (takeG (fun _ => zeros) 1) 1 (rootP 0)) w) (hN : 2 ≤ N ∧ N ≤ 1024) : Hp W Q B P L D n N K u V c (upG (takeG (fun _ => zeros) 1) 1 (rootP 0)) 0 [] w := by
  refine ⟨h, Hs.new hN, fun j hj hi => ?_, .inl rfl⟩
  rw [inU_up (by decide), inU_take (G := fun _ => zeros) Dsk.zeros_len (by decide) (by decide)] at hi
  unfold inU at hi
  rw [use_zeros] at hi
  left
  simp at hi
  omega
end
end Hep
end Go.Proofs.YtmccnlffikegfaaGreatDoor
/- What the laws of layer 10 call: begin, long. Conditions: as each says. -/
namespace Go.Proofs.YtmccnlffikegfaaGreatDoor
open Go.RowKit
namespace Hep
open Pgr
open Dsk (zeros pad pad_len KeepQ Only cell_later below_keeps owns_later PD Mine)
open Crc (S S_of S_size S_append)
def bys (l : List UInt8) : List Value := l.map fun b => .int .u8 (b.toNat : Int)
/-- Block g holds these bytes. -/
def RowB (g : Nat) (l : List UInt8) (w : World) : Prop := w.heap[g]? = some (.cells (bys l).toArray 5 (0, 0))
theorem RowB.at {g : Nat} {l : List UInt8} {w : World} (h : RowB g l w) (j : Nat) (hj : j < l.length) : w.cell? ⟨g, j, none⟩ = some (.int .u8 ((l[j]).toNat : Int)) := by
  rw [cell_of_row w g j _ _ (0, 0) h]
  unfold bys; simp [hj]
theorem RowB.set {g : Nat} {l : List UInt8} {w : World} (h : RowB g l w) (j : Nat) (x : UInt8) : RowB g (l.set j x) (w.setCell ⟨g, j, none⟩ (.int .u8 (x.toNat : Int))) := by
  unfold RowB
  rw [heap_setCell_same w g j _ _ _ h]
  simp [bys, List.map_set]
theorem RowB.made (w : World) (n : Nat) : RowB w.heap.size (List.replicate n 0) (w.alloc (.cells (madeCells #[.int .u8 0] n) 5)) := by
  unfold RowB
  rw [heap_alloc_last]
  congr 2
  apply Array.toList_inj.1
  rw [toList_madeCells_one]
  simp [bys]
theorem mkBytes (n : Nat) (hn : n ≤ 1000000) (w : World) : (Instr.makeSlice 62 (.int .i64 (n : Int)) (.int .i64 (n : Int))).run Tryz.prog w = .ok (.slice (some ⟨w.heap.size, 0, none⟩) n n) (w.alloc (.cells (madeCells #[.int .u8 0] n) 5)) := by
  obtain ⟨i0, hi, hz0, hz1, hz2⟩ := info_parts (P := Tryz.prog) (e := 5) (z := .int .u8 0) (size := 1) (bytes := 1) (by kernel_rfl)
  have := run_makeSlice (P := Tryz.prog) (w := w) 62 5 i0 (.int .u8 0) Tryz.underlying62 hi hz0 .i64 .i64 n n (by omega) (Int.le_refl _) (by rw [hz1]; omega) (by rw [hz2]; omega) (by omega)
  rw [hz1] at this
  simp only [Int.toNat_natCast, Nat.mul_one] at this
  exact this
/-- So many bytes c. -/
def manyB (n : Nat) (c : UInt8) : List UInt8 := List.replicate n c
theorem many_len (n : Nat) (c : UInt8) : (manyB n c).length = n := List.length_replicate
set_option maxHeartbeats 4000000 in
set_option maxRecDepth 100000 in
theorem long_any (n : Nat) (hn : n ≤ 100001) (c : UInt8) (w : World) :
    Calls Tryz.prog 16 #[.int .i64 (n : Int), .int .u8 (c.toNat : Int)] w fun e w' => e = .returned (.string (S (manyB n c))) ∧ Below w.heap.size w w' := by
  have hc9 := c.toNat_lt
  obtain ⟨x, hx⟩ : ∃ x, x = c.toNat := ⟨_, rfl⟩
  rw [← hx] at hc9 ⊢
  have HX := hidm hx
  have mk0 := mkBytes n (by omega) w
  have f0 := RowB.made w n
  obtain ⟨w1, hw1⟩ : ∃ w1, w1 = w.alloc (.cells (madeCells #[.int .u8 0] n) 5) := ⟨_, rfl⟩
  obtain ⟨g, hg⟩ : ∃ g, g = w.heap.size := ⟨_, rfl⟩
  have hb1 : Below w.heap.size w w1 := by rw [hw1]; exact (Below.refl _ _).alloc (Nat.le_refl _) _
  rw [← hw1, ← hg] at f0 mk0
  have HB1 := hidm hb1
  have HF0 := hidm f0
  have HGG := hidm (show w.heap.size ≤ g from by omega)
  have hn9 : (n : Int) ≤ 1000000 := by omega
  have HN := hidm (show n ≤ 1000000 from by omega)
  clear hw1 hg hb1 f0 hx hn
  go_enter Tryz.func16, Tryz.ntmps16
  go_wp2_with fail
  go_loopw [6] (fun ii wr => ∃ i : Nat, ii = .int .i64 (i : Int) ∧ i ≤ n ∧ Hid (RowB g (List.replicate i c ++ List.replicate (n - i) 0) wr ∧ Below w.heap.size w wr)) (fun ii _ => n - (intOf ii).toNat)
  case atStart => exact ⟨0, rfl, by omega, hidm ⟨by simpa using HF0.out, HB1.out⟩⟩
  case round =>
    rename World => wr
    obtain ⟨i, rfl, hi, HZ⟩ := hrel
    clear mk0
    rcases Nat.lt_or_ge i n with hlt | hge
    · have g1 : (i : Int) < (n : Int) := by omega
      have hil : i < (List.replicate i c ++ List.replicate (n - i) 0).length := by simp; omega
      have q0 := HZ.out.1.at i hil
      have z0 := frozen_of_row wr g i _ _ HZ.out.1
      obtain ⟨v0, hv0⟩ : ∃ v, v = (((List.replicate i c ++ List.replicate (n - i) 0)[i]).toNat : Int) := ⟨_, rfl⟩
      rw [← hv0] at q0
      have HS := hidm (show RowB g (List.replicate (i + 1) c ++ List.replicate (n - (i + 1)) 0) (wr.setCell ⟨g, i, none⟩ (.int .u8 (x : Int))) from by
        have h1 := HZ.out.1.set i c
        rw [← HX.out] at h1
        have h2 : (List.replicate i c ++ List.replicate (n - i) (0 : UInt8)).set i c = List.replicate (i + 1) c ++ List.replicate (n - (i + 1)) 0 := by
          rw [List.set_append_right _ _ (by simp)]
          simp only [List.length_replicate, Nat.sub_self]
          rw [show n - i = (n - (i + 1)) + 1 by omega, List.replicate_succ, List.set_cons_zero, List.replicate_succ', List.append_assoc]
          rfl
        rw [h2] at h1
        exact h1)
      have HB2 := hidm (HZ.out.2.setCell (p := ⟨g, i, none⟩) HGG.out (.int .u8 (x : Int)))
      obtain ⟨i2, hi2⟩ : ∃ i2, i2 = i + 1 := ⟨_, rfl⟩
      have e1 : (i : Int) + 1 = (i2 : Int) := by omega
      have e1w : IntKind.i64.wrap (i2 : Int) = (i2 : Int) := by have := HN.out; simp only [IntKind.wrap_i64]; omega
      have HI2 := hidm hi2
      have HIK := hidm (show i2 ≤ n from by omega)
      clear hi2 hv0 hil hi
      go_wp2_with fail
      go_roundw
      case rel => exact ⟨i2, rfl, HIK.out, hidm ⟨by rw [HI2.out]; exact HS.out, HB2.out⟩⟩
      case measure => have := HI2.out; simp [intOf]; omega
    · obtain rfl : i = n := by omega
      have g1 : ¬ (i : Int) < (i : Int) := by omega
      have hcv := run_convert_bytes_back (P := Tryz.prog) wr 62 9 5 ⟨g, 0, none⟩ i (manyB i c) Tryz.underlying62 Tryz.underlying5 Tryz.underlying9 (fun j hj => by
        have hadd : (⟨g, 0, none⟩ : Addr).add j = ⟨g, j, none⟩ := by unfold Addr.add; split <;> simp_all
        rw [many_len] at hj
        rw [hadd, HZ.out.1.at j (by simp; omega)]
        simp [manyB])
      rw [many_len] at hcv
      obtain ⟨T, hT⟩ : ∃ T, T = S (manyB i c) := ⟨_, rfl⟩
      rw [show (⟨(manyB i c).toArray⟩ : ByteArray) = T from hT.symm] at hcv
      have HT := hidm hT
      clear hi hT
      go_wp2_with fail
      go_ret
      exact ⟨by rw [HT.out]; rfl, HZ.out.2⟩
/-- What begin comes to. -/
def BeginP (many : Nat) (w : World) (e : Ending) (w' : World) : Prop := ∃ P L D B Q, e = .returned (.tuple #[.pointer (some ⟨P, 0, none⟩), .pointer (some ⟨B, 0, none⟩)]) ∧ Hp w Q B P L D 8 many 2000 true (fun _ => zeros) 3 (upG (takeG (fun _ => zeros) 1) 1 (rootP 0)) 0 [] w'
theorem pvg_new {W : World} {Q : Nat → Prop} {P L D n N K : Nat} {V : Pages} {w : World} (h : Lv W Q P L D n N K true [] V w) : PvG W Q P L D n N K true V 0 V w := ⟨[], h, rfl, Nat.le_refl _⟩
theorem zero_free : inU (fun _ => zeros) 1 = false := by unfold inU; rw [use_zeros]; rfl
set_option maxHeartbeats 4000000 in
set_option maxRecDepth 100000 in
theorem begin_any (many : Nat) (hm : 2 ≤ many ∧ many ≤ 1000) (w : World) :
    Calls Tryz.prog 8 #[.int .i64 (many : Int)] w fun e w' => BeginP many w e w' := by
  obtain ⟨tot, ht⟩ : ∃ t, t = 10 + many := ⟨_, rfl⟩
  have ft : 10 + (many : Int) = (tot : Int) := by omega
  have ftw : IntKind.i64.wrap (tot : Int) = (tot : Int) := by simp only [IntKind.wrap_i64]; omega
  have N0 := hidm (Dsk.m_new (W := w) (w := w) tot (by omega) (by omega) (Below.refl _ _))
  have HT := hidm ht
  have HM := hidm hm
  clear ht hm
  go_enter Tryz.func8, Tryz.ntmps8
  go_wp2_with fail
  refine N0.out.mono ?_
  rintro e w1 ⟨rfl, hm1, hb1⟩
  have R1 := hidm (Re.new (n := 8) (N := many) (by have := HM.out.1; omega) (by rw [HT.out] at hm1; exact hm1))
  obtain ⟨D, hD⟩ : ∃ D, D = w.heap.size + 1 := ⟨_, rfl⟩
  rw [← hD] at R1 ⊢
  clear hD hm1 hb1 N0
  go_wp2_with fail
  refine (R1.out.open (by omega) (by have := HM.out; omega) (by omega) 10 rfl).mono ?_
  rintro e w2 ⟨P, L, rfl, h2, _⟩
  have H2 := hidm (pvg_new (h2.more (K' := 2000) (by omega)))
  clear h2 R1
  go_wp2_with fail
  refine (hopen_new H2.out HM.out.1 zero_free).mono ?_
  rintro e w3 ⟨B, Q', rfl, _, h3, _, _⟩
  have H3 := hidm (Hp.new h3 (by have := HM.out; omega))
  clear h3 H2
  go_wp2_with fail
  go_ret2
  exact ⟨P, L, D, B, Q', rfl, H3.out⟩
end Hep
end Go.Proofs.YtmccnlffikegfaaGreatDoor
/- What must come of the fixed calls of the laws of layer 10. No condition. -/
namespace Go.Proofs.YtmccnlffikegfaaGreatDoor
open Go.RowKit
namespace Hep
open Pgr
open Dsk (zeros pad pad_len KeepQ Only cell_later below_keeps owns_later PD Mine)
open Crc (S S_of S_size S_append)
theorem least_one {N m : Nat} {U l : List Nat} (h : Least N U l) (hl : l.length = 1) (h2 : 2 ≤ m) (hm : m ∉ U) (hU : ∀ j, 2 ≤ j → j < m → j ∈ U) : l = [m] := by
  match l, hl with
  | [k], _ => rw [h.one h2 hm hU]
theorem least_two {N m : Nat} {U l : List Nat} (h : Least N U l) (hl : l.length = 2) (h2 : 2 ≤ m) (hm : m ∉ U) (hU : ∀ j, 2 ≤ j → j < m → j ∈ U) (hm2 : m + 1 ∉ U) : l = [m, m + 1] := by
  match l, hl with
  | [k, k2], _ =>
    have e := h.one h2 hm hU
    subst e
    have h9 : Least N (k :: U) [k2] := h.2
    have e2 := h9.one (m := k + 1) (by omega) (by simp [hm2]) (fun j h3 h4 => by
      rcases Nat.lt_or_ge j k with c | c
      · exact List.mem_cons_of_mem _ (hU j h3 c)
      · rw [show j = k by omega]; simp)
    rw [e2]
set_option maxHeartbeats 16000000 in
set_option maxRecDepth 100000 in
theorem known_any (w : World) : Calls Tryz.prog 15 #[] w fun e w' => e = .returned (.bool true) ∧ Below w.heap.size w w' := by
  obtain ⟨X, hX⟩ : ∃ X, X = manyB 126 120 := ⟨_, rfl⟩
  have hXl : X.length = 126 := by rw [hX]; exact many_len _ _
  obtain ⟨Z, hZ⟩ : ∃ Z, Z = manyB 2000 122 := ⟨_, rfl⟩
  have hZl : Z.length = 2000 := by rw [hZ]; exact many_len _ _
  obtain ⟨TX, hTX⟩ : ∃ T, T = S X := ⟨_, rfl⟩
  obtain ⟨TZ, hTZ⟩ : ∃ T, T = S Z := ⟨_, rfl⟩
  have LX := hidm (fun (z : World) => show Calls Tryz.prog 16 #[.int .i64 126, .int .u8 120] z fun e w' => e = .returned (.string TX) ∧ Below z.heap.size z w' from by
    rw [hTX, hX]; exact long_any 126 (by omega) 120 z)
  have LZ := hidm (fun (z : World) => show Calls Tryz.prog 16 #[.int .i64 2000, .int .u8 122] z fun e w' => e = .returned (.string TZ) ∧ Below z.heap.size z w' from by
    rw [hTZ, hZ]; exact long_any 2000 (by omega) 122 z)
  have HXL := hidm (show X.length = 126 ∧ TX = S X from ⟨hXl, hTX⟩)
  have HZL := hidm (show Z.length = 2000 ∧ TZ = S Z from ⟨hZl, hTZ⟩)
  have N0 := hidm (show Calls Tryz.prog 8 #[.int .i64 12] w fun e w' => BeginP 12 w e w' from begin_any 12 (by omega) w)
  clear hX hZ hXl hZl hTX hTZ
  go_enter Tryz.func15, Tryz.ntmps15
  go_wp2_with fail
  refine N0.out.mono ?_
  rintro e w1 ⟨P, L, D, B, Q, rfl, h1⟩
  have H1 := hidm h1.any
  clear h1 N0
  go_wp2_with fail
  refine (LX.out w1).mono ?_
  rintro e w2 ⟨rfl, hb⟩
  have H2 := hidm (H1.out.later hb)
  clear hb H1
  have C := H2.out.put X (by rw [HXL.out.1]; omega) (by rw [HXL.out.1]; decide)
  rw [← HXL.out.2] at C
  go_wp2_with fail
  refine C.mono ?_
  rintro e w3 ⟨l, G, rfl, hl, hle, hp, _⟩
  rw [HXL.out.1] at hl
  have e3 := least_two (m := 2) hle hl (by omega) (by decide) (fun j _ _ => by omega) (by decide)
  subst e3
  have H3 := hidm hp.any
  clear hl hle hp C H2
  have C := H3.out.put [] (by simp) (by simp [pgs, Hep.need])
  go_wp2_with fail
  refine C.mono ?_
  rintro e w4 ⟨l, G, rfl, hl, hle, hp, _⟩
  have e4 := least_one (m := 4) hle hl (by omega) (by simp [pgs]) (fun j _ _ => by simp [pgs]; omega)
  subst e4
  have H4 := hidm hp.any
  clear hl hle hp C H3
  go_wp2_with fail
  refine H4.out.root_no.mono ?_
  rintro e w5 ⟨rfl, hb⟩
  have H5 := hidm (H4.out.later hb)
  clear hb H4
  have C := H5.out.set_first [114] (by simp) (by simp [pgs, Hep.need])
  go_wp2_with fail
  refine C.mono ?_
  rintro e w6 ⟨l, G, rfl, hl, hle, hp, _⟩
  have e6 := least_one (m := 5) hle hl (by omega) (by simp [pgs]) (fun j _ _ => by simp [pgs]; omega)
  subst e6
  have H6 := hidm hp.any
  clear hl hle hp C H5
  have C := H6.out.set_again rfl [115] (by simp) (by simp [pgs, Hep.need])
  go_wp2_with fail
  refine C.mono ?_
  rintro e w7 ⟨l, G, rfl, hl, hle, hp, _⟩
  have e7 := least_one (m := 6) hle hl (by omega) (by simp [pgs]) (fun j _ _ => by simp [pgs]; omega)
  subst e7
  have H7 := hidm hp.any
  clear hl hle hp C H6
  have C := H7.out.get (r := ([2, 3], X)) (by simp) 2 rfl
  rw [show S (([2, 3], X) : Rec).2 = TX from HXL.out.2.symm] at C
  go_wp2_with fail
  refine C.mono ?_
  rintro e w8 ⟨rfl, hb⟩
  have H8 := hidm ((H7.out.later hb).perm (A' := [([2, 3], X), ([6], [115]), ([4], [])]) (by
    show ([([6], [115]), ([4], []), ([2, 3], X)] : List Rec).Perm _
    exact (List.perm_append_comm (l₁ := ([([6], [115]), ([4], [])] : List Rec)) (l₂ := [([2, 3], X)]))))
  clear hb H7 C
  go_wp2_with fail
  refine (H8.out.drop (.inr ⟨([6], [115]), by simp, rfl⟩) 2 rfl).mono ?_
  rintro e w9 ⟨rfl, ⟨G, hp⟩, hgn, _⟩
  have H9 := hidm hp.any
  have HN := hidm hgn
  clear hp hgn H8
  go_wp2_with fail
  refine (HN.out w9 (Below.refl _ _)).mono ?_
  rintro e w10 ⟨rfl, hb⟩
  have H10 := hidm (H9.out.later hb)
  clear hb H9 HN
  have C := H10.out.root (r := ([6], [115])) (by simp) rfl
  go_wp2_with fail
  refine C.mono ?_
  rintro e w11 ⟨rfl, hb⟩
  have H11 := hidm (H10.out.later hb)
  clear hb H10 C
  have C := H11.out.put [121] (by simp) (by decide)
  go_wp2_with fail
  refine C.mono ?_
  rintro e w12 ⟨l, G, rfl, hl, hle, hp, _⟩
  have e12 := least_one (m := 2) hle hl (by omega) (by decide) (fun j _ _ => by omega)
  subst e12
  have H12 := hidm hp.any
  clear hl hle hp C H11
  go_wp2_with fail
  refine (LZ.out w12).mono ?_
  rintro e w13 ⟨rfl, hb⟩
  have H13 := hidm (H12.out.later hb)
  clear hb H12
  have C := H13.out.put_no Z (by rw [HZL.out.1]; omega) (by rw [HZL.out.1]; decide)
  rw [← HZL.out.2] at C
  go_wp2_with fail
  refine C.mono ?_
  rintro e w14 ⟨rfl, hb⟩
  have H14 := hidm (H13.out.later hb)
  clear hb H13 C
  go_wp2_with fail
  refine (LX.out w14).mono ?_
  rintro e w15 ⟨rfl, hb⟩
  have H15 := hidm (H14.out.later hb)
  clear hb H14
  go_wp2_with fail
  refine (H15.out.need 125 (by omega)).mono ?_
  rintro e wx ⟨rfl, hwx⟩
  cases hwx
  go_wp2_with fail
  refine (H15.out.need 126 (by omega)).mono ?_
  rintro e wx ⟨rfl, hwx⟩
  cases hwx
  go_wp2_with fail
  refine (hneed_neg H15.out.g).mono ?_
  rintro e wx ⟨rfl, hwx⟩
  cases hwx
  go_wp2_with fail
  refine H15.out.frees.mono ?_
  rintro e w16 ⟨rfl, hb⟩
  have H16 := hidm (H15.out.later hb)
  clear hb H15
  go_wp2_with fail
  go_ret
  exact ⟨by trivial, H16.out.bel⟩
end Hep
end Go.Proofs.YtmccnlffikegfaaGreatDoor
