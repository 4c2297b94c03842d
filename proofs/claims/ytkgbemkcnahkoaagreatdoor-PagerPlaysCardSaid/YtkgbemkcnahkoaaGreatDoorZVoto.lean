import Derived.Test.YtkgbemkcnahkoaaGreatDoorZVh
import Derived.Test.YtkgbemkcnahkoaaGreatDoorZVlto
import Derived.Test.YtkgbemkcnahkoaaGreatDoorZPmto
namespace Go.Proofs.YtkgbemkcnahkoaaGreatDoor
open Go.RowKit
namespace Pgr
open Wal
open Dsk (PD RefIs Only Grow KeepQ upd pad pad_len below_keeps zeros)
open Crc (S S_of S_size)
def To (F F' : Nat → Prop) (w w' : World) : Prop := Only F w w' ∧ (∀ k, F k → F' k) ∧ (∀ k, F' k → F k ∨ (w.heap.size ≤ k ∧ k < w'.heap.size))
structure Got (p : (Nat → Prop) → Prop) : Prop where
 ex : ∃ F, p F
section
variable {F F' F'' T T' : Nat → Prop} {w w1 w' : World}
theorem To.below (hb : Below w.heap.size w w') : To F F w w' := ⟨.of hb, fun _ h => h, fun _ h => .inl h⟩
theorem To.refl : To F F w w := .below (Below.refl _ _)
theorem To.trans (h : To F F' w w1) (k : To F' F'' w1 w') : To F F'' w w' := by
 refine ⟨h.1.trans k.1 (fun i hi => (h.2.2 i hi).imp id (·.1)), fun i hi => k.2.1 i (h.2.1 i hi), fun i hi => ?_⟩
 rcases k.2.2 i hi with e | e
 · rcases h.2.2 i e with e2 | e2
   · exact .inl e2
   · exact .inr ⟨e2.1, Nat.lt_of_lt_of_le e2.2 k.1.size⟩
 · exact .inr ⟨Nat.le_trans h.1.size e.1, e.2⟩
theorem To.grow (ho : Only F w w') : To F (Grow F w w') w w' := ⟨ho, fun _ h => .inl h, fun _ h => h⟩
theorem To.own (ho : Only F w w') : To F F w w' := ⟨ho, fun _ h => h, fun _ h => .inl h⟩
theorem To.part (h : To T T' w w') (hT : ∀ k, T k → F k) : To F (fun k => F k ∨ T' k) w w' :=
 ⟨h.1.mono hT, fun _ e => .inl e, fun k e => e.elim .inl (fun e2 => (h.2.2 k e2).imp (hT k) id)⟩
theorem To.size (h : To F F' w w') : w.heap.size ≤ w'.heap.size := h.1.size
theorem To.keeps (h : To F F' w w') {k : Nat} (hk : k < w.heap.size) (hn : ¬ F k) : w'.heap[k]? = w.heap[k]? := h.1.block k hk hn
end
structure RD (R : Nat) (d : PD) (T : Nat → Prop) (w : World) : Prop where
 is : RefIs R d T w
 good : Dsk.Good d
 flen : ∀ j, (d.f j).length = 128
section
variable {R k : Nat} {d : PD} {T T' : Nat → Prop} {w w' : World}
theorem RD.later (h : RD R d T w) (hb : Below w.heap.size w w') : RD R d T w' := ⟨h.is.later hb, h.good, h.flen⟩
theorem RD.keep (h : RD R d T w) (hk : ∀ k, T k → w'.heap[k]? = w.heap[k]?) (hs : w.heap.size ≤ w'.heap.size) : RD R d T w' := ⟨h.is.keep hk hs, h.good, h.flen⟩
def wrS (k : Nat) (s : List UInt8) : List Step := [.wr k s]
def flS : List Step := [.fl]
theorem run_wr_yes {s : List UInt8} (h : d.burnt = false) : run d (wrS k s) = (true, (d.write k s).burn) := by unfold wrS; rw [run_cons, h]; rfl
theorem run_wr_no {s : List UInt8} (h : d.burnt = true) : run d (wrS k s) = (false, d) := by unfold wrS; rw [run_cons, h]; rfl
theorem run_fl_yes (h : d.burnt = false) : run d flS = (true, d.flush.burn) := by unfold flS; rw [run_cons, h]; rfl
theorem run_fl_no (h : d.burnt = true) : run d flS = (false, d) := by unfold flS; rw [run_cons, h]; rfl
theorem rd_write (h : RD R d T w) (k : Nat) (s : ByteArray) (hs : s.size ≤ 128) (hk : k < d.n) (hc : d.cs.length < 1000000) (hw : d.wr < 1000000) :
   Calls Tryz.prog 86 #[.pointer (some ⟨R, 0, none⟩), .int .i64 (k : Int), .string s] w fun e w' => ∃ T', e = .returned (.int .i64 (code (run d (wrS k s.data.toList)).1)) ∧ RD R (run d (wrS k s.data.toList)).2 T' w' ∧ To T T' w w' := by
 cases hb : d.burnt with
 | true =>
   refine (Dsk.rwrite_burnt k s hs w h.is hk hb).mono fun e w' ⟨he, hb2⟩ => ⟨T, ?_, ?_, .below hb2⟩
   · rw [run_wr_no hb]; exact he
   · rw [run_wr_no hb]; exact h.later hb2
 | false =>
   refine (Dsk.rwrite_on k s hs w h.is hk hb hc hw (h.flen k)).mono fun e w' ⟨he, hr, ho⟩ => ⟨Grow T w w', ?_, ?_, .grow ho⟩
   · rw [run_wr_yes hb]; exact he
   · rw [run_wr_yes hb]
     refine ⟨hr, h.good.write k hk _, fun j => ?_⟩
     show (upd d.f k (pad s.data.toList) j).length = 128
     by_cases hj : j = (k : Int)
     · rw [hj, Dsk.upd_same]; exact pad_len (by rw [Dsk.len_eq]; exact hs)
     · rw [Dsk.upd_other _ _ _ _ hj]; exact h.flen j
theorem rd_flush (h : RD R d T w) (hf : d.fl < 1000000) :
   Calls Tryz.prog 49 #[.pointer (some ⟨R, 0, none⟩)] w fun e w' => ∃ T', e = .returned (.int .i64 (code (run d flS).1)) ∧ RD R (run d flS).2 T' w' ∧ To T T' w w' := by
 cases hb : d.burnt with
 | true =>
   refine (Dsk.rflush_burnt w h.is hb).mono fun e w' ⟨he, hb2⟩ => ⟨T, ?_, ?_, .below hb2⟩
   · rw [run_fl_no hb]; exact he
   · rw [run_fl_no hb]; exact h.later hb2
 | false =>
   refine (Dsk.rflush_on w h.is h.good hb hf).mono fun e w' ⟨he, hr, ho⟩ => ⟨T, ?_, ?_, .own ho⟩
   · rw [run_fl_yes hb]; exact he
   · rw [run_fl_yes hb]; exact ⟨hr, Dsk.Good.flush d, h.flen⟩
theorem rd_read (h : RD R d T w) (k : Nat) (hk : k < d.n) :
   Calls Tryz.prog 66 #[.pointer (some ⟨R, 0, none⟩), .int .i64 (k : Int)] w fun e w' => e = .returned (.tuple #[.string (S (d.f k)), .int .i64 0]) ∧ Below w.heap.size w w' := Dsk.rread_on k w h.is h.good hk
end
structure DL where
 n : Nat
 turn : Nat
 base : Nat
 used : Nat
 recs : List (List UInt8)
 halted : Bool
def DL.ok (g : DL) : Prop := g.n ≤ 1000 ∧ g.turn ≤ 1099511627776 ∧ g.base ≤ 1099511627776 ∧ g.used ≤ g.n ∧ g.recs.length ≤ 1001
def dlcells (R : Nat) (g : DL) (sl : Value) : Array Value :=
 #[.pointer (some ⟨R, 0, none⟩), .int .i64 0, .int .i64 ((2 + g.n : Nat) : Int), .int .i64 (g.turn : Int), .int .i64 (g.base : Int), .int .i64 (g.used : Int), sl, .bool g.halted]
structure RL (M R : Nat) (g : DL) (d : PD) (F : Nat → Prop) (w : World) : Prop where
 ex : ∃ Td sl, RD R d Td w ∧ w.heap[M]? = some (.cells (dlcells R g sl) 92 (0, 0)) ∧ w.ownsRow 0 9 1 sl g.recs.length (strs g.recs) ∧ (∀ k, Td k → F k ∧ k ≠ M ∧ sl.ownBlock ≠ some k) ∧ (∀ b, sl.ownBlock = some b → F b)
 fM : F M
 lt : ∀ k, F k → k < w.heap.size
 ok : g.ok
 fit : 2 + g.n ≤ d.n
section
variable {M R : Nat} {g g' : DL} {d d' : PD} {F F' T T' : Nat → Prop} {w w' : World} {sl : Value}
theorem row_ne {cs : Array Value} {n : Nat} {xs : List Value} (hM : w.heap[M]? = some (.cells cs 92 (0, 0))) (h : w.ownsRow 0 9 1 sl n xs) (b : Nat) (hb : sl.ownBlock = some b) : b ≠ M := fun e => by
 rcases h.2 with ⟨h2, _⟩ | ⟨b2, c, cur, hv, hg, hh, rest⟩
 · rw [h2] at hb; cases hb
 · rw [hv] at hb
   have e2 : b2 = b := by simpa [Value.ownBlock] using hb
   rw [e2, e, hM] at hh
   simp at hh
theorem RL.later (h : RL M R g d F w) (hb : Below w.heap.size w w') : RL M R g d F w' := by
 obtain ⟨Td, sl, h1, h2, h3, h4, h5⟩ := h.ex
 exact ⟨⟨Td, sl, h1.later hb, below_keeps hb h2, Dsk.owns_later h3 hb, h4, h5⟩, h.fM, fun k hk => Nat.lt_of_lt_of_le (h.lt k hk) hb.size, h.ok, h.fit⟩
theorem RL.keep (h : RL M R g d F w) (hk : ∀ k, F k → w'.heap[k]? = w.heap[k]?) (hs : w.heap.size ≤ w'.heap.size) : RL M R g d F w' := by
 obtain ⟨Td, sl, h1, h2, h3, h4, h5⟩ := h.ex
 exact ⟨⟨Td, sl, h1.keep (fun k e => hk k (h4 k e).1) hs, (hk M h.fM).trans h2, Dsk.ownsRow_of h3 (fun b e => hk b (h5 b e)), h4, h5⟩, h.fM, fun k hk => Nat.lt_of_lt_of_le (h.lt k hk) hs, h.ok, h.fit⟩
theorem RL.cellAt (h : RL M R g d F w) (j : Nat) (hj : j ≠ 6) : w.cell? ⟨M, j, none⟩ = (dlcells R g (.slice none 0 0))[j]? := by
 obtain ⟨Td, sl, h1, h2, h3, h4, h5⟩ := h.ex
 rw [cell_of_row w M j _ _ (0, 0) h2]
 unfold dlcells
 match j, hj with
 | 0, _ => rfl
 | 1, _ => rfl
 | 2, _ => rfl
 | 3, _ => rfl
 | 4, _ => rfl
 | 5, _ => rfl
 | 7, _ => rfl
 | j + 8, _ => rfl
theorem RL.c0 (h : RL M R g d F w) : w.cell? ⟨M, 0, none⟩ = some (.pointer (some ⟨R, 0, none⟩)) := h.cellAt 0 (by decide)
theorem RL.c1 (h : RL M R g d F w) : w.cell? ⟨M, 1, none⟩ = some (.int .i64 0) := h.cellAt 1 (by decide)
theorem RL.c2 (h : RL M R g d F w) : w.cell? ⟨M, 2, none⟩ = some (.int .i64 ((2 + g.n : Nat) : Int)) := h.cellAt 2 (by decide)
theorem RL.c3 (h : RL M R g d F w) : w.cell? ⟨M, 3, none⟩ = some (.int .i64 (g.turn : Int)) := h.cellAt 3 (by decide)
theorem RL.c4 (h : RL M R g d F w) : w.cell? ⟨M, 4, none⟩ = some (.int .i64 (g.base : Int)) := h.cellAt 4 (by decide)
theorem RL.c5 (h : RL M R g d F w) : w.cell? ⟨M, 5, none⟩ = some (.int .i64 (g.used : Int)) := h.cellAt 5 (by decide)
theorem RL.c7 (h : RL M R g d F w) : w.cell? ⟨M, 7, none⟩ = some (.bool g.halted) := h.cellAt 7 (by decide)
theorem RL.c6 (h : RL M R g d F w) : ∃ sl, w.cell? ⟨M, 6, none⟩ = some sl := by
 obtain ⟨Td, sl, h1, h2, h3, h4, h5⟩ := h.ex
 exact ⟨sl, by rw [cell_of_row w M 6 _ _ (0, 0) h2]; rfl⟩
theorem RL.z (h : RL M R g d F w) (j : Nat) : w.frozen? ⟨M, j, none⟩ = false := by
 obtain ⟨Td, sl, h1, h2, _⟩ := h.ex
 exact frozen_of_row w M j _ _ h2
theorem RL.ofD (h2 : w.heap[M]? = some (.cells (dlcells R g sl) 92 (0, 0))) (h3 : w.ownsRow 0 9 1 sl g.recs.length (strs g.recs)) (h4 : ∀ k, T k → F k ∧ k ≠ M ∧ sl.ownBlock ≠ some k) (h5 : ∀ b, sl.ownBlock = some b → F b) (hM : F M) (hl : ∀ k, F k → k < w.heap.size) (hok : g.ok) (hn : 2 + g.n ≤ d'.n) (hd : RD R d' T' w') (ht : To T T' w w') :
   ∃ F', RL M R g d' F' w' ∧ To F F' w w' := by
 refine ⟨_, ⟨⟨T', sl, hd, (ht.keeps (hl M hM) (fun e => (h4 M e).2.1 rfl)).trans h2, Dsk.ownsRow_of h3 (fun b e => ht.keeps (hl b (h5 b e)) (fun e2 => (h4 b e2).2.2 e)), fun k hk => ⟨.inr hk, ?_⟩, fun b e => .inl (h5 b e)⟩, .inl hM, fun k hk => ?_, hok, hn⟩, ht.part (fun k e => (h4 k e).1)⟩
 · rcases ht.2.2 k hk with e | e
   · exact (h4 k e).2
   · exact ⟨fun e2 => by have := hl M hM; omega, fun e2 => by have := hl k (h5 k e2); omega⟩
 · rcases hk with e | e
   · exact Nat.lt_of_lt_of_le (hl k e) ht.size
   · exact hd.is.lt k e
theorem rl_write (h : RL M R g d F w) (k : Nat) (s : ByteArray) (hs : s.size ≤ 128) (hk : k < d.n) (hc : d.cs.length < 1000000) (hw : d.wr < 1000000) :
   Calls Tryz.prog 86 #[.pointer (some ⟨R, 0, none⟩), .int .i64 (k : Int), .string s] w fun e w' => ∃ F', e = .returned (.int .i64 (code (run d (wrS k s.data.toList)).1)) ∧ RL M R g (run d (wrS k s.data.toList)).2 F' w' ∧ To F F' w w' := by
 obtain ⟨Td, sl, h1, h2, h3, h4, h5⟩ := h.ex
 refine (rd_write h1 k s hs hk hc hw).mono fun e w' ⟨T', he, hd, ht⟩ => ?_
 obtain ⟨F', hl, hto⟩ := RL.ofD h2 h3 h4 h5 h.fM h.lt h.ok (by rw [(run_few _ d).1]; exact h.fit) hd ht
 exact ⟨F', he, hl, hto⟩
theorem rl_flush (h : RL M R g d F w) (hf : d.fl < 1000000) :
   Calls Tryz.prog 49 #[.pointer (some ⟨R, 0, none⟩)] w fun e w' => ∃ F', e = .returned (.int .i64 (code (run d flS).1)) ∧ RL M R g (run d flS).2 F' w' ∧ To F F' w w' := by
 obtain ⟨Td, sl, h1, h2, h3, h4, h5⟩ := h.ex
 refine (rd_flush h1 hf).mono fun e w' ⟨T', he, hd, ht⟩ => ?_
 obtain ⟨F', hl, hto⟩ := RL.ofD h2 h3 h4 h5 h.fM h.lt h.ok (by rw [(run_few _ d).1]; exact h.fit) hd ht
 exact ⟨F', he, hl, hto⟩
theorem rl_read (h : RL M R g d F w) (k : Nat) (hk : k < d.n) :
   Calls Tryz.prog 66 #[.pointer (some ⟨R, 0, none⟩), .int .i64 (k : Int)] w fun e w' => e = .returned (.tuple #[.string (S (d.f k)), .int .i64 0]) ∧ Below w.heap.size w w' := by
 obtain ⟨Td, sl, h1, _⟩ := h.ex
 exact rd_read h1 k hk
theorem RL.put (h : RL M R g d F w) (i : Nat) (v : Value) (g' : DL) (hc : ∀ sl, (dlcells R g sl).setIfInBounds i v = dlcells R g' sl) (hr : g'.recs = g.recs) (hok : g'.ok) (hn : g'.n = g.n) : RL M R g' d F (w.setCell ⟨M, i, none⟩ v) ∧ To F F w (w.setCell ⟨M, i, none⟩ v) := by
 obtain ⟨Td, sl, h1, h2, h3, h4, h5⟩ := h.ex
 have hne : ∀ k, k ≠ M → (w.setCell ⟨M, i, none⟩ v).heap[k]? = w.heap[k]? := fun k hk => heap_setCell_other w _ k v hk
 refine ⟨⟨⟨Td, sl, h1.keep (fun k e => hne k (h4 k e).2.1) (by simp), by rw [heap_setCell_same w M i _ _ v h2, hc], by rw [hr]; exact Dsk.ownsRow_of h3 (fun b e => hne b (row_ne h2 h3 b e)), h4, h5⟩, h.fM, fun k hk => by simpa using h.lt k hk, hok, by rw [hn]; exact h.fit⟩, .own ((Only.refl F w).set (p := ⟨M, i, none⟩) (.inl h.fM) v)⟩
theorem RL.clear (h : RL M R g d F w) : RL M R { g with recs := [] } d F (w.setCell ⟨M, 6, none⟩ (.slice none 0 0)) ∧ To F F w (w.setCell ⟨M, 6, none⟩ (.slice none 0 0)) := by
 obtain ⟨Td, sl, h1, h2, h3, h4, h5⟩ := h.ex
 have hne : ∀ k, k ≠ M → (w.setCell ⟨M, 6, none⟩ (.slice none 0 0)).heap[k]? = w.heap[k]? := fun k hk => heap_setCell_other w _ k _ hk
 obtain ⟨o1, o2, o3, o4, o5⟩ := h.ok
 refine ⟨⟨⟨Td, .slice none 0 0, h1.keep (fun k e => hne k (h4 k e).2.1) (by simp), by rw [heap_setCell_same w M 6 _ _ _ h2]; rfl, World.ownsRow_nil _ _ _ _, fun k e => ⟨(h4 k e).1, (h4 k e).2.1, fun e2 => by cases e2⟩, fun b e => by cases e⟩, h.fM, fun k hk => by simpa using h.lt k hk, ⟨o1, o2, o3, o4, by simp⟩, h.fit⟩, .own ((Only.refl F w).set (p := ⟨M, 6, none⟩) (.inl h.fM) _)⟩
end
end Pgr
end Go.Proofs.YtkgbemkcnahkoaaGreatDoor
namespace Go.Proofs.YtkgbemkcnahkoaaGreatDoor
open Go.RowKit
namespace Pgr
open Wal
open Dsk (PD RefIs Only Grow KeepQ upd pad pad_len below_keeps zeros)
open Crc (S S_of S_size)
section
variable {M R : Nat} {g : DL} {d : PD} {F : Nat → Prop} {w : World}
theorem rhalt_any (h : RL M R g d F w) (y : Bool) :
   Calls Tryz.prog 92 #[.pointer (some ⟨M, 0, none⟩), .int .i64 (code y)] w fun e w' => e = .returned (.int .i64 (code y)) ∧ RL M R { g with halted := g.halted || !y } d F w' ∧ To F F w w' := by
 have H := hidm h
 have c7 := h.c7
 have z7 := h.z 7
 cases y with
 | true =>
   have e1 : code true = 0 := rfl
   rw [e1]
   clear h
   go_enter Tryz.func92, Tryz.ntmps92
   go_wp2_with fail
   go_ret
   exact ⟨rfl, by have := H.out; simpa using this, .refl⟩
 | false =>
   have e1 : code false = 6 := rfl
   rw [e1]
   have HP := hidm (h.put 7 (.bool true) { g with halted := true } (fun _ => rfl) rfl h.ok rfl)
   clear h
   go_enter Tryz.func92, Tryz.ntmps92
   go_wp2_with fail
   go_ret
   exact ⟨rfl, by have := HP.out.1; simpa using this, HP.out.2⟩
def nextS (t b : Nat) : List Step := wrS (t % 2) (sealB (sbody t b)) ++ flS
theorem run_two {d : PD} {a b : List Step} (h : (run d a).1 = true) : run d (a ++ b) = run (run d a).2 b := by rw [run_app, if_pos h]
theorem run_one {d : PD} {a b : List Step} (h : (run d a).1 = false) : run d (a ++ b) = run d a := by rw [run_app, if_neg (by rw [h]; simp)]
def nextG (g : DL) (b : Nat) (y : Bool) : DL := if y then { g with turn := g.turn + 1, base := b } else g
set_option maxHeartbeats 8000000 in
set_option maxRecDepth 100000 in
theorem rnext_any (h : RL M R g d F w) (b : Nat) (hb : b ≤ g.turn + 1) (ht : g.turn < 1099511627776) (hc : d.cs.length ≤ 900000) (hw : d.wr ≤ 900000) (hf : d.fl ≤ 900000) :
   Calls Tryz.prog 85 #[.pointer (some ⟨M, 0, none⟩), .int .i64 (b : Int)] w fun e w' => Got fun F' => e = .returned (.int .i64 (code (run d (nextS (g.turn + 1) b)).1)) ∧ RL M R (nextG g b (run d (nextS (g.turn + 1) b)).1) (run d (nextS (g.turn + 1) b)).2 F' w' ∧ To F F' w w' := by
 have hok := h.ok
 obtain ⟨o1, o2, o3, o4, o5⟩ := hok
 have hfit := h.fit
 have HD := hidm (h.later ((Below.refl w.heap.size w).drew))
 have HDR := hidm ((Below.refl w.heap.size w).drew)
 have HC2 := hidm (show d.cs.length < 1000000 from by omega)
 have HW2 := hidm (show d.wr < 1000000 from by omega)
 obtain ⟨tn, htn⟩ : ∃ t, t = g.turn + 1 := ⟨_, rfl⟩
 have t1 : (g.turn : Int) + 1 = (tn : Int) := by omega
 have t1w : IntKind.i64.wrap (tn : Int) = (tn : Int) := by simp only [IntKind.wrap_i64]; omega
 have hsb := sbody_len (t := tn) (b := b) (by omega) (by omega)
 have HSL := hidm (show (S (sealB (sbody tn b))).size ≤ 128 from by rw [S_size, sealB_len (by omega)]; omega)
 have U1 := hidm (fun w => rslot_any tn b (by omega) (by omega) w)
 have U2 := hidm (fun w => Wal.rseal_any (S (sbody tn b)) (by rw [S_size]; omega) w)
 obtain ⟨kk, hkk⟩ : ∃ k, k = tn % 2 := ⟨_, rfl⟩
 have t2w : IntKind.i64.wrap (kk : Int) = (kk : Int) := by simp only [IntKind.wrap_i64]; omega
 have HK2 := hidm (show kk < d.n from by omega)
 have HTN := hidm htn
 have HTB := hidm (show tn ≤ 1099511627776 from by omega)
 have HBT := hidm (show b ≤ tn from by omega)
 have HKK := hidm hkk
 have t2 : ((tn : Int).tmod 2) = (kk : Int) := by rw [hkk, Int.tmod_eq_emod_of_nonneg (by omega)]; omega
 rw [← htn]
 clear hb ht hc hw o1 o2 o3 o4 o5 hfit hsb htn hkk
 have c3 := HD.out.c3
 have c0 := HD.out.c0
 have c1 := HD.out.c1
 have HG := hidm h
 clear h
 go_enter Tryz.func85, Tryz.ntmps85
 go_upto_region 1 with fail
 refine wp_region_held_drew (S := fun u => u.cell? ⟨M, 0, none⟩ = some (.pointer (some ⟨R, 0, none⟩)) ∧ u.cell? ⟨M, 1, none⟩ = some (.int .i64 0) ∧ u.cell? ⟨M, 3, none⟩ = some (.int .i64 (g.turn : Int))) (by kernel_rfl) ⟨c0, c1, c3⟩ (fun hHeld => ?_)
 clear c0 c1 c3
 refine Man.t1 0 hHeld ?_
 (try simp only [Act.put, Mqa, Mqb, Mqc])
 refine Man.t1 1 hHeld ?_
 (try simp only [Act.put, Mqa, Mqb, Mqc])
 refine Man.t1 2 hHeld ?_
 (try simp only [Act.put, Mqa, Mqb, Mqc])
 refine Man.t1 3 hHeld ?_
 (try simp only [Act.put, Mqa, Mqb, Mqc])
 refine Man.t1 4 hHeld ?_
 (try simp only [Act.put, Mqa, Mqb, Mqc])
 refine Man.t1 5 hHeld ?_
 (try simp only [Act.put, Mqa, Mqb, Mqc])
 refine Man.t1 6 hHeld ?_
 (try simp only [Act.put, Mqa, Mqb, Mqc])
 refine Man.t1 7 hHeld ?_
 (try simp only [Act.put, Mqa, Mqb, Mqc])
 refine Man.t1 8 hHeld ?_
 (try simp only [Act.put, Mqa, Mqb, Mqc])
 refine Man.t1 9 hHeld ?_
 (try simp only [Act.put, Mqa, Mqb, Mqc])
 refine Man.t1 10 hHeld ?_
 (try simp only [Act.put, Mqa, Mqb, Mqc])
 refine Man.t1 11 hHeld ?_
 (try simp only [Act.put, Mqa, Mqb, Mqc])
 refine Man.t1 12 hHeld ?_
 (try simp only [Act.put, Mqa, Mqb, Mqc])
 refine Man.t1 13 hHeld ?_
 (try simp only [Act.put, Mqa, Mqb, Mqc])
 refine Man.t1 14 hHeld ?_
 (try simp only [Act.put, Mqa, Mqb, Mqc])
 refine Man.t1 15 hHeld ?_
 (try simp only [Act.put, Mqa, Mqb, Mqc])
 refine Man.t1 16 hHeld ?_
 (try simp only [Act.put, Mqa, Mqb, Mqc])
 refine Man.t1 17 hHeld ?_
 (try simp only [Act.put, Mqa, Mqb, Mqc])
 refine Man.t1 18 hHeld ?_
 (try simp only [Act.put, Mqa, Mqb, Mqc])
 refine Man.t1 19 hHeld ?_
 (try simp only [Act.put, Mqa, Mqb, Mqc])
 refine Man.t1 20 hHeld ?_
 (try simp only [Act.put, Mqa, Mqb, Mqc])
 refine Man.one (i := 21) rfl (by kernel_rfl) (fun K hK => ?_)
 go_simp
 refine (U1.out _).mono ?_
 rintro e w3 ⟨rfl, hb3⟩
 have H3 := hidm (HD.out.later hb3)
 have HT3 := hidm ((To.below HDR.out : To F F w w.drew).trans (.below hb3))
 clear hb3
 refine hK.out _ _ ⟨H3.out.c0, H3.out.c1, H3.out.c3⟩ (fun hNew => ?_)
 clear hK K hHeld
 have hHeld := hNew
 clear hNew
 skip
 refine Man.one (i := 22) rfl (by kernel_rfl) (fun K hK => ?_)
 go_simp
 refine (U2.out _).mono ?_
 rintro e w4 ⟨rfl, hb4⟩
 have H4 := hidm (H3.out.later hb4)
 have HT4 := hidm (HT3.out.trans (.below hb4))
 clear hb4
 refine hK.out _ _ ⟨H4.out.c0, H4.out.c1, H4.out.c3⟩ (fun hNew => ?_)
 clear hK K hHeld
 have hHeld := hNew
 clear hNew
 skip
 refine Man.one (i := 23) rfl (by kernel_rfl) (fun K hK => ?_)
 go_simp
 refine (rl_write H4.out kk _ HSL.out HK2.out HC2.out HW2.out).mono ?_
 rintro e w5 ⟨F5, rfl, h5, ht5⟩
 have H5 := hidm h5
 have HT5 := hidm (HT4.out.trans ht5)
 clear h5 ht5
 refine hK.out _ _ ⟨H5.out.c0, H5.out.c1, H5.out.c3⟩ (fun hNew => ?_)
 clear hK K hHeld
 have hHeld := hNew
 clear hNew
 skip
 refine Man.t1 24 hHeld ?_
 (try simp only [Act.put, Mqa, Mqb, Mqc])
 refine wpAnyH_done (by kernel_rfl) ?_ _
 clear hHeld H3 H4 HT3 HT4 U1 U2 HD HDR t2 t2w
 have HG2 := hidm HG.out.ok
 rcases hr1 : (run d (wrS kk (S (sealB (sbody tn b))).data.toList)).1 with _ | _
 · have HR1 := hidm hr1
   have e1 : code false = 6 := rfl
   have HF := hidm (show run d (nextS tn b) = run d (wrS kk (S (sealB (sbody tn b))).data.toList) from by
     unfold nextS
     rw [← HKK.out]
     exact run_one hr1)
   rw [e1]
   clear hr1 t1 t1w
   go_wp2_with fail
   go_ret
   refine ⟨⟨F5, ?_, ?_, HT5.out⟩⟩
   · rw [HF.out, HR1.out]; rfl
   · rw [HF.out, HR1.out]; exact H5.out
 · have HR1 := hidm hr1
   have e1 : code true = 0 := rfl
   obtain ⟨d2, hd2⟩ : ∃ x, x = (run d (wrS kk (S (sealB (sbody tn b))).data.toList)).2 := ⟨_, rfl⟩
   have HF := hidm (show run d (nextS tn b) = run d2 flS from by
     unfold nextS
     rw [← HKK.out, hd2]
     exact run_two hr1)
   rw [← hd2] at H5
   have hfl := (run_few (wrS kk (S (sealB (sbody tn b))).data.toList) d).2.2.2.1
   rw [← hd2] at hfl
   have HF2 := hidm (show d2.fl < 1000000 from by
     have : (wrS kk (S (sealB (sbody tn b))).data.toList).length = 1 := rfl
     omega)
   have c0 := H5.out.c0
   rw [e1]
   clear hr1 hd2 hfl
   go_wp2_with fail
   refine (rl_flush H5.out HF2.out).mono ?_
   rintro e w6 ⟨F6, rfl, h6, ht6⟩
   have H6 := hidm h6
   have HT6 := hidm (HT5.out.trans ht6)
   clear h6 ht6 H5 HT5 c0
   rcases hr2 : (run d2 flS).1 with _ | _
   · have HR2 := hidm hr2
     have e2 : code false = 6 := rfl
     rw [e2]
     clear hr2 t1 t1w
     go_wp2_with fail
     go_ret
     refine ⟨⟨F6, ?_, ?_, HT6.out⟩⟩
     · rw [HF.out, HR2.out]; rfl
     · rw [HF.out, HR2.out]; exact H6.out
   · have HR2 := hidm hr2
     rw [e1]
     have c3 := H6.out.c3
     have z3 := H6.out.z 3
     obtain ⟨g1, hg1⟩ : ∃ g1 : DL, g1 = { g with turn := tn } := ⟨_, rfl⟩
     have HP := hidm (H6.out.put 3 (.int .i64 (tn : Int)) g1 (fun _ => by rw [hg1]; rfl) (by rw [hg1]) (by
       obtain ⟨o1, o2, o3, o4, o5⟩ := HG2.out
       rw [hg1]
       exact ⟨o1, HTB.out, o3, o4, o5⟩) (by rw [hg1]))
     have HG1 := hidm hg1
     clear hr2 hg1
     go_upto_region 8 with fail
     obtain ⟨w7, hw7⟩ : ∃ w7, w7 = w6.setCell ⟨M, 3, none⟩ (.int .i64 (tn : Int)) := ⟨_, rfl⟩
     rw [← hw7] at HP ⊢
     have z4 := HP.out.1.z 4
     have c4 := HP.out.1.c4
     have HP2 := hidm (HP.out.1.put 4 (.int .i64 (b : Int)) { g1 with base := b } (fun _ => rfl) rfl (by
       obtain ⟨o1, o2, o3, o4, o5⟩ := HG2.out
       rw [HG1.out]
       exact ⟨o1, HTB.out, Nat.le_trans HBT.out HTB.out, o4, o5⟩) rfl)
     clear hw7 c3 z3
     go_wp2_with fail
     go_ret
     refine ⟨⟨F6, ?_, ?_, HT6.out.trans (HP.out.2.trans HP2.out.2)⟩⟩
     · rw [HF.out, HR2.out]; rfl
     · rw [HF.out, HR2.out]
       have := HP2.out.1
       rw [HG1.out] at this
       have e9 : nextG g b true = { { g with turn := tn } with base := b } := by unfold nextG; rw [if_pos rfl, HTN.out]
       rw [e9]
       exact this
end
end Pgr
end Go.Proofs.YtkgbemkcnahkoaaGreatDoor
namespace Go.Proofs.YtkgbemkcnahkoaaGreatDoor
open Go.RowKit
namespace Pgr
open Wal
open Dsk (PD RefIs Only Grow KeepQ upd pad pad_len below_keeps zeros)
open Crc (S S_of S_size)
section
variable {M R : Nat} {g : DL} {d : PD} {F : Nat → Prop} {w : World}
def npn (m : Nat) : Nat := (m - 1) / 100 + 1
theorem npn_is (s : List UInt8) : npn s.length = np s := rfl
set_option maxHeartbeats 4000000 in
set_option maxRecDepth 100000 in
theorem rfits_any (h : RL M R g d F w) (m : Nat) (hm : m ≤ 100000) :
   Calls Tryz.prog 96 #[.pointer (some ⟨M, 0, none⟩), .int .i64 (m : Int)] w fun e w' => e = .returned (.bool (decide (g.used + npn m ≤ g.n))) ∧ Below w.heap.size w w' := by
 obtain ⟨o1, o2, o3, o4, o5⟩ := h.ok
 have HDR := hidm ((Below.refl w.heap.size w).drew)
 have hd := h.later HDR.out
 have c5 := hd.c5
 have c2 := hd.c2
 obtain ⟨n2, hn2⟩ : ∃ a, a = 2 + g.n := ⟨_, rfl⟩
 rw [← hn2] at c2
 have g1 : ¬ (m : Int) < 0 := by omega
 have g2 : ¬ (100000 : Int) < (m : Int) := by omega
 obtain ⟨a, ha⟩ : ∃ a, a = m + 99 := ⟨_, rfl⟩
 have a1 : (m : Int) + 99 = (a : Int) := by omega
 have a1w : IntKind.i64.wrap (a : Int) = (a : Int) := by simp only [IntKind.wrap_i64]; omega
 obtain ⟨q, hq⟩ : ∃ q, q = a / 100 := ⟨_, rfl⟩
 have q1w : IntKind.i64.wrap (q : Int) = (q : Int) := by simp only [IntKind.wrap_i64]; omega
 obtain ⟨p, hp⟩ : ∃ p, p = npn m := ⟨_, rfl⟩
 have hp' : p = (m - 1) / 100 + 1 := hp
 have p1 : max (1 : Int) (q : Int) = (p : Int) := by omega
 obtain ⟨t, ht⟩ : ∃ t, t = g.used + p := ⟨_, rfl⟩
 have t1 : (g.used : Int) + (p : Int) = (t : Int) := by omega
 have t1w : IntKind.i64.wrap (t : Int) = (t : Int) := by simp only [IntKind.wrap_i64]; omega
 have n1 : (n2 : Int) - 2 = (g.n : Int) := by omega
 have n1w : IntKind.i64.wrap (g.n : Int) = (g.n : Int) := by simp only [IntKind.wrap_i64]; omega
 obtain ⟨gn, hgn⟩ : ∃ x, x = g.n := ⟨_, rfl⟩
 obtain ⟨gu, hgu⟩ : ∃ x, x = g.used := ⟨_, rfl⟩
 rw [← hgn] at n1 n1w
 rw [← hgu] at t1 c5
 rw [← hp, ← ht, ← hgn]
 have HDEC := hidm (show decide ((t : Int) ≤ (gn : Int)) = decide (t ≤ gn) from decide_eq_decide.2 (by omega))
 have q1 : ((a : Int).tdiv 100) = (q : Int) := by rw [Int.tdiv_eq_ediv_of_nonneg (by omega)]; omega
 clear ha hq hp hp' ht hgn hgu hn2 o1 o2 o3 o4 o5 hd h hm
 go_enter Tryz.func96, Tryz.ntmps96
 go_upto_region 3 with fail
 refine wp_region_held_drew (S := fun u => u.cell? ⟨M, 5, none⟩ = some (.int .i64 (gu : Int)) ∧ u.cell? ⟨M, 2, none⟩ = some (.int .i64 (n2 : Int))) (by kernel_rfl) ⟨c5, c2⟩ (fun hHeld => ?_)
 clear c5 c2
 refine Man.t1 0 hHeld ?_
 (try simp only [Act.put, Mqa, Mqb, Mqc])
 refine Man.t1 1 hHeld ?_
 (try simp only [Act.put, Mqa, Mqb, Mqc])
 refine Man.t1 2 hHeld ?_
 (try simp only [Act.put, Mqa, Mqb, Mqc])
 refine Man.t1 3 hHeld ?_
 (try simp only [Act.put, Mqa, Mqb, Mqc])
 refine Man.t1 4 hHeld ?_
 (try simp only [Act.put, Mqa, Mqb, Mqc])
 refine Man.t1 5 hHeld ?_
 (try simp only [Act.put, Mqa, Mqb, Mqc])
 refine Man.t1 6 hHeld ?_
 (try simp only [Act.put, Mqa, Mqb, Mqc])
 refine Man.t1 7 hHeld ?_
 (try simp only [Act.put, Mqa, Mqb, Mqc])
 refine Man.t1 8 hHeld ?_
 (try simp only [Act.put, Mqa, Mqb, Mqc])
 refine Man.t1 9 hHeld ?_
 (try simp only [Act.put, Mqa, Mqb, Mqc])
 refine Man.t1 10 hHeld ?_
 (try simp only [Act.put, Mqa, Mqb, Mqc])
 refine Man.t1 11 hHeld ?_
 (try simp only [Act.put, Mqa, Mqb, Mqc])
 refine Man.t1 12 hHeld ?_
 (try simp only [Act.put, Mqa, Mqb, Mqc])
 refine Man.t1 13 hHeld ?_
 (try simp only [Act.put, Mqa, Mqb, Mqc])
 refine Man.t1 14 hHeld ?_
 (try simp only [Act.put, Mqa, Mqb, Mqc])
 refine Man.t1 15 hHeld ?_
 (try simp only [Act.put, Mqa, Mqb, Mqc])
 refine wpAnyH_done (by kernel_rfl) ?_ _
 clear hHeld
 go_wp2_with fail
 go_ret
 exact ⟨by rw [← HDEC.out]; rfl, HDR.out⟩
def commitL (g : DL) (y : Bool) : DL := { g with halted := !y }
theorem rlcommit_any (h : RL M R g d F w) (hh : g.halted = false) (hf : d.fl < 1000000) :
   Calls Tryz.prog 142 #[.pointer (some ⟨M, 0, none⟩)] w fun e w' => Got fun F' => e = .returned (.int .i64 (code (run d flS).1)) ∧ RL M R (commitL g (run d flS).1) (run d flS).2 F' w' ∧ To F F' w w' := by
 have c7 := h.c7
 have c0 := h.c0
 rw [hh] at c7
 have HG := hidm h
 have HH := hidm hh
 clear h hh
 go_enter Tryz.func142, Tryz.ntmps142
 go_wp2_with fail
 refine (rl_flush HG.out hf).mono ?_
 rintro e w1 ⟨F1, rfl, h1, ht1⟩
 have H1 := hidm h1
 have HT1 := hidm ht1
 clear h1 ht1 c0 c7
 go_wp2_with fail
 refine (rhalt_any H1.out _).mono ?_
 rintro e w2 ⟨rfl, h2, ht2⟩
 have H2 := hidm h2
 have HT2 := hidm (HT1.out.trans ht2)
 clear h2 ht2 H1 HT1
 go_wp2_with fail
 go_ret
 refine ⟨⟨F1, rfl, ?_, HT2.out⟩⟩
 have := H2.out
 rw [HH.out, Bool.false_or] at this
 exact this
def resetL (g : DL) (y : Bool) : DL := if y then { g with turn := g.turn + 1, base := g.turn + 1, used := 0, recs := [] } else { g with halted := true }
set_option maxHeartbeats 4000000 in
set_option maxRecDepth 100000 in
theorem rlreset_any (h : RL M R g d F w) (hh : g.halted = false) (ht : g.turn < 1099511627776) (hc : d.cs.length ≤ 900000) (hw : d.wr ≤ 900000) (hf : d.fl ≤ 900000) :
   Calls Tryz.prog 50 #[.pointer (some ⟨M, 0, none⟩)] w fun e w' => Got fun F' => e = .returned (.int .i64 (code (run d (nextS (g.turn + 1) (g.turn + 1))).1)) ∧ RL M R (resetL g (run d (nextS (g.turn + 1) (g.turn + 1))).1) (run d (nextS (g.turn + 1) (g.turn + 1))).2 F' w' ∧ To F F' w w' := by
 have c7 := h.c7
 have c3 := h.c3
 rw [hh] at c7
 have HG := hidm h
 have HH := hidm hh
 have NX := hidm (rnext_any h (g.turn + 1) (Nat.le_refl _) ht hc hw hf)
 obtain ⟨tn, htn⟩ : ∃ t, t = g.turn + 1 := ⟨_, rfl⟩
 have t1 : (g.turn : Int) + 1 = (tn : Int) := by omega
 have t1w : IntKind.i64.wrap (tn : Int) = (tn : Int) := by simp only [IntKind.wrap_i64]; omega
 rw [← htn] at NX ⊢
 have HTN := hidm htn
 clear h hh ht hc hw hf htn
 obtain ⟨y, hy⟩ : ∃ y, y = (run d (nextS tn tn)).1 := ⟨_, rfl⟩
 obtain ⟨d1, hd1⟩ : ∃ x, x = (run d (nextS tn tn)).2 := ⟨_, rfl⟩
 rw [← hy, ← hd1] at NX ⊢
 clear hy hd1
 go_enter Tryz.func50, Tryz.ntmps50
 go_wp2_with fail
 refine NX.out.mono ?_
 rintro e w1 ⟨⟨F1, rfl, h1, ht1⟩⟩
 have H1 := hidm h1
 have HT1 := hidm ht1
 clear h1 ht1 c3 c7 NX t1 t1w
 go_wp2_with fail
 refine (rhalt_any H1.out y).mono ?_
 rintro e w2 ⟨rfl, h2, ht2⟩
 have H2 := hidm h2
 have HT2 := hidm (HT1.out.trans ht2)
 clear h2 ht2 H1 HT1
 cases y with
 | false =>
   have e1 : code false = 6 := rfl
   rw [e1]
   go_wp2_with fail
   go_ret
   refine ⟨⟨F1, rfl, ?_, HT2.out⟩⟩
   have := H2.out
   have e9 : ({ nextG g tn false with halted := (nextG g tn false).halted || !false } : DL) = resetL g false := by unfold nextG resetL; simp
   rw [e9] at this
   exact this
 | true =>
   have e1 : code true = 0 := rfl
   rw [e1]
   have e9 : ({ nextG g tn true with halted := (nextG g tn true).halted || !true } : DL) = { g with turn := tn, base := tn } := by unfold nextG; rw [if_pos rfl, HTN.out]; simp [HH.out]
   have h2 := H2.out
   rw [e9] at h2
   have z5 := h2.z 5
   have hok2 := h2.ok
   have HP := hidm (h2.put 5 (.int .i64 0) { g with turn := tn, base := tn, used := 0, recs := g.recs } (fun _ => rfl) rfl ⟨hok2.1, hok2.2.1, hok2.2.2.1, Nat.zero_le _, hok2.2.2.2.2⟩ rfl)
   have c5 := h2.c5
   clear h2 H2 hok2
   go_upto_region 7 with fail
   obtain ⟨w3, hw3⟩ : ∃ w3, w3 = w2.setCell ⟨M, 5, none⟩ (.int .i64 0) := ⟨_, rfl⟩
   rw [← hw3] at HP ⊢
   have z6 := HP.out.1.z 6
   obtain ⟨sl, c6⟩ := HP.out.1.c6
   have HC := hidm HP.out.1.clear
   clear hw3 z5 c5
   go_wp2_with fail
   go_ret
   refine ⟨⟨F1, rfl, ?_, HT2.out.trans (HP.out.2.trans HC.out.2)⟩⟩
   have := HC.out.1
   unfold resetL
   rw [if_pos rfl, ← HTN.out]
   exact this
end
end Pgr
end Go.Proofs.YtkgbemkcnahkoaaGreatDoor
