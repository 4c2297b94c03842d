import Derived.Test.YtkgbemkcnahkoaaGreatDoorZVrto
namespace Go.Proofs.YtkgbemkcnahkoaaGreatDoor
open Go.RowKit
namespace Pgr
open Wal
open Dsk (PD RefIs RefAt Only Grow KeepQ upd pad pad_len below_keeps zeros)
open Crc (S S_of S_size)
def twoP (p : Nat × List UInt8) : List Value := [.int .i64 (p.1 : Int), .string (S p.2)]
def flatP (l : Ch) : List Value := l.flatMap twoP
theorem flatP_snoc (l : Ch) (x : Nat × List UInt8) : flatP (l ++ [x]) = flatP l ++ twoP x := by simp [flatP]
theorem flatP_app (a b : Ch) : flatP (a ++ b) = flatP a ++ flatP b := by simp [flatP]
theorem flatP_len (l : Ch) : (flatP l).length = l.length * 2 := by
 induction l with
 | nil => rfl
 | cons x l ih =>
   have : (flatP (x :: l)).length = 2 + (flatP l).length := by simp [flatP, twoP]; omega
   rw [this, ih, List.length_cons]; omega
theorem flatP_at (l : Ch) (i : Nat) (h : i < l.length) : (flatP l)[2 * i]? = some (.int .i64 (l[i].1 : Int)) ∧ (flatP l)[2 * i + 1]? = some (.string (S l[i].2)) := by
 induction l generalizing i with
 | nil => simp at h
 | cons x l ih =>
   cases i with
   | zero => exact ⟨rfl, rfl⟩
   | succ i =>
     have := ih i (by simpa using h)
     rw [show 2 * (i + 1) = 2 * i + 1 + 1 by omega]
     exact this
structure DV where
 n : Nat
 N : Nat
 ch : Ch
 halted : Bool
def rpcells (R M : Nat) (v : DV) (sl : Value) : Array Value :=
 #[.pointer (some ⟨R, 0, none⟩), .pointer (some ⟨M, 0, none⟩), .int .i64 ((2 + v.n : Nat) : Int), sl, .bool v.halted]
def Pages (base : Nat) (ch : Ch) (sl : Value) (w : World) : Prop := w.ownsRow base 107 2 sl ch.length (flatP ch)
section
variable {base : Nat} {ch : Ch} {sl : Value} {w w' : World}
theorem Pages.later (h : Pages base ch sl w) (hb : Below w.heap.size w w') : Pages base ch sl w' := Dsk.owns_later h hb
theorem Pages.of (h : Pages base ch sl w) (hk : ∀ b, sl.ownBlock = some b → w'.heap[b]? = w.heap[b]?) : Pages base ch sl w' := Dsk.ownsRow_of h hk
theorem Pages.form (h : Pages base ch sl w) : ∃ ao cap, sl = .slice ao ch.length cap ∧ ch.length ≤ cap ∧ cap ≤ 9223372036854775807 := by
 rcases h.2 with ⟨hv, h0⟩ | ⟨g, cap, cur, hv, _, _, h1, h2, _⟩
 · exact ⟨none, 0, by rw [hv, h0], by omega, by omega⟩
 · exact ⟨_, cap, hv, h1, by unfold maxLen at h2; omega⟩
theorem Pages.cell (h : Pages base ch sl w) (g : Nat) (hg : sl.ownBlock = some g) (j : Nat) (u : Value) (hu : (flatP ch)[j]? = some u) : w.cell? ⟨g, j, none⟩ = some u := by
 rcases h.2 with ⟨hv, _⟩ | ⟨b, c, cur, hv, _, hh, hmc, hcm, hsz, htk⟩
 · rw [hv] at hg; cases hg
 · rw [hv] at hg
   have e : b = g := by simpa [Value.ownBlock] using hg
   subst e
   rw [cell_of_row _ _ _ _ _ (0, 0) hh]
   rw [← htk] at hu
   have hj : j < ch.length * 2 := by
     have := (List.getElem?_eq_some_iff.1 hu).1
     simp at this; omega
   rw [List.getElem?_take_of_lt hj] at hu
   simpa using hu
theorem Pages.at (h : Pages base ch sl w) (i : Nat) (hi : i < ch.length) : ∃ g cap, sl = .slice (some ⟨g, 0, none⟩) ch.length cap ∧ base ≤ g ∧ g < w.heap.size ∧ w.cell? ⟨g, 2 * i, none⟩ = some (.int .i64 (ch[i].1 : Int)) ∧ w.cell? ⟨g, 2 * i + 1, none⟩ = some (.string (S ch[i].2)) := by
 obtain ⟨f1, f2⟩ := flatP_at ch i hi
 rcases h.2 with ⟨hv, h0⟩ | ⟨g, cap, cur, hv, hb, hh, _⟩
 · omega
 · exact ⟨g, cap, hv, hb, lt_of_block hh, h.cell g (by rw [hv]; rfl) _ _ f1, h.cell g (by rw [hv]; rfl) _ _ f2⟩
theorem Pages.nil (base : Nat) (w : World) : Pages base [] (.slice none 0 0) w := World.ownsRow_nil _ _ _ _
theorem Pages.low {b2 : Nat} (h : Pages base ch sl w) (hb : b2 ≤ base) : Pages b2 ch sl w := by
 refine ⟨h.1, ?_⟩
 rcases h.2 with h0 | ⟨g, cap, cur, hv, hg, rest⟩
 · exact .inl h0
 · exact .inr ⟨g, cap, cur, hv, Nat.le_trans hb hg, rest⟩
end
theorem infoPg : (Tryz.prog.info? 107).map (fun i => (i.zero, i.size, i.bytes)) = some (some (.agg #[.int .i64 0, .string ⟨#[]⟩]), 2, 24) := by kernel_rfl
structure RP (X M R : Nat) (v : DV) (g : DL) (d : PD) (F : Nat → Prop) (w : World) : Prop where
 ex : ∃ Fl sl, RL M R g d Fl w ∧ w.heap[X]? = some (.cells (rpcells R M v sl) 50 (0, 0)) ∧ Pages 0 v.ch sl w ∧ (∀ k, Fl k → F k ∧ k ≠ X ∧ sl.ownBlock ≠ some k) ∧ (∀ b, sl.ownBlock = some b → F b)
 fX : F X
 lt : ∀ k, F k → k < w.heap.size
 ok : Ok v.N v.ch
 sz : 1 ≤ v.N ∧ v.N ≤ 1024 ∧ v.n ≤ 998 ∧ g.n = v.n
 fit : 2 + v.n + v.N = d.n
section
variable {X M R : Nat} {v : DV} {g g' : DL} {d d' : PD} {F F' T T' : Nat → Prop} {w w' : World} {sl : Value}
theorem page_ne {cs : Array Value} {ch : Ch} {base : Nat} (hX : w.heap[X]? = some (.cells cs 50 (0, 0))) (h : Pages base ch sl w) (b : Nat) (hb : sl.ownBlock = some b) : b ≠ X := fun e => by
 rcases h.2 with ⟨h2, _⟩ | ⟨b2, c, cur, hv, hg, hh, rest⟩
 · rw [h2] at hb; cases hb
 · rw [hv] at hb
   have e2 : b2 = b := by simpa [Value.ownBlock] using hb
   rw [e2, e, hX] at hh
   simp at hh
theorem RP.later (h : RP X M R v g d F w) (hb : Below w.heap.size w w') : RP X M R v g d F w' := by
 obtain ⟨Fl, sl, h1, h2, h3, h4, h5⟩ := h.ex
 exact ⟨⟨Fl, sl, h1.later hb, below_keeps hb h2, h3.later hb, h4, h5⟩, h.fX, fun k hk => Nat.lt_of_lt_of_le (h.lt k hk) hb.size, h.ok, h.sz, h.fit⟩
theorem RP.c0 (h : RP X M R v g d F w) : w.cell? ⟨X, 0, none⟩ = some (.pointer (some ⟨R, 0, none⟩)) := by
 obtain ⟨Fl, sl, h1, h2, _⟩ := h.ex
 rw [cell_of_row w X 0 _ _ (0, 0) h2]; rfl
theorem RP.c1 (h : RP X M R v g d F w) : w.cell? ⟨X, 1, none⟩ = some (.pointer (some ⟨M, 0, none⟩)) := by
 obtain ⟨Fl, sl, h1, h2, _⟩ := h.ex
 rw [cell_of_row w X 1 _ _ (0, 0) h2]; rfl
theorem RP.c2 (h : RP X M R v g d F w) : w.cell? ⟨X, 2, none⟩ = some (.int .i64 ((2 + v.n : Nat) : Int)) := by
 obtain ⟨Fl, sl, h1, h2, _⟩ := h.ex
 rw [cell_of_row w X 2 _ _ (0, 0) h2]; rfl
theorem RP.c4 (h : RP X M R v g d F w) : w.cell? ⟨X, 4, none⟩ = some (.bool v.halted) := by
 obtain ⟨Fl, sl, h1, h2, _⟩ := h.ex
 rw [cell_of_row w X 4 _ _ (0, 0) h2]; rfl
theorem RP.c3 (h : RP X M R v g d F w) : ∃ ao cap, w.cell? ⟨X, 3, none⟩ = some (.slice ao v.ch.length cap) ∧ Pages 0 v.ch (.slice ao v.ch.length cap) w ∧ v.ch.length ≤ cap ∧ cap ≤ 9223372036854775807 ∧ (∀ p, ao = some p → F p.block) := by
 obtain ⟨Fl, sl, h1, h2, h3, h4, h5⟩ := h.ex
 obtain ⟨ao, cap, hs, hl, hm⟩ := h3.form
 subst hs
 refine ⟨ao, cap, ?_, h3, hl, hm, fun p hp => h5 p.block (by rw [hp]; rfl)⟩
 rw [cell_of_row w X 3 _ _ (0, 0) h2]; rfl
theorem RP.z (h : RP X M R v g d F w) (j : Nat) : w.frozen? ⟨X, j, none⟩ = false := by
 obtain ⟨Fl, sl, h1, h2, _⟩ := h.ex
 exact frozen_of_row w X j _ _ h2
theorem RL.disk {M R : Nat} (h : RL M R g d F w) : ∃ gb lc, w.cell? ⟨R, 0, none⟩ = some (.slice (some ⟨gb, 0, none⟩) d.n lc) := by
 obtain ⟨Td, sl, h1, _⟩ := h.ex
 obtain ⟨lf, gb, lc, wo, wc, h2, _⟩ := h1.is
 exact ⟨gb, lc, h2.c0⟩
theorem RP.disk (h : RP X M R v g d F w) : ∃ gb lc, w.cell? ⟨R, 0, none⟩ = some (.slice (some ⟨gb, 0, none⟩) d.n lc) := by
 obtain ⟨Fl, sl, h1, _⟩ := h.ex
 exact h1.disk
theorem RL.flen {M R : Nat} (h : RL M R g d F w) (j : Int) : (d.f j).length = 128 := by
 obtain ⟨Td, sl, h1, _⟩ := h.ex
 exact h1.flen j
theorem RP.flen (h : RP X M R v g d F w) (j : Int) : (d.f j).length = 128 := by
 obtain ⟨Fl, sl, h1, _⟩ := h.ex
 exact h1.flen j
theorem RP.setW {ch' : Ch} {w1 : World} {sl' : Value} (h : RP X M R v g d F w) (hb : Below w.heap.size w w1) (hp : Pages w.heap.size ch' sl' w1) (hok : Ok v.N ch') :
   ∃ F', RP X M R { v with ch := ch' } g d F' (w1.setCell ⟨X, 3, none⟩ sl') ∧ To F F' w (w1.setCell ⟨X, 3, none⟩ sl') := by
 obtain ⟨Fl, sl, h1, h2, h3, h4, h5⟩ := (h.later hb).ex
 have hne : ∀ k, k ≠ X → (w1.setCell ⟨X, 3, none⟩ sl').heap[k]? = w1.heap[k]? := fun k hk => heap_setCell_other w1 _ k _ hk
 have hlt := hp.lt
 have hs := hb.size
 have hXl := h.lt X h.fX
 refine ⟨fun k => F k ∨ sl'.ownBlock = some k, ⟨⟨Fl, sl', h1.keep (fun k e => hne k (h4 k e).2.1) (by simp), by rw [heap_setCell_same w1 X 3 _ _ _ h2]; rfl, (hp.low (Nat.zero_le _)).of (fun b e => hne b (by have := hlt b e; omega)), fun k hk => ⟨.inl (h4 k hk).1, (h4 k hk).2.1, fun e => ?_⟩, fun b e => .inr e⟩, .inl h.fX, fun k hk => ?_, hok, h.sz, h.fit⟩, ?_, fun k hk => .inl hk, fun k hk => ?_⟩
 · have := hlt k e
   have := h.lt k (h4 k hk).1
   omega
 · rw [World.size_setCell]
   rcases hk with e | e
   · exact Nat.lt_of_lt_of_le (h.lt k e) hs
   · exact (hlt k e).2
 · exact (Only.of (T := F) hb).set (p := ⟨X, 3, none⟩) (.inl h.fX) _
 · rw [World.size_setCell]
   rcases hk with e | e
   · exact .inl e
   · exact .inr (hlt k e)
theorem RP.halt (h : RP X M R v g d F w) : RP X M R { v with halted := true } g d F (w.setCell ⟨X, 4, none⟩ (.bool true)) ∧ To F F w (w.setCell ⟨X, 4, none⟩ (.bool true)) := by
 obtain ⟨Fl, sl, h1, h2, h3, h4, h5⟩ := h.ex
 have hne : ∀ k, k ≠ X → (w.setCell ⟨X, 4, none⟩ (.bool true)).heap[k]? = w.heap[k]? := fun k hk => heap_setCell_other w _ k _ hk
 exact ⟨⟨⟨Fl, sl, h1.keep (fun k e => hne k (h4 k e).2.1) (by simp), by rw [heap_setCell_same w X 4 _ _ _ h2]; rfl, h3.of (fun b e => hne b (page_ne h2 h3 b e)), h4, h5⟩, h.fX, fun k hk => by simpa using h.lt k hk, h.ok, h.sz, h.fit⟩, .own ((Only.refl F w).set (p := ⟨X, 4, none⟩) (.inl h.fX) _)⟩
def DV.see (v : DV) (d : PD) : Nat → List UInt8 := over v.ch (pg (2 + v.n) d.f)
theorem RP.see_len (h : RP X M R v g d F w) (k : Nat) : (DV.see v d k).length = 128 := over_len h.ok (h.flen _)
end
end Pgr
end Go.Proofs.YtkgbemkcnahkoaaGreatDoor
namespace Go.Proofs.YtkgbemkcnahkoaaGreatDoor
open Go.RowKit
namespace Pgr
open Dsk (pad pad_len)
open Crc (S S_of S_size S_append)
theorem put_new {k : Nat} {s : List UInt8} : ∀ {ch : Ch} {i : Nat}, i ≤ ch.length → (∀ j (h : j < ch.length), j < i → ch[j].1 < k) → (∀ h : i < ch.length, k < ch[i].1) → put ch k s = ch.take i ++ (k, s) :: ch.drop i
 | [], i, h, _, _ => by
   have : i = 0 := by simpa using h
   rw [this]; rfl
 | p :: ch, 0, _, _, h2 => by
   have h3 := h2 (Nat.zero_lt_succ _)
   show (if k < p.1 then _ else _) = _
   rw [if_pos (by simpa using h3)]
   rfl
 | p :: ch, i + 1, h, h1, h2 => by
   have h3 := h1 0 (Nat.zero_lt_succ _) (Nat.zero_lt_succ _)
   have h3' : p.1 < k := by simpa using h3
   show (if k < p.1 then _ else if k = p.1 then _ else p :: put ch k s) = _
   rw [if_neg (by omega), if_neg (by omega), put_new (i := i) (by simpa using h) (fun j hj hji => by
     have := h1 (j + 1) (by simpa using hj) (by omega)
     simpa using this) (fun hj => by
     have := h2 (by simpa using hj)
     simpa using this)]
   rfl
theorem put_same {k : Nat} {s : List UInt8} : ∀ {ch : Ch} {i : Nat} (hi : i < ch.length), (∀ j (h : j < ch.length), j < i → ch[j].1 < k) → ch[i].1 = k → put ch k s = ch.take i ++ (k, s) :: ch.drop (i + 1)
 | [], i, h, _, _ => by simp at h
 | p :: ch, 0, _, _, h2 => by
   have h3 : p.1 = k := by simpa using h2
   show (if k < p.1 then _ else if k = p.1 then _ else _) = _
   rw [if_neg (by omega), if_pos h3.symm]
   rfl
 | p :: ch, i + 1, h, h1, h2 => by
   have h3 := h1 0 (Nat.zero_lt_succ _) (Nat.zero_lt_succ _)
   have h3' : p.1 < k := by simpa using h3
   show (if k < p.1 then _ else if k = p.1 then _ else p :: put ch k s) = _
   rw [if_neg (by omega), if_neg (by omega), put_same (i := i) (by simpa using h) (fun j hj hji => by
     have := h1 (j + 1) (by simpa using hj) (by omega)
     simpa using this) (by simpa using h2)]
   rfl
theorem bit_free (x r : Nat) : ((((x : Int).tdiv ((2 ^ r : Nat) : Int)).tmod 2) == 0) = !(x.testBit r) := by
 have e : (x : Int).tdiv ((2 ^ r : Nat) : Int) = ((x / 2 ^ r : Nat) : Int) := by
   rw [Int.tdiv_eq_ediv_of_nonneg (by omega)]; rfl
 have h := bit_num x r
 obtain ⟨y, hy⟩ : ∃ y, y = x / 2 ^ r := ⟨_, rfl⟩
 rw [← hy] at e h
 rw [e, Int.tmod_eq_emod_of_nonneg (by omega)]
 have h2 : ((y : Int) % 2) = ((y % 2 : Nat) : Int) := by omega
 rw [h2, h]
 cases x.testBit r <;> rfl
set_option maxRecDepth 100000 in
theorem turn_all : ∀ x, x < 256 → ∀ r, r < 8 → (x.testBit r = false → x + 2 ^ r = x ||| 2 ^ r) ∧ (x.testBit r = true → 2 ^ r ≤ x ∧ x - 2 ^ r = x &&& (255 ^^^ 2 ^ r)) := by decide
theorem turn_free {x r : Nat} (hx : x < 256) (hr : r < 8) (h : x.testBit r = false) : x + 2 ^ r = x ||| 2 ^ r := (turn_all x hx r hr).1 h
theorem turn_used {x r : Nat} (hx : x < 256) (hr : r < 8) (h : x.testBit r = true) : 2 ^ r ≤ x ∧ x - 2 ^ r = x &&& (255 ^^^ 2 ^ r) := (turn_all x hx r hr).2 h
theorem pow_le (r : Nat) (hr : r < 8) : 2 ^ r ≤ 128 := by
 have : ∀ r, r < 8 → 2 ^ r ≤ 128 := by decide
 exact this r hr
theorem cut_set (m : List UInt8) (q : Nat) (c : UInt8) (hq : q < m.length) : (S m).extract 0 q ++ S [c] ++ (S m).extract (q + 1) (S m).size = S (m.set q c) := by
 have h1 := Cod.cut_bytes (S m) 0 q
 rw [Nat.zero_add] at h1
 have h2 := Cod.cut_bytes (S m) (q + 1) ((S m).size - (q + 1))
 rw [S_size, show q + 1 + (m.length - (q + 1)) = m.length by omega] at h2
 rw [h1, S_size, h2, S_append, S_append, List.set_eq_take_append_cons_drop, if_pos hq]
 have e1 : ((S m).data.toList.drop 0).take q = m.take q := rfl
 have e2 : ((S m).data.toList.drop (q + 1)).take (m.length - (q + 1)) = m.drop (q + 1) := by
   show (m.drop (q + 1)).take _ = _
   rw [List.take_of_length_le (by rw [List.length_drop]; exact Nat.le_refl _)]
 rw [e1, e2, List.append_assoc]
 rfl
theorem bare_cut {s : List UInt8} {n : Nat} (hn : n ≤ s.length) (h1 : ∀ j (h : j < s.length), n ≤ j → s[j] = 0) (h2 : ∀ h : 0 < n, s[n - 1] ≠ 0) : bare s = s.take n := by
 unfold bare
 refine Lib.trimRightB_take s 0 n hn (fun j b hj hb => ?_) (fun b h0 hb => ?_)
 · obtain ⟨hl, e⟩ := List.getElem?_eq_some_iff.1 hb
   rw [← e]; exact h1 j hl hj
 · obtain ⟨hl, e⟩ := List.getElem?_eq_some_iff.1 hb
   rw [← e]; exact h2 h0
end Pgr
end Go.Proofs.YtkgbemkcnahkoaaGreatDoor
