import Derived.Test.YtkgbemkcnahkoaaGreatDoorZDlto
import Derived.ArgAppend
namespace Go.Proofs.YtkgbemkcnahkoaaGreatDoor
open Go.RowKit
namespace Dsk
section
variable {W : World} {Q : Nat → Prop} {D : Nat} {d : PD} {w : World}
theorem Mine.flen (h : Mine W Q D d w) (k : Int) : (d.f k).length = 128 := by
 obtain ⟨⟨T, ⟨M, ao, cap, hT⟩, _⟩, _, _⟩ := h
 exact hT.map.1 k
theorem Mine.refl_keep (h : Mine W Q D d w) {w' : World} (hb : Below w.heap.size w w') : Mine W Q D d w' ∧ KeepQ Q w w' := ⟨h.later hb, h.kept hb⟩
end
def strs (l : List (List UInt8)) : List Value := l.map fun b => .string (S b)
theorem strs_snoc (l : List (List UInt8)) (b : List UInt8) : strs (l ++ [b]) = strs l ++ [.string (S b)] := by simp [strs]
def StrsAt (base : Nat) (l : List (List UInt8)) (v : Value) (w : World) : Prop := w.ownsRow base 9 1 v l.length (strs l)
theorem StrsAt.form {base : Nat} {l : List (List UInt8)} {v : Value} {w : World} (h : StrsAt base l v w) : ∃ ao cap, v = .slice ao l.length cap ∧ l.length ≤ cap ∧ cap ≤ 9223372036854775807 := by
 rcases h.2 with ⟨h1, h2⟩ | ⟨g, c, cur, hv, _, _, hnc, hcm, _⟩
 · exact ⟨none, 0, by rw [h1, h2], by omega, by omega⟩
 · exact ⟨_, c, hv, hnc, by unfold maxLen at hcm; omega⟩
theorem StrsAt.at {base : Nat} {l : List (List UInt8)} {v : Value} {w : World} (h : StrsAt base l v w) (i : Nat) (hi : i < l.length) : ∃ g cap, v = .slice (some ⟨g, 0, none⟩) l.length cap ∧ base ≤ g ∧ g < w.heap.size ∧ w.cell? ⟨g, i, none⟩ = some (.string (S l[i])) := by
 rcases h.2 with ⟨_, h2⟩ | ⟨g, c, cur, hv, hg, hh, hnc, hcm, hsz, htk⟩
 · omega
 · refine ⟨g, c, hv, hg, lt_of_block hh, ?_⟩
   rw [cell_of_row _ _ _ _ _ (0, 0) hh]
   have h1 : (strs l)[i]? = some (.string (S l[i])) := by unfold strs; simp [hi]
   rw [← htk, List.getElem?_take_of_lt (by omega)] at h1
   simpa using h1
theorem infoS : (Tryz.prog.info? 9).map (fun i => (i.zero, i.size, i.bytes)) = some (some (.string ⟨#[]⟩), 1, 16) := by kernel_rfl
end Dsk
end Go.Proofs.YtkgbemkcnahkoaaGreatDoor
namespace Go.Proofs.YtkgbemkcnahkoaaGreatDoor
open Go.RowKit
namespace Dsk
structure Part (l : List (List UInt8)) (g o cap : Nat) (w : World) : Prop where
 len : l.length ≤ cap
 cm : cap ≤ 9223372036854775807
 row : ∃ cur, w.heap[g]? = some (.cells cur 9 (0, 0)) ∧ cur.size = o + cap ∧ ∀ j (h : j < l.length), cur[o + j]? = some (.string (S l[j]))
section
variable {l : List (List UInt8)} {g o cap : Nat} {w w' : World}
theorem Part.lt (h : Part l g o cap w) : g < w.heap.size := by
 obtain ⟨cur, hh, _⟩ := h.row
 exact lt_of_block hh
theorem Part.keep (h : Part l g o cap w) (hk : w'.heap[g]? = w.heap[g]?) : Part l g o cap w' := by
 obtain ⟨cur, hh, hs, hc⟩ := h.row
 exact ⟨h.len, h.cm, cur, hk.trans hh, hs, hc⟩
theorem Part.later (h : Part l g o cap w) (hb : Below w.heap.size w w') : Part l g o cap w' := h.keep (hb.block g h.lt)
theorem Part.at (h : Part l g o cap w) (i : Nat) (hi : i < l.length) : w.cell? ⟨g, o + i, none⟩ = some (.string (S l[i])) := by
 obtain ⟨cur, hh, hs, hc⟩ := h.row
 rw [cell_of_row _ _ _ _ _ (0, 0) hh]
 exact hc i hi
end
section
variable {W : World} {Q : Nat → Prop} {D : Nat} {d : PD} {w w' : World}
end
theorem undoW_write (f : Int → List UInt8) (cs : List Wt) (p : Nat) (a : List UInt8) : undoW (upd f p a) (cs ++ [⟨p, a, f p⟩]) = undoW f cs := by
 unfold undoW
 rw [List.reverse_append]
 show List.foldl _ (upd (upd f p a) (p : Int) (f p)) cs.reverse = _
 congr 1
 funext j
 by_cases hj : j = (p : Int)
 · rw [hj, upd_same]
 · rw [upd_other _ _ _ _ hj, upd_other _ _ _ _ hj]
end Dsk
end Go.Proofs.YtkgbemkcnahkoaaGreatDoor
namespace Go.Proofs.YtkgbemkcnahkoaaGreatDoor
open Go.RowKit
namespace Dsk
theorem redo_snoc (f : Int → List UInt8) (cs : List Wt) (x : Wt) : redo f (cs ++ [x]) (List.replicate (cs ++ [x]).length true) = upd (redo f cs (List.replicate cs.length true)) x.pos x.laid := by
 unfold redo
 rw [List.length_append, List.length_singleton, List.replicate_succ', List.zip_append (by simp), List.foldl_append]
 rfl
structure Good (d : PD) : Prop where
 full : redo (undoW d.f d.cs) d.cs (List.replicate d.cs.length true) = d.f
 pos : ∀ x ∈ d.cs, x.pos < d.n
theorem Good.new (n : Nat) : Good (PD.new n) := ⟨rfl, fun _ h => nomatch h⟩
theorem Good.write {d : PD} (h : Good d) (k : Nat) (hk : k < d.n) (s : List UInt8) : Good (d.write k s).burn := by
 refine ⟨?_, fun x hx => ?_⟩
 · show redo (undoW (upd d.f k (pad s)) (d.cs ++ [(⟨k, pad s, d.f k⟩ : Wt)])) (d.cs ++ [(⟨k, pad s, d.f k⟩ : Wt)]) (List.replicate (d.cs ++ [(⟨k, pad s, d.f k⟩ : Wt)]).length true) = upd d.f k (pad s)
   rw [undoW_write, redo_snoc, h.full]
 · rcases List.mem_append.1 hx with hx | hx
   · exact h.pos x hx
   · rw [List.mem_singleton.1 hx]; exact hk
theorem Good.empty {d : PD} (h : d.cs = []) : Good d := ⟨by rw [h]; rfl, fun x hx => by rw [h] at hx; exact nomatch hx⟩
theorem Good.flush (d : PD) : Good d.flush.burn := Good.empty rfl
theorem Good.crash (d : PD) (ks : List Bool) : Good (d.crash ks) := Good.empty rfl
def rowL (n : Nat) (f : Int → List UInt8) : List (List UInt8) := (List.range n).map fun (k : Nat) => f (k : Int)
theorem rowL_len (n : Nat) (f : Int → List UInt8) : (rowL n f).length = n := by simp [rowL]
theorem rowL_at (n : Nat) (f : Int → List UInt8) (k : Nat) (h : k < (rowL n f).length) : (rowL n f)[k] = f (k : Int) := by simp [rowL]
theorem rowL_set (n : Nat) (f : Int → List UInt8) (p : Nat) (s : List UInt8) : (rowL n f).set p s = rowL n (upd f p s) := by
 apply List.ext_getElem
 · simp [rowL]
 · intro i h1 h2
   have e1 := rowL_at n (upd f p s) i h2
   have h3 : i < (rowL n f).length := by simpa using h1
   have e2 := rowL_at n f i h3
   rw [List.getElem_set, e1]
   by_cases hp : p = i
   · rw [if_pos hp, ← hp, upd_same]
   · rw [if_neg hp, e2, upd_other _ _ _ _ (by omega)]
def Wt.two (x : Wt) : List Value := [.int .i64 (x.pos : Int), .string (S x.laid)]
def flatR (l : List Wt) : List Value := l.flatMap Wt.two
theorem flatR_snoc (l : List Wt) (x : Wt) : flatR (l ++ [x]) = flatR l ++ x.two := by simp [flatR]
theorem flatR_at (l : List Wt) (i : Nat) (h : i < l.length) : (flatR l)[2 * i]? = some (.int .i64 (l[i].pos : Int)) ∧ (flatR l)[2 * i + 1]? = some (.string (S l[i].laid)) := by
 induction l generalizing i with
 | nil => simp at h
 | cons x l ih =>
   cases i with
   | zero => exact ⟨rfl, rfl⟩
   | succ i =>
     have := ih i (by simpa using h)
     rw [show 2 * (i + 1) = 2 * i + 1 + 1 by omega]
     exact this
def rcells (g n lc : Nat) (wo : Option Addr) (m wc : Nat) (wr fl : Nat) (fu : Bool) (lf : Int) : Array Value :=
 #[.slice (some ⟨g, 0, none⟩) n lc, .slice wo m wc, .int .i64 (wr : Int), .int .i64 (fl : Int), .bool fu, .int .i64 lf]
structure RefAt (R : Nat) (l : List (List UInt8)) (n : Nat) (cs : List Wt) (m wr fl : Nat) (fu : Bool) (lf : Int) (g lc : Nat) (wo : Option Addr) (wc : Nat) (T : Nat → Prop) (w : World) : Prop where
 row : w.heap[R]? = some (.cells (rcells g n lc wo m wc wr fl fu lf) 86 (0, 0))
 part : Part l g 0 lc w
 own : w.ownsRow 0 96 2 (.slice wo m wc) m (flatR cs)
 ln : l.length = n
 lm : cs.length = m
 tR : T R
 tG : T g
 tW : ∀ p, wo = some p → T p.block
 lt : ∀ k, T k → k < w.heap.size
section
variable {R : Nat} {l : List (List UInt8)} {n : Nat} {cs : List Wt} {m wr fl : Nat} {fu : Bool} {lf : Int} {g lc : Nat} {wo : Option Addr} {wc : Nat} {T : Nat → Prop} {w w' : World}
theorem RefAt.cellAt (h : RefAt R l n cs m wr fl fu lf g lc wo wc T w) (j : Nat) : w.cell? ⟨R, j, none⟩ = (rcells g n lc wo m wc wr fl fu lf)[j]? := cell_of_row w R j _ _ _ h.row
theorem RefAt.c0 (h : RefAt R l n cs m wr fl fu lf g lc wo wc T w) : w.cell? ⟨R, 0, none⟩ = some (.slice (some ⟨g, 0, none⟩) n lc) := h.cellAt 0
theorem RefAt.c1 (h : RefAt R l n cs m wr fl fu lf g lc wo wc T w) : w.cell? ⟨R, 1, none⟩ = some (.slice wo m wc) := h.cellAt 1
theorem RefAt.c2 (h : RefAt R l n cs m wr fl fu lf g lc wo wc T w) : w.cell? ⟨R, 2, none⟩ = some (.int .i64 (wr : Int)) := h.cellAt 2
theorem RefAt.c3 (h : RefAt R l n cs m wr fl fu lf g lc wo wc T w) : w.cell? ⟨R, 3, none⟩ = some (.int .i64 (fl : Int)) := h.cellAt 3
theorem RefAt.c4 (h : RefAt R l n cs m wr fl fu lf g lc wo wc T w) : w.cell? ⟨R, 4, none⟩ = some (.bool fu) := h.cellAt 4
theorem RefAt.c5 (h : RefAt R l n cs m wr fl fu lf g lc wo wc T w) : w.cell? ⟨R, 5, none⟩ = some (.int .i64 lf) := h.cellAt 5
theorem RefAt.z (h : RefAt R l n cs m wr fl fu lf g lc wo wc T w) (j : Nat) : w.frozen? ⟨R, j, none⟩ = false := frozen_of_row w R j _ _ h.row
theorem RefAt.gR (h : RefAt R l n cs m wr fl fu lf g lc wo wc T w) : g ≠ R := fun e => by
 obtain ⟨cur, hh, _⟩ := h.part.row
 rw [e, h.row] at hh
 simp at hh
theorem RefAt.wAt (h : RefAt R l n cs m wr fl fu lf g lc wo wc T w) (p : Addr) (hp : wo = some p) : p.block ≠ R ∧ p.block ≠ g ∧ p.block < w.heap.size ∧ p = ⟨p.block, 0, none⟩ ∧ m ≤ wc ∧ wc ≤ 9223372036854775807 ∧ ∀ j u, (flatR cs)[j]? = some u → w.cell? ⟨p.block, j, none⟩ = some u := by
 rcases h.own.2 with ⟨hv, _⟩ | ⟨b, c, cur, hv, _, hh, hmc, hcm, hsz, htk⟩
 · rw [hp] at hv; cases hv
 · rw [hp] at hv
   simp only [Value.slice.injEq, Option.some.injEq] at hv
   obtain ⟨rfl, -, rfl⟩ := hv
   refine ⟨fun e => ?_, fun e => ?_, lt_of_block hh, rfl, hmc, by unfold maxLen at hcm; omega, fun j u hu => ?_⟩
   · have e' : b = R := e
     rw [e', h.row] at hh; simp at hh
   · have e' : b = g := e
     obtain ⟨cur2, hh2, _⟩ := h.part.row
     rw [e', hh2] at hh; simp at hh
   · rw [cell_of_row _ _ _ _ _ (0, 0) hh]
     rw [← htk] at hu
     have hj : j < m * 2 := by
       have := (List.getElem?_eq_some_iff.1 hu).1
       simp at this; omega
     rw [List.getElem?_take_of_lt hj] at hu
     simpa using hu
theorem RefAt.some (h : RefAt R l n cs m wr fl fu lf g lc wo wc T w) (hm : 0 < m) : ∃ b, wo = some ⟨b, 0, none⟩ := by
 rcases h.own.2 with ⟨_, h0⟩ | ⟨b, c, cur, hv, _⟩
 · omega
 · simp only [Value.slice.injEq] at hv
   exact ⟨b, hv.1⟩
theorem RefAt.bounds (h : RefAt R l n cs m wr fl fu lf g lc wo wc T w) : m ≤ wc ∧ wc ≤ 9223372036854775807 ∧ n ≤ lc ∧ lc ≤ 9223372036854775807 := by
 have h1 := h.part.len
 have h2 := h.part.cm
 have h3 := h.ln
 rcases h.own.2 with ⟨hv, h0⟩ | ⟨b, c, cur, hv, _, hh, hmc, hcm, hsz, htk⟩
 · simp only [Value.slice.injEq] at hv
   omega
 · simp only [Value.slice.injEq] at hv
   obtain ⟨-, -, rfl⟩ := hv
   unfold maxLen at hcm
   omega
theorem RefAt.later (h : RefAt R l n cs m wr fl fu lf g lc wo wc T w) (hb : Below w.heap.size w w') : RefAt R l n cs m wr fl fu lf g lc wo wc T w' :=
 ⟨below_keeps hb h.row, h.part.later hb, owns_later h.own hb, h.ln, h.lm, h.tR, h.tG, h.tW, fun k hk => Nat.lt_of_lt_of_le (h.lt k hk) hb.size⟩
theorem RefAt.keep (h : RefAt R l n cs m wr fl fu lf g lc wo wc T w) (hk : ∀ k, T k → w'.heap[k]? = w.heap[k]?) (hs : w.heap.size ≤ w'.heap.size) : RefAt R l n cs m wr fl fu lf g lc wo wc T w' :=
 ⟨(hk _ h.tR).trans h.row, h.part.keep (hk _ h.tG), ownsRow_of h.own (fun b hb => hk b (by
   cases wo with
   | none => cases hb
   | some p => have := h.tW p rfl; cases hb; exact this)), h.ln, h.lm, h.tR, h.tG, h.tW, fun k hk => Nat.lt_of_lt_of_le (h.lt k hk) hs⟩
theorem RefAt.put {wr' fl' : Nat} {fu' : Bool} {lf' : Int} (h : RefAt R l n cs m wr fl fu lf g lc wo wc T w) (i : Nat) (v : Value) (hv : (rcells g n lc wo m wc wr fl fu lf).setIfInBounds i v = rcells g n lc wo m wc wr' fl' fu' lf') :
   RefAt R l n cs m wr' fl' fu' lf' g lc wo wc T (w.setCell ⟨R, i, none⟩ v) := by
 have hne : ∀ k, k ≠ R → (w.setCell ⟨R, i, none⟩ v).heap[k]? = w.heap[k]? := fun k hk => heap_setCell_other w _ k v hk
 refine ⟨by rw [heap_setCell_same w R i _ _ v h.row, hv], h.part.keep (hne g h.gR), ownsRow_of h.own (fun b hb => hne b ?_), h.ln, h.lm, h.tR, h.tG, h.tW, fun k hk => by simpa using h.lt k hk⟩
 cases hwo : wo with
 | none => rw [hwo] at hb; cases hb
 | some p => rw [hwo] at hb; cases hb; exact (h.wAt p hwo).1
theorem RefAt.emptied (h : RefAt R l n cs m wr fl fu lf g lc wo wc T w) : RefAt R l n [] 0 wr fl fu lf g lc none 0 T (w.setCell ⟨R, 1, none⟩ (.slice none 0 0)) := by
 have hne : ∀ k, k ≠ R → (w.setCell ⟨R, 1, none⟩ (.slice none 0 0)).heap[k]? = w.heap[k]? := fun k hk => heap_setCell_other w _ k _ hk
 refine ⟨by rw [heap_setCell_same w R 1 _ _ _ h.row]; rfl, h.part.keep (hne g h.gR), World.ownsRow_nil _ _ _ _, h.ln, rfl, h.tR, h.tG, fun p hp => (nomatch hp), fun k hk => by simpa using h.lt k hk⟩
theorem RefAt.laid (h : RefAt R l n cs m wr fl fu lf g lc wo wc T w) (p : Nat) (s : List UInt8) : RefAt R (l.set p s) n cs m wr fl fu lf g lc wo wc T (w.setCell ⟨g, p, none⟩ (.string (S s))) := by
 have hne : ∀ k, k ≠ g → (w.setCell ⟨g, p, none⟩ (.string (S s))).heap[k]? = w.heap[k]? := fun k hk => heap_setCell_other w _ k _ hk
 obtain ⟨cur, hh, hs, hc⟩ := h.part.row
 refine ⟨(hne R (fun e => h.gR e.symm)).trans h.row, ⟨by rw [List.length_set]; exact h.part.len, h.part.cm, _, heap_setCell_same w g p cur _ _ hh, by simpa using hs, fun j hj => ?_⟩, ownsRow_of h.own (fun b hb => hne b ?_), by rw [List.length_set]; exact h.ln, h.lm, h.tR, h.tG, h.tW, fun k hk => by simpa using h.lt k hk⟩
 · rw [List.length_set] at hj
   have hl := h.part.len
   rw [List.getElem_set, Nat.zero_add]
   by_cases hpj : p = j
   · subst hpj
     rw [if_pos rfl, Array.getElem?_setIfInBounds_self]
     simp; omega
   · rw [if_neg hpj, Array.getElem?_setIfInBounds_ne hpj]
     have := hc j hj
     rwa [Nat.zero_add] at this
 · cases hwo : wo with
   | none => rw [hwo] at hb; cases hb
   | some p => rw [hwo] at hb; cases hb; exact (h.wAt p hwo).2.1
end
def RefIs (R : Nat) (d : PD) (T : Nat → Prop) (w : World) : Prop :=
 ∃ lf g lc wo wc, RefAt R (rowL d.n (undoW d.f d.cs)) d.n d.cs d.cs.length d.wr d.fl d.fu lf g lc wo wc T w ∧ (d.fu = true → lf = (d.lf : Int)) ∧ -((d.wr : Int) + d.fl) ≤ lf ∧ lf ≤ 9223372036854775807 ∧ d.ok
section
variable {R : Nat} {d : PD} {T : Nat → Prop} {w w' : World}
theorem RefIs.later (h : RefIs R d T w) (hb : Below w.heap.size w w') : RefIs R d T w' := by
 obtain ⟨lf, g, lc, wo, wc, h, r⟩ := h
 exact ⟨lf, g, lc, wo, wc, h.later hb, r⟩
theorem RefIs.keep (h : RefIs R d T w) (hk : ∀ k, T k → w'.heap[k]? = w.heap[k]?) (hs : w.heap.size ≤ w'.heap.size) : RefIs R d T w' := by
 obtain ⟨lf, g, lc, wo, wc, h, r⟩ := h
 exact ⟨lf, g, lc, wo, wc, h.keep hk hs, r⟩
theorem RefIs.lt (h : RefIs R d T w) : ∀ k, T k → k < w.heap.size := by
 obtain ⟨lf, g, lc, wo, wc, h, r⟩ := h
 exact h.lt
end
set_option maxHeartbeats 1000000 in
theorem rburnt_yes (R : Nat) (w : World) (h4 : w.cell? ⟨R, 4, none⟩ = some (.bool true)) (h5 : w.cell? ⟨R, 5, none⟩ = some (.int .i64 0)) :
   Calls Tryz.prog 91 #[.pointer (some ⟨R, 0, none⟩)] w fun e w' => e = .returned (.bool true) ∧ w = w' := by
 go_enter Tryz.func91, Tryz.ntmps91
 go_wp2_with fail
 go_ret
 exact ⟨rfl, rfl⟩
set_option maxHeartbeats 1000000 in
theorem rburnt_no (R : Nat) (fu : Bool) (lf : Int) (w : World) (h4 : w.cell? ⟨R, 4, none⟩ = some (.bool fu)) (h5 : w.cell? ⟨R, 5, none⟩ = some (.int .i64 lf)) (z5 : w.frozen? ⟨R, 5, none⟩ = false) (hb : fu = true → lf ≠ 0) (h1 : -2000000 ≤ lf) (h2 : lf ≤ 9223372036854775807) :
   Calls Tryz.prog 91 #[.pointer (some ⟨R, 0, none⟩)] w fun e w' => e = .returned (.bool false) ∧ w' = w.setCell ⟨R, 5, none⟩ (.int .i64 (lf - 1)) := by
 have f1 : wrap64 (lf - 1) = lf - 1 := by unfold wrap64; omega
 cases fu
 · clear hb
   go_enter Tryz.func91, Tryz.ntmps91
   go_wp2_with fail
   go_ret
   exact ⟨rfl, rfl⟩
 · have f2 : ¬ lf = 0 := hb rfl
   have f3 : (lf == 0) = false := by simpa using f2
   clear hb
   go_enter Tryz.func91, Tryz.ntmps91
   go_wp2_with fail
   go_ret
   exact ⟨rfl, rfl⟩
set_option maxHeartbeats 1000000 in
theorem rfuse_any {R : Nat} {d : PD} {T : Nat → Prop} (k : Int) (hk : k ≤ 9223372036854775807) (w : World) (h : RefIs R d T w) :
   Calls Tryz.prog 15 #[.pointer (some ⟨R, 0, none⟩), .int .i64 k] w fun e w' => e = .returned (.tuple #[]) ∧ RefIs R { d with fu := true, lf := k.toNat } T w' ∧ Only T w w' := by
 obtain ⟨lf, g, lc, wo, wc, hA, r1, r2, r3, r4⟩ := h
 have HA := hidm hA
 have h4 := hA.c4
 have h5 := hA.c5
 have z4 := hA.z 4
 have z5 := hA.z 5
 obtain ⟨o1, o2, o3, o4, o5, o6⟩ := r4
 obtain ⟨kn, hkn⟩ : ∃ kn, kn = k.toNat := ⟨_, rfl⟩
 have hmax : max 0 k = (kn : Int) := by omega
 have hkm : kn ≤ 9223372036854775807 := by omega
 have hmax2 : max k 0 = (kn : Int) := by omega
 rw [← hkn]
 clear hkn hA r1 r2 r3
 go_enter Tryz.func15, Tryz.ntmps15
 go_wp2_with fail
 go_end0
 have hB := (HA.out.put (wr' := d.wr) (fl' := d.fl) (fu' := true) (lf' := lf) 4 (.bool true) rfl).put (wr' := d.wr) (fl' := d.fl) (fu' := true) (lf' := (kn : Int)) 5 (.int .i64 (kn : Int)) rfl
 exact ⟨rfl, ⟨(kn : Int), g, lc, wo, wc, hB, fun _ => rfl, by show -((d.wr : Int) + d.fl) ≤ (kn : Int); omega, by omega, o1, o2, o3, o4, o5, hkm⟩, ((Only.refl _ _).set (.inl HA.out.tR) _).set (.inl HA.out.tR) _⟩
end Dsk
end Go.Proofs.YtkgbemkcnahkoaaGreatDoor
namespace Go.Proofs.YtkgbemkcnahkoaaGreatDoor
open Go.RowKit
namespace Dsk
def ncells (v : Value) : Array Value := #[v, .slice none 0 0, .int .i64 0, .int .i64 0, .bool false, .int .i64 0]
theorem pad_nil : pad (⟨#[]⟩ : ByteArray).data.toList = zeros := rfl
set_option maxHeartbeats 4000000 in
set_option maxRecDepth 100000 in
theorem rnew_any (n : Nat) (h1 : 1 ≤ n) (h2 : n ≤ 4096) (w : World) :
   Calls Tryz.prog 11 #[.int .i64 (n : Int)] w fun e w' => e = .returned (.tuple #[.pointer (some ⟨w.heap.size, 0, none⟩), .int .i64 0]) ∧ RefIs w.heap.size (PD.new n) (Come w w') w' ∧ Below w.heap.size w w' := by
 obtain ⟨i0, hi0, hz0, hz1, hz2⟩ := info_parts infoS
 have f1 : ¬ (n : Int) < 1 := by omega
 have f2 : ¬ (4096 : Int) < (n : Int) := by omega
 have PADC := hidm (fun w => rpad_any ⟨#[]⟩ (by decide) w)
 rw [pad_nil] at PADC
 obtain ⟨z, hz⟩ : ∃ z, z = zeros := ⟨_, rfl⟩
 rw [← hz] at PADC
 have HZ := hidm hz
 clear hz
 go_enter Tryz.func11, Tryz.ntmps11
 go_wp2_with fail
 obtain ⟨W1, hW1⟩ : ∃ W1, W1 = w.alloc (.cells (ncells (.slice none 0 0)) 86) := ⟨_, rfl⟩
 have hb1 : Below w.heap.size w W1 := by rw [hW1]; exact (Below.refl _ _).alloc (Nat.le_refl _) _
 have hr1 : W1.heap[w.heap.size]? = some (.cells (ncells (.slice none 0 0)) 86 (0, 0)) := by rw [hW1, heap_alloc_last w _]
 unfold ncells at hW1
 rw [← hW1]
 clear hW1
 refine (PADC.out W1).mono ?_
 rintro e w2 ⟨rfl, hb2⟩
 obtain ⟨R, hR⟩ : ∃ R, R = w.heap.size := ⟨_, rfl⟩
 have HR := hidm hR
 have HR2 := hidm (below_keeps hb2 hr1)
 have HB2 := hidm (hb1.trans (hb2.mono hb1.size))
 rw [← hR] at HR2 ⊢
 clear hb1 hb2 hr1 hR
 go_wp2_with fail
 go_loopw [6] (fun ii wx => ∃ (i : Nat) (vo : Option Addr) (vc : Nat), ii = .int .i64 i ∧ i ≤ n ∧ Hid (wx.heap[R]? = some (.cells (ncells (.slice vo i vc)) 86 (0, 0))) ∧ Hid (wx.ownsRow (R + 1) 9 1 (.slice vo i vc) i (strs (List.replicate i z))) ∧ Hid (Below w.heap.size w wx)) (fun ii _ => (n - (intOf ii).toNat))
 case atStart => exact ⟨0, none, 0, rfl, by omega, HR2, hidm (World.ownsRow_nil _ _ _ _), HB2⟩
 case round =>
   rename World => wx
   obtain ⟨i, vo, vc, rfl, hi, HRW, HO, HB⟩ := hrel
   rcases Nat.lt_or_ge i n with hlt | hge
   · have f3 : (i : Int) < n := by omega
     have hRlt : R < wx.heap.size := lt_of_block HRW.out
     have HRL := hidm hRlt
     have c0 : wx.cell? ⟨R, 0, none⟩ = some (.slice vo i vc) := row_cell HRW.out 0
     have c0' : ∀ o, (wx.alloc o).cell? ⟨R, 0, none⟩ = some (.slice vo i vc) := fun o => cell_later ((Below.refl _ wx).alloc (Nat.le_refl _) o) c0
     have hba : Below wx.heap.size wx (wx.alloc (.cells #[.string (S z)] 9)) := (Below.refl _ wx).alloc (Nat.le_refl _) _
     have HBA := hidm hba
     have HRA := hidm (below_keeps hba HRW.out)
     have HOA := hidm (owns_later HO.out hba)
     have HST := hidm (show strs (List.replicate (i + 1) z) = strs (List.replicate i z) ++ [.string (S z)] from by rw [List.replicate_succ', strs_snoc])
     have HOL := hidm (show ∀ q, (Value.slice vo i vc).ownBlock = some q → R + 1 ≤ q from fun q hq => (HO.out.lt q hq).1)
     clear hba hRlt
     go_wp2_with (at_builtin; refine wpList_append_own _ rfl _ _ 57 rfl (R + 1) 9 i0 (.string ⟨#[]⟩) 1 16 Tryz.underlying57 hi0 hz0 hz1 hz2 rfl (by decide) _ _ _ rfl HOA.out ⟨wx.heap.size, 0, none⟩ 1 1 [.string (S z)] rfl rfl ?CA ?CB ?CC ?CD ?CE ?_)
     case CA =>
       intro j y hj
       match j, hj with
       | 0, hj => simp at hj; subst hj; simp [Addr.add, go_sem]
       | j + 1, hj => simp at hj
     case CB => intro y hy; simp at hy; subst hy; rfl
     case CC => unfold maxLen; omega
     case CD => omega
     case CE => simp; have := HRL.out; omega
     intro v' w3 hown hgrow _
     rw [← HST.out] at hown
     obtain ⟨wo, wc, hvv⟩ : ∃ so sc, v' = .slice so (i + 1) sc := by
       rcases hown.2 with ⟨hv, h0⟩ | ⟨g', c', cur, hv, _⟩
       · exact absurd h0 (by omega)
       · exact ⟨_, _, hv⟩
     subst hvv
     have hr3 : w3.heap[R]? = some (.cells (ncells (.slice vo i vc)) 86 (0, 0)) := by
       rw [hgrow.block R (by have := HRL.out; simp; omega) (fun e => by have := HOL.out R e.symm; omega)]
       exact HRA.out
     have c3 : w3.cell? ⟨R, 0, none⟩ = some (.slice vo i vc) := row_cell hr3 0
     have z3 := frozen_of_row w3 R 0 _ _ hr3
     have hb3 : Below w.heap.size w w3 := (HB.out.alloc HB.out.size (.cells #[.string (S z)] 9)).grown hgrow (by have := HB.out.size; simp; omega) (fun q hq => by have := HOL.out q hq; have := HR.out; omega)
     have HRN := hidm (show (w3.setCell ⟨R, 0, none⟩ (.slice wo (i + 1) wc)).heap[R]? = some (.cells (ncells (.slice wo (i + 1) wc)) 86 (0, 0)) from by rw [heap_setCell_same w3 R 0 _ _ _ hr3]; rfl)
     have HON := hidm (show (w3.setCell ⟨R, 0, none⟩ (.slice wo (i + 1) wc)).ownsRow (R + 1) 9 1 (.slice wo (i + 1) wc) (i + 1) (strs (List.replicate (i + 1) z)) from ownsRow_of hown (fun q hq => heap_setCell_other w3 _ q _ (by have := (hown.lt q hq).1; show q ≠ R; omega)))
     have HBN := hidm (show Below w.heap.size w (w3.setCell ⟨R, 0, none⟩ (.slice wo (i + 1) wc)) from ((Only.of (T := fun k => k = R) hb3).set (.inl rfl) _).below (fun k e => by have : k = R := e; have := HR.out; omega) (Nat.le_refl _))
     clear hown hgrow hr3 hb3 c0 c0'
     go_wp2_with fail
     go_roundw
     case rel => exact ⟨i + 1, wo, wc, by go_num, by omega, HRN, HON, HBN⟩
     case measure => simp [intOf]; omega
   · obtain rfl : i = n := by omega
     have f3 : ¬ (i : Int) < (i : Int) := by omega
     go_wp2_with fail
     go_ret2
     have hRR := HR.out
     refine ⟨by rw [← hRR]; rfl, ?_, HB.out⟩
     rw [← hRR]
     have hrw := HRW.out
     rcases HO.out.2 with ⟨_, h0⟩ | ⟨g, c, cur, hv, hg, hh, hnc, hcm, hsz, htk⟩
     · omega
     · simp only [Value.slice.injEq] at hv
       obtain ⟨rfl, -, rfl⟩ := hv
       refine ⟨0, g, vc, none, 0, ⟨hrw, ⟨by rw [rowL_len]; exact hnc, by unfold maxLen at hcm; omega, cur, hh, by omega, fun j hj => ?_⟩, World.ownsRow_nil _ _ _ _, rowL_len _ _, rfl, ⟨by omega, lt_of_block hrw⟩, ⟨by omega, lt_of_block hh⟩, fun p hp => (nomatch hp), fun k hk => hk.2⟩, (fun h => by cases h), by show -((0 : Nat) + (0 : Nat) : Int) ≤ 0; omega, by omega, PD.new_ok h2⟩
       have hj2 : j < i := by rw [rowL_len] at hj; exact hj
       have e1 : (strs (List.replicate i z))[j]? = some (.string (S z)) := by unfold strs; simp [hj2]
       rw [← htk, List.getElem?_take_of_lt (by omega)] at e1
       rw [Nat.zero_add, rowL_at]
       show cur[j]? = some (.string (S zeros))
       rw [← HZ.out]
       simpa using e1
theorem redoN_all (f : Int → List UInt8) (cs : List Wt) (ks : List Bool) (k : Nat) (h : (cs.zip ks).length ≤ k) : redoN f cs ks k = redo f cs ks := by
 unfold redoN redo
 rw [List.take_of_length_le h]
theorem redoN_zero (f : Int → List UInt8) (cs : List Wt) (ks : List Bool) : redoN f cs ks 0 = f := rfl
set_option maxHeartbeats 4000000 in
set_option maxRecDepth 100000 in
theorem rread_on {R : Nat} {d : PD} {T : Nat → Prop} (k : Nat) (w : World) (h : RefIs R d T w) (hg : Good d) (hk : k < d.n) :
   Calls Tryz.prog 66 #[.pointer (some ⟨R, 0, none⟩), .int .i64 (k : Int)] w fun e w' => e = .returned (.tuple #[.string (S (d.f k)), .int .i64 0]) ∧ Below w.heap.size w w' := by
 obtain ⟨lf, g, lc, wo, wc, hA, r1, r2, r3, r4⟩ := h
 have HA := hidm hA
 obtain ⟨b1, b2, b3, b4⟩ := hA.bounds
 have c0 := hA.c0
 have c1 := hA.c1
 have hkl : k < (rowL d.n (undoW d.f d.cs)).length := by rw [rowL_len]; exact hk
 have hcl : w.cell? ⟨g, k, none⟩ = some (.string (S (undoW d.f d.cs k))) := by
   have := hA.part.at k hkl
   rwa [rowL_at, Nat.zero_add] at this
 have hgl : g < w.heap.size := hA.part.lt
 have ok := r4
 obtain ⟨n, hn⟩ : ∃ n, n = d.n := ⟨_, rfl⟩
 obtain ⟨m, hm⟩ : ∃ m, m = d.cs.length := ⟨_, rfl⟩
 have hm1 : m ≤ 1000000 := by rw [hm]; exact ok.2.2.1
 obtain ⟨tx, htx⟩ : ∃ t, t = d.f (k : Int) := ⟨_, rfl⟩
 obtain ⟨ux, hux⟩ : ∃ t, t = undoW d.f d.cs (k : Int) := ⟨_, rfl⟩
 have HTX := hidm htx
 have HUX := hidm hux
 have HG := hidm hg
 have HM := hidm hm
 have f2 : ¬ (k : Int) < 0 := by omega
 have f3 : ¬ (n : Int) ≤ (k : Int) := by omega
 have f4 : wrap64 ((m : Int) - 1) = (m : Int) - 1 := by unfold wrap64; omega
 have HS0 := hidm (show redoN (undoW d.f d.cs) d.cs (List.replicate d.cs.length true) m (k : Int) = tx from by
   rw [hm, redoN_all _ _ _ _ (by simp), hg.full, htx])
 rw [← hn] at c0
 rw [← hn] at b3
 rw [← hm] at c1 b1
 rw [← hux] at hcl
 rw [← htx]
 clear hA hm hn hux htx hkl hg r1 r2 r3 r4 ok
 go_enter Tryz.func66, Tryz.ntmps66
 go_wp2_with fail
 go_loopw [6] (fun ii wr => ∃ i : Int, ii = .int .i64 i ∧ -1 ≤ i ∧ i < m ∧ wr = w ∧ Hid (redoN (undoW d.f d.cs) d.cs (List.replicate d.cs.length true) (i + 1).toNat (k : Int) = tx)) (fun ii _ => ((intOf ii) + 1).toNat)
 case atStart => exact ⟨(m : Int) - 1, rfl, by omega, by omega, rfl, hidm (by rw [show ((m : Int) - 1 + 1).toNat = m by omega]; exact HS0.out)⟩
 case round =>
   rename World => wr
   obtain ⟨i, rfl, hi1, hi2, rfl, HI⟩ := hrel
   by_cases hi0 : 0 ≤ i
   · obtain ⟨q, rfl⟩ := Int.eq_ofNat_of_zero_le hi0
     have hqm : q < d.cs.length := by have := HM.out; omega
     obtain ⟨b, hb⟩ := HA.out.some (by omega)
     have hw := HA.out.wAt _ hb
     obtain ⟨e0, e1⟩ := flatR_at d.cs q hqm
     have p0 := hw.2.2.2.2.2.2 _ _ e0
     have p1 := hw.2.2.2.2.2.2 _ _ e1
     subst hb
     obtain ⟨x, hx⟩ : ∃ x, x = d.cs[q] := ⟨_, rfl⟩
     rw [← hx] at p0 p1
     have HST := hidm (show redoN (undoW d.f d.cs) d.cs (List.replicate d.cs.length true) (q + 1) (k : Int) = upd (redoN (undoW d.f d.cs) d.cs (List.replicate d.cs.length true) q) x.pos x.laid (k : Int) from by
       rw [redoN_succ _ _ _ q hqm (by simpa using hqm)]
       simp [hx])
     have hqw : q < wc := by have := HM.out; omega
     have hqi : (q : Int) < m := by omega
     have e2 : ((q : Int) + 1).toNat = q + 1 := by omega
     rw [e2] at HI
     have f5 : wrap64 ((q : Int) - 1) = (q : Int) - 1 := by unfold wrap64; omega
     rw [show 2 * q = q * 2 by omega] at p0 p1
     clear hx e0 e1 hw hi0 hi1 e2
     by_cases hpk : x.pos = k
     · have g1 : (x.pos : Int) = (k : Int) := by omega
       have HTT := hidm (show x.laid = tx from by rw [← HI.out, HST.out, hpk, upd_same])
       rw [HTT.out] at p1
       rw [hpk] at p0
       clear g1 hpk
       go_wp2_with fail
       go_ret2
       exact ⟨rfl, Below.refl _ _⟩
     · have g1 : ¬ (x.pos : Int) = (k : Int) := by omega
       have g2 : ((x.pos : Int) == (k : Int)) = false := by simpa using g1
       have HI2 := hidm (show redoN (undoW d.f d.cs) d.cs (List.replicate d.cs.length true) ((q : Int) - 1 + 1).toNat (k : Int) = tx from by
         rw [show ((q : Int) - 1 + 1).toNat = q by omega, ← HI.out, HST.out, upd_other _ _ _ _ (by omega)])
       go_wp2_with fail
       go_roundw
       case rel => exact ⟨(q : Int) - 1, by go_num, by omega, by omega, (by first | rfl | trivial), HI2⟩
       case measure => simp [intOf] <;> omega
   · have g1 : ¬ (0 : Int) ≤ i := hi0
     obtain rfl : i = -1 := by omega
     have HTT := hidm (show ux = tx from by
       have h := HI.out
       rw [show ((-1 : Int) + 1).toNat = 0 from rfl, redoN_zero] at h
       rw [HUX.out, h])
     rw [HTT.out] at hcl
     clear hi0 g1 HI
     have hki : (k : Int) < n := by omega
     have hkc : k < lc := by omega
     go_wp2_with fail
     go_ret2
     exact ⟨rfl, Below.refl _ _⟩
end Dsk
end Go.Proofs.YtkgbemkcnahkoaaGreatDoor
