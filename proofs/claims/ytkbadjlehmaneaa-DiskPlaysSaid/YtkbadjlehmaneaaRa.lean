/- The document's disk in memory; its burnt, Fuse. Conditions: as each says. -/
import Derived.Test.YtkbadjlehmaneaaDr
namespace Go.Proofs.Ytkbadjlehmaneaa
open Go.RowKit
namespace Dsk
theorem redo_snoc (f : Int → List UInt8) (cs : List Wt) (x : Wt) : redo f (cs ++ [x]) (List.replicate (cs ++ [x]).length true) = upd (redo f cs (List.replicate cs.length true)) x.pos x.laid := by
  unfold redo
  rw [List.length_append, List.length_singleton, List.replicate_succ', List.zip_append (by simp), List.foldl_append]
  rfl
/-- What was written is what is laid anew; the writes of the cache are of sectors that there are. -/
structure Good (d : PD) : Prop where
  full : redo (undoW d.f d.cs) d.cs (List.replicate d.cs.length true) = d.f
  pos : ∀ x ∈ d.cs, x.pos < d.n
theorem Good.new (n : Nat) : Good (PD.new n) := ⟨rfl, fun _ h => nomatch h⟩
theorem Good.write {d : PD} (h : Good d) (k : Nat) (hk : k < d.n) (s : List UInt8) : Good (d.write k s).burn := by
  refine ⟨?_, fun x hx => ?_⟩
  · show redo (undoW (upd d.f k (pad s)) (d.cs ++ [(⟨k, pad s, d.f k⟩ : Wt)])) (d.cs ++ [(⟨k, pad s, d.f k⟩ : Wt)]) (List.replicate (d.cs ++ [(⟨k, pad s, d.f k⟩ : Wt)]).length true) = upd d.f k (pad s)
    rw [undoW_write, redo_snoc, h.full]
  · rcases List.mem_append.1 hx with hx | hx
    · exact h.pos x hx
    · rw [List.mem_singleton.1 hx]; exact hk
theorem Good.empty {d : PD} (h : d.cs = []) : Good d := ⟨by rw [h]; rfl, fun x hx => by rw [h] at hx; exact nomatch hx⟩
theorem Good.flush (d : PD) : Good d.flush.burn := Good.empty rfl
theorem Good.crash (d : PD) (ks : List Bool) : Good (d.crash ks) := Good.empty rfl
/-! ### In memory -/
def rowL (n : Nat) (f : Int → List UInt8) : List (List UInt8) := (List.range n).map fun (k : Nat) => f (k : Int)
theorem rowL_len (n : Nat) (f : Int → List UInt8) : (rowL n f).length = n := by simp [rowL]
theorem rowL_at (n : Nat) (f : Int → List UInt8) (k : Nat) (h : k < (rowL n f).length) : (rowL n f)[k] = f (k : Int) := by simp [rowL]
theorem rowL_set (n : Nat) (f : Int → List UInt8) (p : Nat) (s : List UInt8) : (rowL n f).set p s = rowL n (upd f p s) := by
  apply List.ext_getElem
  · simp [rowL]
  · intro i h1 h2
    have e1 := rowL_at n (upd f p s) i h2
    have h3 : i < (rowL n f).length := by simpa using h1
    have e2 := rowL_at n f i h3
    rw [List.getElem_set, e1]
    by_cases hp : p = i
    · rw [if_pos hp, ← hp, upd_same]
    · rw [if_neg hp, e2, upd_other _ _ _ _ (by omega)]
def Wt.two (x : Wt) : List Value := [.int .i64 (x.pos : Int), .string (S x.laid)]
def flatR (l : List Wt) : List Value := l.flatMap Wt.two
theorem flatR_snoc (l : List Wt) (x : Wt) : flatR (l ++ [x]) = flatR l ++ x.two := by simp [flatR]
theorem flatR_at (l : List Wt) (i : Nat) (h : i < l.length) : (flatR l)[2 * i]? = some (.int .i64 (l[i].pos : Int)) ∧ (flatR l)[2 * i + 1]? = some (.string (S l[i].laid)) := by
  induction l generalizing i with
  | nil => simp at h
  | cons x l ih =>
    cases i with
    | zero => exact ⟨rfl, rfl⟩
    | succ i =>
      have := ih i (by simpa using h)
      rw [show 2 * (i + 1) = 2 * i + 1 + 1 by omega]
      exact this
def rcells (g n lc : Nat) (wo : Option Addr) (m wc : Nat) (wr fl : Nat) (fu : Bool) (lf : Int) : Array Value :=
  #[.slice (some ⟨g, 0, none⟩) n lc, .slice wo m wc, .int .i64 (wr : Int), .int .i64 (fl : Int), .bool fu, .int .i64 lf]
/-- Block R is the document's disk with these sectors and writes. -/
structure RefAt (R : Nat) (l : List (List UInt8)) (n : Nat) (cs : List Wt) (m wr fl : Nat) (fu : Bool) (lf : Int) (g lc : Nat) (wo : Option Addr) (wc : Nat) (T : Nat → Prop) (w : World) : Prop where
  row : w.heap[R]? = some (.cells (rcells g n lc wo m wc wr fl fu lf) 46 (0, 0))
  part : Part l g 0 lc w
  own : w.ownsRow 0 69 2 (.slice wo m wc) m (flatR cs)
  ln : l.length = n
  lm : cs.length = m
  tR : T R
  tG : T g
  tW : ∀ p, wo = some p → T p.block
  lt : ∀ k, T k → k < w.heap.size
section
variable {R : Nat} {l : List (List UInt8)} {n : Nat} {cs : List Wt} {m wr fl : Nat} {fu : Bool} {lf : Int} {g lc : Nat} {wo : Option Addr} {wc : Nat} {T : Nat → Prop} {w w' : World}
theorem RefAt.cellAt (h : RefAt R l n cs m wr fl fu lf g lc wo wc T w) (j : Nat) : w.cell? ⟨R, j, none⟩ = (rcells g n lc wo m wc wr fl fu lf)[j]? := cell_of_row w R j _ _ _ h.row
theorem RefAt.c0 (h : RefAt R l n cs m wr fl fu lf g lc wo wc T w) : w.cell? ⟨R, 0, none⟩ = some (.slice (some ⟨g, 0, none⟩) n lc) := h.cellAt 0
theorem RefAt.c1 (h : RefAt R l n cs m wr fl fu lf g lc wo wc T w) : w.cell? ⟨R, 1, none⟩ = some (.slice wo m wc) := h.cellAt 1
theorem RefAt.c2 (h : RefAt R l n cs m wr fl fu lf g lc wo wc T w) : w.cell? ⟨R, 2, none⟩ = some (.int .i64 (wr : Int)) := h.cellAt 2
theorem RefAt.c3 (h : RefAt R l n cs m wr fl fu lf g lc wo wc T w) : w.cell? ⟨R, 3, none⟩ = some (.int .i64 (fl : Int)) := h.cellAt 3
theorem RefAt.c4 (h : RefAt R l n cs m wr fl fu lf g lc wo wc T w) : w.cell? ⟨R, 4, none⟩ = some (.bool fu) := h.cellAt 4
theorem RefAt.c5 (h : RefAt R l n cs m wr fl fu lf g lc wo wc T w) : w.cell? ⟨R, 5, none⟩ = some (.int .i64 lf) := h.cellAt 5
theorem RefAt.z (h : RefAt R l n cs m wr fl fu lf g lc wo wc T w) (j : Nat) : w.frozen? ⟨R, j, none⟩ = false := frozen_of_row w R j _ _ h.row
theorem RefAt.gR (h : RefAt R l n cs m wr fl fu lf g lc wo wc T w) : g ≠ R := fun e => by
  obtain ⟨cur, hh, _⟩ := h.part.row
  rw [e, h.row] at hh
  simp at hh
theorem RefAt.wAt (h : RefAt R l n cs m wr fl fu lf g lc wo wc T w) (p : Addr) (hp : wo = some p) : p.block ≠ R ∧ p.block ≠ g ∧ p.block < w.heap.size ∧ p = ⟨p.block, 0, none⟩ ∧ m ≤ wc ∧ wc ≤ 9223372036854775807 ∧ ∀ j u, (flatR cs)[j]? = some u → w.cell? ⟨p.block, j, none⟩ = some u := by
  rcases h.own.2 with ⟨hv, _⟩ | ⟨b, c, cur, hv, _, hh, hmc, hcm, hsz, htk⟩
  · rw [hp] at hv; cases hv
  · rw [hp] at hv
    simp only [Value.slice.injEq, Option.some.injEq] at hv
    obtain ⟨rfl, -, rfl⟩ := hv
    refine ⟨fun e => ?_, fun e => ?_, lt_of_block hh, rfl, hmc, by unfold maxLen at hcm; omega, fun j u hu => ?_⟩
    · have e' : b = R := e
      rw [e', h.row] at hh; simp at hh
    · have e' : b = g := e
      obtain ⟨cur2, hh2, _⟩ := h.part.row
      rw [e', hh2] at hh; simp at hh
    · rw [cell_of_row _ _ _ _ _ (0, 0) hh]
      rw [← htk] at hu
      have hj : j < m * 2 := by
        have := (List.getElem?_eq_some_iff.1 hu).1
        simp at this; omega
      rw [List.getElem?_take_of_lt hj] at hu
      simpa using hu
theorem RefAt.some (h : RefAt R l n cs m wr fl fu lf g lc wo wc T w) (hm : 0 < m) : ∃ b, wo = some ⟨b, 0, none⟩ := by
  rcases h.own.2 with ⟨_, h0⟩ | ⟨b, c, cur, hv, _⟩
  · omega
  · simp only [Value.slice.injEq] at hv
    exact ⟨b, hv.1⟩
theorem RefAt.bounds (h : RefAt R l n cs m wr fl fu lf g lc wo wc T w) : m ≤ wc ∧ wc ≤ 9223372036854775807 ∧ n ≤ lc ∧ lc ≤ 9223372036854775807 := by
  have h1 := h.part.len
  have h2 := h.part.cm
  have h3 := h.ln
  rcases h.own.2 with ⟨hv, h0⟩ | ⟨b, c, cur, hv, _, hh, hmc, hcm, hsz, htk⟩
  · simp only [Value.slice.injEq] at hv
    omega
  · simp only [Value.slice.injEq] at hv
    obtain ⟨-, -, rfl⟩ := hv
    unfold maxLen at hcm
    omega
theorem RefAt.later (h : RefAt R l n cs m wr fl fu lf g lc wo wc T w) (hb : Below w.heap.size w w') : RefAt R l n cs m wr fl fu lf g lc wo wc T w' :=
  ⟨below_keeps hb h.row, h.part.later hb, owns_later h.own hb, h.ln, h.lm, h.tR, h.tG, h.tW, fun k hk => Nat.lt_of_lt_of_le (h.lt k hk) hb.size⟩
theorem RefAt.keep (h : RefAt R l n cs m wr fl fu lf g lc wo wc T w) (hk : ∀ k, T k → w'.heap[k]? = w.heap[k]?) (hs : w.heap.size ≤ w'.heap.size) : RefAt R l n cs m wr fl fu lf g lc wo wc T w' :=
  ⟨(hk _ h.tR).trans h.row, h.part.keep (hk _ h.tG), ownsRow_of h.own (fun b hb => hk b (by
    cases wo with
    | none => cases hb
    | some p => have := h.tW p rfl; cases hb; exact this)), h.ln, h.lm, h.tR, h.tG, h.tW, fun k hk => Nat.lt_of_lt_of_le (h.lt k hk) hs⟩
/-- A store into R's own block: another field. -/
theorem RefAt.put {wr' fl' : Nat} {fu' : Bool} {lf' : Int} (h : RefAt R l n cs m wr fl fu lf g lc wo wc T w) (i : Nat) (v : Value) (hv : (rcells g n lc wo m wc wr fl fu lf).setIfInBounds i v = rcells g n lc wo m wc wr' fl' fu' lf') :
    RefAt R l n cs m wr' fl' fu' lf' g lc wo wc T (w.setCell ⟨R, i, none⟩ v) := by
  have hne : ∀ k, k ≠ R → (w.setCell ⟨R, i, none⟩ v).heap[k]? = w.heap[k]? := fun k hk => heap_setCell_other w _ k v hk
  refine ⟨by rw [heap_setCell_same w R i _ _ v h.row, hv], h.part.keep (hne g h.gR), ownsRow_of h.own (fun b hb => hne b ?_), h.ln, h.lm, h.tR, h.tG, h.tW, fun k hk => by simpa using h.lt k hk⟩
  cases hwo : wo with
  | none => rw [hwo] at hb; cases hb
  | some p => rw [hwo] at hb; cases hb; exact (h.wAt p hwo).1
/-- W is nil. -/
theorem RefAt.emptied (h : RefAt R l n cs m wr fl fu lf g lc wo wc T w) : RefAt R l n [] 0 wr fl fu lf g lc none 0 T (w.setCell ⟨R, 1, none⟩ (.slice none 0 0)) := by
  have hne : ∀ k, k ≠ R → (w.setCell ⟨R, 1, none⟩ (.slice none 0 0)).heap[k]? = w.heap[k]? := fun k hk => heap_setCell_other w _ k _ hk
  refine ⟨by rw [heap_setCell_same w R 1 _ _ _ h.row]; rfl, h.part.keep (hne g h.gR), World.ownsRow_nil _ _ _ _, h.ln, rfl, h.tR, h.tG, fun p hp => (nomatch hp), fun k hk => by simpa using h.lt k hk⟩
/-- A sector is laid. -/
theorem RefAt.laid (h : RefAt R l n cs m wr fl fu lf g lc wo wc T w) (p : Nat) (s : List UInt8) : RefAt R (l.set p s) n cs m wr fl fu lf g lc wo wc T (w.setCell ⟨g, p, none⟩ (.string (S s))) := by
  have hne : ∀ k, k ≠ g → (w.setCell ⟨g, p, none⟩ (.string (S s))).heap[k]? = w.heap[k]? := fun k hk => heap_setCell_other w _ k _ hk
  obtain ⟨cur, hh, hs, hc⟩ := h.part.row
  refine ⟨(hne R (fun e => h.gR e.symm)).trans h.row, ⟨by rw [List.length_set]; exact h.part.len, h.part.cm, _, heap_setCell_same w g p cur _ _ hh, by simpa using hs, fun j hj => ?_⟩, ownsRow_of h.own (fun b hb => hne b ?_), by rw [List.length_set]; exact h.ln, h.lm, h.tR, h.tG, h.tW, fun k hk => by simpa using h.lt k hk⟩
  · rw [List.length_set] at hj
    have hl := h.part.len
    rw [List.getElem_set, Nat.zero_add]
    by_cases hpj : p = j
    · subst hpj
      rw [if_pos rfl, Array.getElem?_setIfInBounds_self]
      simp; omega
    · rw [if_neg hpj, Array.getElem?_setIfInBounds_ne hpj]
      have := hc j hj
      rwa [Nat.zero_add] at this
  · cases hwo : wo with
    | none => rw [hwo] at hb; cases hb
    | some p => rw [hwo] at hb; cases hb; exact (h.wAt p hwo).2.1
end
/-- Block R is the document's disk that stands as the plain disk d. -/
def RefIs (R : Nat) (d : PD) (T : Nat → Prop) (w : World) : Prop :=
  ∃ lf g lc wo wc, RefAt R (rowL d.n (undoW d.f d.cs)) d.n d.cs d.cs.length d.wr d.fl d.fu lf g lc wo wc T w ∧ (d.fu = true → lf = (d.lf : Int)) ∧ -((d.wr : Int) + d.fl) ≤ lf ∧ lf ≤ 9223372036854775807 ∧ d.ok
section
variable {R : Nat} {d : PD} {T : Nat → Prop} {w w' : World}
theorem RefIs.later (h : RefIs R d T w) (hb : Below w.heap.size w w') : RefIs R d T w' := by
  obtain ⟨lf, g, lc, wo, wc, h, r⟩ := h
  exact ⟨lf, g, lc, wo, wc, h.later hb, r⟩
theorem RefIs.keep (h : RefIs R d T w) (hk : ∀ k, T k → w'.heap[k]? = w.heap[k]?) (hs : w.heap.size ≤ w'.heap.size) : RefIs R d T w' := by
  obtain ⟨lf, g, lc, wo, wc, h, r⟩ := h
  exact ⟨lf, g, lc, wo, wc, h.keep hk hs, r⟩
theorem RefIs.lt (h : RefIs R d T w) : ∀ k, T k → k < w.heap.size := by
  obtain ⟨lf, g, lc, wo, wc, h, r⟩ := h
  exact h.lt
theorem RefIs.tR (h : RefIs R d T w) : T R := by
  obtain ⟨lf, g, lc, wo, wc, h, r⟩ := h
  exact h.tR
theorem RefIs.ok (h : RefIs R d T w) : d.ok := by
  obtain ⟨lf, g, lc, wo, wc, h, r⟩ := h
  exact r.2.2.2
end
set_option maxHeartbeats 1000000 in
theorem rburnt_yes (R : Nat) (w : World) (h4 : w.cell? ⟨R, 4, none⟩ = some (.bool true)) (h5 : w.cell? ⟨R, 5, none⟩ = some (.int .i64 0)) :
    Calls Try.prog 32 #[.pointer (some ⟨R, 0, none⟩)] w fun e w' => e = .returned (.bool true) ∧ w = w' := by
  go_enter Try.func32, Try.ntmps32
  go_wp2_with fail
  go_ret
  exact ⟨rfl, rfl⟩
set_option maxHeartbeats 1000000 in
theorem rburnt_no (R : Nat) (fu : Bool) (lf : Int) (w : World) (h4 : w.cell? ⟨R, 4, none⟩ = some (.bool fu)) (h5 : w.cell? ⟨R, 5, none⟩ = some (.int .i64 lf)) (z5 : w.frozen? ⟨R, 5, none⟩ = false) (hb : fu = true → lf ≠ 0) (h1 : -2000000 ≤ lf) (h2 : lf ≤ 9223372036854775807) :
    Calls Try.prog 32 #[.pointer (some ⟨R, 0, none⟩)] w fun e w' => e = .returned (.bool false) ∧ w' = w.setCell ⟨R, 5, none⟩ (.int .i64 (lf - 1)) := by
  have f1 : wrap64 (lf - 1) = lf - 1 := by unfold wrap64; omega
  cases fu
  · clear hb
    go_enter Try.func32, Try.ntmps32
    go_wp2_with fail
    go_ret
    exact ⟨rfl, rfl⟩
  · have f2 : ¬ lf = 0 := hb rfl
    have f3 : (lf == 0) = false := by simpa using f2
    clear hb
    go_enter Try.func32, Try.ntmps32
    go_wp2_with fail
    go_ret
    exact ⟨rfl, rfl⟩
set_option maxHeartbeats 1000000 in
theorem rfuse_any {R : Nat} {d : PD} {T : Nat → Prop} (k : Int) (hk : k ≤ 9223372036854775807) (w : World) (h : RefIs R d T w) :
    Calls Try.prog 20 #[.pointer (some ⟨R, 0, none⟩), .int .i64 k] w fun e w' => e = .returned (.tuple #[]) ∧ RefIs R { d with fu := true, lf := k.toNat } T w' ∧ Only T w w' := by
  obtain ⟨lf, g, lc, wo, wc, hA, r1, r2, r3, r4⟩ := h
  have HA := hidm hA
  have h4 := hA.c4
  have h5 := hA.c5
  have z4 := hA.z 4
  have z5 := hA.z 5
  obtain ⟨o1, o2, o3, o4, o5, o6⟩ := r4
  obtain ⟨kn, hkn⟩ : ∃ kn, kn = k.toNat := ⟨_, rfl⟩
  have hmax : max 0 k = (kn : Int) := by omega
  have hkm : kn ≤ 9223372036854775807 := by omega
  have hmax2 : max k 0 = (kn : Int) := by omega
  rw [← hkn]
  clear hkn hA r1 r2 r3
  go_enter Try.func20, Try.ntmps20
  go_wp2_with fail
  go_end0
  have hB := (HA.out.put (wr' := d.wr) (fl' := d.fl) (fu' := true) (lf' := lf) 4 (.bool true) rfl).put (wr' := d.wr) (fl' := d.fl) (fu' := true) (lf' := (kn : Int)) 5 (.int .i64 (kn : Int)) rfl
  exact ⟨rfl, ⟨(kn : Int), g, lc, wo, wc, hB, fun _ => rfl, by show -((d.wr : Int) + d.fl) ≤ (kn : Int); omega, by omega, o1, o2, o3, o4, o5, hkm⟩, ((Only.refl _ _).set (.inl HA.out.tR) _).set (.inl HA.out.tR) _⟩
end Dsk
end Go.Proofs.Ytkbadjlehmaneaa
