/- Sectors, a map of sectors in memory, and worlds that are alike but for some blocks. No condition. -/
import Derived.Test.YtpamffheapnoaaaRows
import Derived.WalkKit
import Derived.WalkSpells
import Derived.WalkLawsBesides
import Derived.WalkMore
import Derived.OwnWalk
import Derived.Deep.QuietTactic
import Derived.BigQuiet
import Derived.Deep.RegionHeld3
import Derived.Deep.MidRow
import Derived.Deep.WholeRow
import Derived.Great.Ranges
import Derived.Great.Walk
import Derived.MapKept
import Derived.Maps.Own
import Derived.Carry
import Derived.Stop.BytesEq
import Derived.LaidEql
namespace Go.Proofs.Ytpamffheapnoaaa
open Go.RowKit
namespace Dsk
open Go.MapKept
theorem hidm {p : Prop} (h : p) : Hid p := h
theorem below_keeps {k : Nat} {w w' : World} {o : Obj} (h : Below w.heap.size w w') (hk : w.heap[k]? = some o) : w'.heap[k]? = some o := by
  rw [h.block k (lt_of_block hk), hk]
theorem cell_later {w w' : World} {a : Addr} {v : Value} (h : Below w.heap.size w w') (hc : w.cell? a = some v) : w'.cell? a = some v := by
  rw [h.cell (block_lt_of_cell hc)]; exact hc
/-- A text of these bytes. -/
abbrev S (l : List UInt8) : ByteArray := ⟨l.toArray⟩
theorem S_list (l : List UInt8) : (S l).data.toList = l := rfl
theorem S_of (t : ByteArray) : S t.data.toList = t := by cases t; simp [S]
theorem S_size (l : List UInt8) : (S l).size = l.length := List.size_toArray
theorem len_eq (s : ByteArray) : s.data.toList.length = s.size := Array.length_toList
theorem dN {B : Nat} {a w : World} (h : Below B a w) (n : Nat) : Below B a (w.drewN n) := ⟨h.os, h.tape, h.output, h.size, h.block⟩
/-- w' is as w was but for the blocks of T; blocks may have come. -/
structure Only (T : Nat → Prop) (w w' : World) : Prop where
  os : w'.os = w.os
  tape : w'.tape = w.tape
  output : w'.output = w.output
  size : w.heap.size ≤ w'.heap.size
  block : ∀ k, k < w.heap.size → ¬ T k → w'.heap[k]? = w.heap[k]?
theorem Only.refl (T : Nat → Prop) (w : World) : Only T w w := ⟨rfl, rfl, rfl, Nat.le_refl _, fun _ _ _ => rfl⟩
theorem Only.trans {T T' : Nat → Prop} {a b c : World} (h : Only T a b) (k : Only T' b c) (hT : ∀ i, T' i → T i ∨ a.heap.size ≤ i) : Only T a c :=
  ⟨k.os.trans h.os, k.tape.trans h.tape, k.output.trans h.output, Nat.le_trans h.size k.size, fun i hi hn => (k.block i (Nat.lt_of_lt_of_le hi h.size) (fun e => (hT i e).elim hn (fun h2 => by omega))).trans (h.block i hi hn)⟩
theorem Only.of {T : Nat → Prop} {w w' : World} (h : Below w.heap.size w w') : Only T w w' := ⟨h.os, h.tape, h.output, h.size, fun k hk _ => h.block k hk⟩
theorem Only.mono {T T' : Nat → Prop} {w w' : World} (h : Only T w w') (hT : ∀ k, T k → T' k) : Only T' w w' := ⟨h.os, h.tape, h.output, h.size, fun k hk hn => h.block k hk (fun e => hn (hT k e))⟩
theorem Only.below {T : Nat → Prop} {w w' : World} {B : Nat} (h : Only T w w') (hT : ∀ k, T k → B ≤ k) (hB : B ≤ w.heap.size) : Below B w w' :=
  ⟨h.os, h.tape, h.output, h.size, fun k hk => h.block k (by omega) (fun e => by have := hT k e; omega)⟩
theorem Only.keeps {T : Nat → Prop} {k : Nat} {w w' : World} {o : Obj} (h : Only T w w') (hn : ¬ T k) (hk : w.heap[k]? = some o) : w'.heap[k]? = some o := by
  rw [h.block k (lt_of_block hk) hn, hk]
theorem Only.set {T : Nat → Prop} {a w : World} (h : Only T a w) {p : Addr} (hp : T p.block ∨ a.heap.size ≤ p.block) (u : Value) : Only T a (w.setCell p u) :=
  ⟨h.os, h.tape, h.output, by simpa [World.setCell] using h.size, fun k hk hn => (Below.heap_setCell _ _ _ _ (by intro e; rcases hp with h1 | h1; exact hn (e ▸ h1); omega)).trans (h.block k hk hn)⟩
theorem Only.alloc {T : Nat → Prop} {a w : World} (h : Only T a w) (o : Obj) : Only T a (w.alloc o) :=
  h.trans (T' := fun _ => False) (.of ((Below.refl _ _).alloc (Nat.le_refl _) _)) (fun _ h => h.elim)
theorem Only.drewN {T : Nat → Prop} {a w : World} (h : Only T a w) (n : Nat) : Only T a (w.drewN n) :=
  h.trans (T' := fun _ => False) (.of (dN (Below.refl _ _) n)) (fun _ h => h.elim)
theorem Only.grown {T : Nat → Prop} {a w w' : World} {row : Option Nat} (h : Only T a w) (hg : w.grownBy w' row) (hr : ∀ k, row = some k → T k ∨ a.heap.size ≤ k) : Only T a w' :=
  ⟨hg.os.trans h.os, hg.tape.trans h.tape, hg.output.trans h.output, Nat.le_trans h.size hg.size, fun k hk hn => by
    rw [hg.block k (Nat.lt_of_lt_of_le hk h.size) (fun e => (hr k e.symm).elim hn (fun h2 => by omega)), h.block k hk hn]⟩
/-- A footprint, grown by what has come. -/
def Grow (T : Nat → Prop) (w w' : World) (k : Nat) : Prop := T k ∨ (w.heap.size ≤ k ∧ k < w'.heap.size)
theorem Grow.self {T : Nat → Prop} {w w' : World} {k : Nat} (h : T k) : Grow T w w' k := .inl h
/-! ### Sectors -/
abbrev cell := Extern.Stop.cell
def vals (s : List UInt8) : List Value := s.map cell
def zeros : List UInt8 := List.replicate 128 0
theorem zeros_len : zeros.length = 128 := by simp [zeros]
theorem vals_len (s : List UInt8) : (vals s).length = s.length := by simp [vals]
theorem vals_one (s : List UInt8) : ∀ v ∈ vals s, v.oneCell' = true := by
  intro v hv
  obtain ⟨b, _, rfl⟩ := List.mem_map.1 hv
  rfl
/-- The value of a sector. -/
def sec (s : List UInt8) : Array Value := (vals s).toArray
theorem sec_size (s : List UInt8) : (sec s).size = s.length := by simp [sec, vals]
theorem sec_one (s : List UInt8) : (sec s).all (·.oneCell') = true := all_oneCell_toArray (vals_one s)
theorem cell_inj {a b : UInt8} (h : cell a = cell b) : a = b := by
  simp only [cell, Extern.Stop.cell, Value.int.injEq, true_and] at h
  have : a.toNat = b.toNat := by
    have h2 : (a.toNat : Int) = (b.toNat : Int) := h
    omega
  exact UInt8.toNat_inj.1 this
theorem sec_inj {s t : List UInt8} (h : sec s = sec t) : s = t := by
  have h1 : vals s = vals t := by
    have := congrArg Array.toList h
    simpa [sec] using this
  unfold vals at h1
  exact (List.map_inj_right (fun a b e => cell_inj e)).1 h1
theorem zeroSec (w : World) : (zeroValue 76).run Try.prog w = .ok (.agg (sec zeros)) w := by
  obtain ⟨zv, _⟩ := zero_of_info (P := Try.prog) (t := 76) (v := .agg (sec zeros)) (n := 128) (by kernel_rfl)
  exact zv w
theorem infoSec : (Try.prog.info? 76).map (·.size) = some 128 := by kernel_rfl
theorem eqlSec (w : World) (s t : List UInt8) (hs : s.length = 128) (ht : t.length = 128) :
    (binOp .eql 76 (.agg (sec s)) (.agg (sec t))).run Try.prog w = .ok (.bool (s == t)) w :=
  run_eql_bytes w 76 5 128 Try.underlying76 Try.underlying5 (fun w => by simp [go_sem]) s t hs ht
/-! ### The map -/
structure Ents (l : List MapEntry) (f : Int → List UInt8) : Prop where
  keys : ∀ e ∈ l, ∃ k : Int, e.key = .int .i64 k
  dist : l.Pairwise (fun a b => a.key ≠ b.key)
  val : ∀ e ∈ l, ∀ k : Int, e.key = .int .i64 k → e.val = .agg (sec (f k))
  none : ∀ k : Int, (∀ e ∈ l, e.key ≠ .int .i64 k) → f k = zeros
/-- Block M is a map of sectors: at k it has f k. -/
def MapAt (M : Nat) (f : Int → List UInt8) (w : World) : Prop := (∀ k, (f k).length = 128) ∧ ∃ es clock, w.heap[M]? = some (.map es clock) ∧ Ents es.toList f
def upd (f : Int → List UInt8) (k : Int) (s : List UInt8) : Int → List UInt8 := fun j => if j = k then s else f j
theorem upd_same (f : Int → List UInt8) (k : Int) (s : List UInt8) : upd f k s k = s := by simp [upd]
theorem upd_other (f : Int → List UInt8) (k j : Int) (s : List UInt8) (h : j ≠ k) : upd f k s j = f j := by simp [upd, h]
theorem isKeyI (k : Int) : IsKey (.int .i64) (.int .i64 k) := rfl
theorem Ents.isKey {l : List MapEntry} {f : Int → List UInt8} (h : Ents l f) : ∀ x ∈ l, IsKey (.int .i64) x.key := fun x hx => by
  obtain ⟨k, hk⟩ := h.keys x hx
  rw [hk]; rfl
theorem MapAt.later {M : Nat} {f : Int → List UInt8} {w w' : World} (h : MapAt M f w) (hb : Below w.heap.size w w') : MapAt M f w' := by
  obtain ⟨hl, es, c, hh, he⟩ := h
  exact ⟨hl, es, c, below_keeps hb hh, he⟩
theorem MapAt.keep {M : Nat} {f : Int → List UInt8} {w w' : World} (h : MapAt M f w) (hb : w'.heap[M]? = w.heap[M]?) : MapAt M f w' := by
  obtain ⟨hl, es, c, hh, he⟩ := h
  exact ⟨hl, es, c, hb.trans hh, he⟩
theorem MapAt.lt {M : Nat} {f : Int → List UInt8} {w : World} (h : MapAt M f w) : M < w.heap.size := by
  obtain ⟨_, es, c, hh, _⟩ := h
  exact lt_of_block hh
theorem MapAt.made (w : World) : MapAt w.heap.size (fun _ => zeros) (w.alloc (.map #[] 0)) :=
  ⟨fun _ => zeros_len, #[], 0, (heap_alloc w _).1, ⟨by simp, by simp, by simp, fun _ _ => rfl⟩⟩
theorem MapAt.look {M : Nat} {f : Int → List UInt8} {w : World} (h : MapAt M f w) (k : Int) :
    (Instr.lookup 58 (.map (some M)) (.int .i64 k) false).run Try.prog w = .ok (.agg (sec (f k))) w := by
  obtain ⟨_, es, c, hh, he⟩ := h
  rcases findNow_spec (isKeyI k) es.toList 0 he.isKey with ⟨h1, h2⟩ | ⟨j, e, h1, h2, h3⟩
  · have hz := he.none k h2
    simp [Instr.lookup, run_underlying Try.underlying58, MapKept.run_getObj_map hh, run_checkKey Try.underlying3 (isKeyI k), run_findKey Try.underlying3 h1, Result.andThen, hz]
    first | done | exact zeroCellsSec | rfl
  · have hv := he.val e (List.mem_of_getElem? h2) k h3
    simp [Instr.lookup, run_underlying Try.underlying58, MapKept.run_getObj_map hh, run_checkKey Try.underlying3 (isKeyI k), run_findKey Try.underlying3 h1, Result.andThen, hv]
theorem key_inj {a b : Int} (h : Value.int .i64 a = .int .i64 b) : a = b := by simpa using h
theorem MapAt.put {M : Nat} {f : Int → List UInt8} {w : World} (h : MapAt M f w) (k : Int) (s : List UInt8) (hs : s.length = 128) :
    ∃ o, (Instr.mapUpdate 58 (.map (some M)) (.int .i64 k) (.agg (sec s))).run Try.prog w = .ok () (ChangeMaps.setBlock w M o) ∧ MapAt M (upd f k s) (ChangeMaps.setBlock w M o) := by
  obtain ⟨hl, es, c, hh, he⟩ := h
  have hl' : ∀ j, (upd f k s j).length = 128 := fun j => by
    by_cases hj : j = k
    · rw [hj, upd_same]; exact hs
    · rw [upd_other _ _ _ _ hj]; exact hl j
  rcases findNow_spec (isKeyI k) es.toList 0 he.isKey with ⟨h1, h2⟩ | ⟨j, e, h1, h2, h3⟩
  · refine ⟨.map (es.push ⟨.int .i64 k, .agg (sec s), c⟩) (c + 1), ?_, hl', _, _, ChangeMaps.heap_setBlock_same hh _, ?_⟩
    · simp [Instr.mapUpdate, run_underlying Try.underlying58, MapKept.run_getObj_map hh, run_checkKey Try.underlying3 (isKeyI k), run_findKey Try.underlying3 h1, run_setObj_map _ hh, Result.andThen, ChangeMaps.setBlock]
    · rw [Array.toList_push]
      refine ⟨?_, ?_, ?_, ?_⟩
      · intro x hx
        rcases List.mem_append.1 hx with hx | hx
        · exact he.keys x hx
        · rw [List.mem_singleton.1 hx]; exact ⟨k, rfl⟩
      · rw [List.pairwise_append]
        refine ⟨he.dist, List.pairwise_singleton _ _, fun x hx y hy => ?_⟩
        rw [List.mem_singleton.1 hy]; exact h2 x hx
      · intro x hx q hq
        rcases List.mem_append.1 hx with hx | hx
        · have hne : q ≠ k := fun e => h2 x hx (by rw [hq, e])
          rw [upd_other _ _ _ _ hne]; exact he.val x hx q hq
        · rw [List.mem_singleton.1 hx] at hq ⊢
          rw [← key_inj hq, upd_same]
      · intro q hq
        have hne : q ≠ k := fun e => hq _ (List.mem_append.2 (.inr (List.mem_singleton.2 rfl))) (by rw [e])
        rw [upd_other _ _ _ _ hne]
        exact he.none q (fun x hx => hq x (List.mem_append.2 (.inl hx)))
  · have hj : es[j]? = some e := by simpa using h2
    have hjl : j < es.toList.length := (List.getElem?_eq_some_iff.1 h2).1
    have hlist : (es.modify j (fun e' => { e' with key := .int .i64 k, val := .agg (sec s) })).toList = es.toList.set j { e with key := .int .i64 k, val := .agg (sec s) } := by rw [Array.toList_modify, ChangeMaps.modify_eq_set _ _ _ _ h2]
    have who : ∀ x ∈ es.toList.set j { e with key := .int .i64 k, val := .agg (sec s) }, x = { e with key := .int .i64 k, val := .agg (sec s) } ∨ (x ∈ es.toList ∧ x.key ≠ .int .i64 k) := by
      intro x hx
      obtain ⟨i, hi, ex⟩ := List.getElem_of_mem hx
      rw [List.getElem_set] at ex
      split at ex
      · exact Or.inl ex.symm
      · rename_i hne
        have hi' : i < es.toList.length := by simpa using hi
        refine Or.inr ⟨ex ▸ List.getElem_mem hi', ?_⟩
        have hej : es.toList[j] = e := (List.getElem?_eq_some_iff.1 h2).2
        have hne' : es.toList[i].key ≠ es.toList[j].key := by
          rcases Nat.lt_or_ge i j with hlt | hge
          · exact (List.pairwise_iff_getElem.1 he.dist) i j hi' hjl hlt
          · exact ((List.pairwise_iff_getElem.1 he.dist) j i hjl hi' (by omega)).symm
        rw [hej, h3] at hne'
        rw [← ex]; exact hne'
    refine ⟨.map (es.modify j (fun e' => { e' with key := .int .i64 k, val := .agg (sec s) })) c, ?_, hl', _, _, ChangeMaps.heap_setBlock_same hh _, ?_⟩
    · simp [Instr.mapUpdate, run_underlying Try.underlying58, MapKept.run_getObj_map hh, run_checkKey Try.underlying3 (isKeyI k), run_findKey Try.underlying3 h1, hj, h3, run_keyThatStays (isKeyI k), run_setObj_map _ hh, Result.andThen, ChangeMaps.setBlock]
    · rw [hlist]
      refine ⟨?_, ?_, ?_, ?_⟩
      · intro x hx
        rcases who x hx with rfl | ⟨hx', _⟩
        · exact ⟨k, rfl⟩
        · exact he.keys x hx'
      · rw [List.pairwise_iff_getElem]
        intro a b ha hb hab
        have hk : ∀ i (hi : i < (es.toList.set j { e with key := .int .i64 k, val := .agg (sec s) }).length), ((es.toList.set j { e with key := .int .i64 k, val := .agg (sec s) })[i]).key = (es.toList[i]'(by simpa using hi)).key := by
          intro i hi
          rw [List.getElem_set]
          split
          · rename_i e1
            subst e1
            have e2 := (List.getElem?_eq_some_iff.1 h2).2
            show Value.int .i64 k = (es.toList[j]).key
            rw [e2, h3]
          · rfl
        rw [hk a ha, hk b hb]
        exact (List.pairwise_iff_getElem.1 he.dist) a b (by simpa using ha) (by simpa using hb) hab
      · intro x hx q hq
        rcases who x hx with rfl | ⟨hx', hne⟩
        · rw [← key_inj hq, upd_same]
        · have hqk : q ≠ k := fun e => hne (by rw [hq, e])
          rw [upd_other _ _ _ _ hqk]; exact he.val x hx' q hq
      · intro q hq
        have hne : q ≠ k := fun e1 => hq { e with key := .int .i64 k, val := .agg (sec s) } (List.mem_iff_getElem.2 ⟨j, by simpa using hjl, by simp⟩) (by rw [e1])
        rw [upd_other _ _ _ _ hne]
        refine he.none q (fun x hx hxq => ?_)
        obtain ⟨i, hi, ex⟩ := List.getElem_of_mem hx
        have hij : j ≠ i := fun e1 => by
          subst e1
          have : e = x := by rw [← ex]; exact ((List.getElem?_eq_some_iff.1 h2).2).symm
          rw [← this, h3] at hxq
          exact hne (key_inj hxq).symm
        refine hq x (List.mem_iff_getElem.2 ⟨i, by simpa using hi, ?_⟩) hxq
        rw [List.getElem_set_ne hij]; exact ex
theorem MapAt.del {M : Nat} {f : Int → List UInt8} {w : World} (h : MapAt M f w) (ty : TypeId) (k : Int) :
    ∃ o, (Builtin.delete_ #[58, 3] ty #[.map (some M), .int .i64 k]).run Try.prog w = .ok (.tuple #[]) (ChangeMaps.setBlock w M o) ∧ MapAt M (upd f k zeros) (ChangeMaps.setBlock w M o) := by
  obtain ⟨hl, es, c, hh, he⟩ := h
  have hl' : ∀ j, (upd f k zeros j).length = 128 := fun j => by
    by_cases hj : j = k
    · rw [hj, upd_same]; exact zeros_len
    · rw [upd_other _ _ _ _ hj]; exact hl j
  rcases findNow_spec (isKeyI k) es.toList 0 he.isKey with ⟨h1, h2⟩ | ⟨j, e, h1, h2, h3⟩
  · refine ⟨.map es c, ?_, hl', _, _, ChangeMaps.heap_setBlock_same hh _, he.keys, he.dist, ?_, ?_⟩
    · simp [Builtin.delete_, run_underlying Try.underlying58, MapKept.run_getObj_map hh, run_checkKey Try.underlying3 (isKeyI k), run_findKey Try.underlying3 h1, run_setObj_map _ hh, Result.andThen, ChangeMaps.setBlock]
    · intro x hx q hq
      have hne : q ≠ k := fun e => h2 x hx (by rw [hq, e])
      rw [upd_other _ _ _ _ hne]; exact he.val x hx q hq
    · intro q hq
      by_cases hqk : q = k
      · rw [hqk, upd_same]
      · rw [upd_other _ _ _ _ hqk]; exact he.none q hq
  · have hjl : j < es.toList.length := (List.getElem?_eq_some_iff.1 h2).1
    have hlist : (es.eraseIdxIfInBounds j).toList = es.toList.eraseIdx j := by simp
    have hsub : ∀ x ∈ es.toList.eraseIdx j, x ∈ es.toList ∧ x.key ≠ .int .i64 k := by
      intro x hx
      obtain ⟨i, hne, hi⟩ := List.mem_eraseIdx_iff_getElem?.1 hx
      refine ⟨List.mem_of_getElem? hi, ?_⟩
      obtain ⟨hil, ex⟩ := List.getElem?_eq_some_iff.1 hi
      rw [← h3, ← ex, ← (List.getElem?_eq_some_iff.1 h2).2]
      rcases Nat.lt_or_ge i j with hlt | hge
      · exact (List.pairwise_iff_getElem.1 he.dist) i j hil hjl hlt
      · exact ((List.pairwise_iff_getElem.1 he.dist) j i hjl hil (by omega)).symm
    refine ⟨.map (es.eraseIdxIfInBounds j) c, ?_, hl', _, _, ChangeMaps.heap_setBlock_same hh _, ?_⟩
    · simp [Builtin.delete_, run_underlying Try.underlying58, MapKept.run_getObj_map hh, run_checkKey Try.underlying3 (isKeyI k), run_findKey Try.underlying3 h1, run_setObj_map _ hh, Result.andThen, ChangeMaps.setBlock]
    · rw [hlist]
      refine ⟨fun x hx => he.keys x (hsub x hx).1, he.dist.sublist (List.eraseIdx_sublist _ _), ?_, ?_⟩
      · intro x hx q hq
        have hne : q ≠ k := fun e => (hsub x hx).2 (by rw [hq, e])
        rw [upd_other _ _ _ _ hne]; exact he.val x (hsub x hx).1 q hq
      · intro q hq
        by_cases hqk : q = k
        · rw [hqk, upd_same]
        · rw [upd_other _ _ _ _ hqk]
          refine he.none q (fun x hx hxq => ?_)
          obtain ⟨i, hi⟩ := List.mem_iff_getElem?.1 hx
          by_cases hij : i = j
          · subst hij
            rw [h2] at hi
            cases hi
            rw [h3] at hxq
            exact hqk (key_inj hxq).symm
          · exact hq x (List.mem_eraseIdx_iff_getElem?.2 ⟨i, hij, hi⟩) hxq
theorem Only.setBlock {T : Nat → Prop} {w : World} {M : Nat} (hT : T M) (o : Obj) : Only T w (ChangeMaps.setBlock w M o) :=
  ⟨rfl, rfl, rfl, by simp [ChangeMaps.setBlock], fun k _ hn => by
    have : M ≠ k := fun e => hn (e ▸ hT)
    simp [ChangeMaps.setBlock, this]⟩
end Dsk
end Go.Proofs.Ytpamffheapnoaaa
