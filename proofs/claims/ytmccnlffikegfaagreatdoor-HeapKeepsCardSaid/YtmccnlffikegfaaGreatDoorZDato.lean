/- Sectors, a map of sectors in memory, and worlds that are alike but for some blocks. No condition. -/
import Derived.Test.YtmccnlffikegfaaGreatDoorRows
import Derived.WalkKit
import Derived.WalkSpells
import Derived.WalkLawsBesides
import Derived.WalkMore
import Derived.OwnWalk
import Derived.Deep.QuietTactic
import Derived.BigQuiet
import Derived.Deep.RegionHeld3
import Derived.Deep.MidRow
import Derived.Deep.WholeRow
import Derived.Great.Ranges
import Derived.Great.Walk
import Derived.MapKept
import Derived.Maps.Own
import Derived.Carry
import Derived.Stop.BytesEq
import Derived.LaidEql
import Derived.Test.YtmccnlffikegfaaGreatDoorZMan
import Derived.Laws.IdiomStrings
import Derived.Lib.BufferWrite
import Derived.Deep.AppendLies
namespace Go.Proofs.YtmccnlffikegfaaGreatDoor
open Go.RowKit
namespace Dsk
open Go.MapKept
theorem hidm {p : Prop} (h : p) : Hid p := h
theorem below_keeps {k : Nat} {w w' : World} {o : Obj} (h : Below w.heap.size w w') (hk : w.heap[k]? = some o) : w'.heap[k]? = some o := by
  rw [h.block k (lt_of_block hk), hk]
theorem cell_later {w w' : World} {a : Addr} {v : Value} (h : Below w.heap.size w w') (hc : w.cell? a = some v) : w'.cell? a = some v := by
  rw [h.cell (block_lt_of_cell hc)]; exact hc
/-- A text of these bytes. -/
abbrev S (l : List UInt8) : ByteArray := ⟨l.toArray⟩
theorem S_list (l : List UInt8) : (S l).data.toList = l := rfl
theorem S_of (t : ByteArray) : S t.data.toList = t := by cases t; simp [S]
theorem S_size (l : List UInt8) : (S l).size = l.length := List.size_toArray
theorem len_eq (s : ByteArray) : s.data.toList.length = s.size := Array.length_toList
theorem dN {B : Nat} {a w : World} (h : Below B a w) (n : Nat) : Below B a (w.drewN n) := ⟨h.os, h.tape, h.output, h.size, h.block⟩
/-- w' is as w was but for the blocks of T; blocks may have come. -/
structure Only (T : Nat → Prop) (w w' : World) : Prop where
  os : w'.os = w.os
  tape : w'.tape = w.tape
  output : w'.output = w.output
  size : w.heap.size ≤ w'.heap.size
  block : ∀ k, k < w.heap.size → ¬ T k → w'.heap[k]? = w.heap[k]?
theorem Only.refl (T : Nat → Prop) (w : World) : Only T w w := ⟨rfl, rfl, rfl, Nat.le_refl _, fun _ _ _ => rfl⟩
theorem Only.trans {T T' : Nat → Prop} {a b c : World} (h : Only T a b) (k : Only T' b c) (hT : ∀ i, T' i → T i ∨ a.heap.size ≤ i) : Only T a c :=
  ⟨k.os.trans h.os, k.tape.trans h.tape, k.output.trans h.output, Nat.le_trans h.size k.size, fun i hi hn => (k.block i (Nat.lt_of_lt_of_le hi h.size) (fun e => (hT i e).elim hn (fun h2 => by omega))).trans (h.block i hi hn)⟩
theorem Only.of {T : Nat → Prop} {w w' : World} (h : Below w.heap.size w w') : Only T w w' := ⟨h.os, h.tape, h.output, h.size, fun k hk _ => h.block k hk⟩
theorem Only.mono {T T' : Nat → Prop} {w w' : World} (h : Only T w w') (hT : ∀ k, T k → T' k) : Only T' w w' := ⟨h.os, h.tape, h.output, h.size, fun k hk hn => h.block k hk (fun e => hn (hT k e))⟩
theorem Only.below {T : Nat → Prop} {w w' : World} {B : Nat} (h : Only T w w') (hT : ∀ k, T k → B ≤ k) (hB : B ≤ w.heap.size) : Below B w w' :=
  ⟨h.os, h.tape, h.output, h.size, fun k hk => h.block k (by omega) (fun e => by have := hT k e; omega)⟩
theorem Only.keeps {T : Nat → Prop} {k : Nat} {w w' : World} {o : Obj} (h : Only T w w') (hn : ¬ T k) (hk : w.heap[k]? = some o) : w'.heap[k]? = some o := by
  rw [h.block k (lt_of_block hk) hn, hk]
theorem Only.set {T : Nat → Prop} {a w : World} (h : Only T a w) {p : Addr} (hp : T p.block ∨ a.heap.size ≤ p.block) (u : Value) : Only T a (w.setCell p u) :=
  ⟨h.os, h.tape, h.output, by simpa [World.setCell] using h.size, fun k hk hn => (Below.heap_setCell _ _ _ _ (by intro e; rcases hp with h1 | h1; exact hn (e ▸ h1); omega)).trans (h.block k hk hn)⟩
theorem Only.alloc {T : Nat → Prop} {a w : World} (h : Only T a w) (o : Obj) : Only T a (w.alloc o) :=
  h.trans (T' := fun _ => False) (.of ((Below.refl _ _).alloc (Nat.le_refl _) _)) (fun _ h => h.elim)
theorem Only.drewN {T : Nat → Prop} {a w : World} (h : Only T a w) (n : Nat) : Only T a (w.drewN n) :=
  h.trans (T' := fun _ => False) (.of (dN (Below.refl _ _) n)) (fun _ h => h.elim)
theorem Only.grown {T : Nat → Prop} {a w w' : World} {row : Option Nat} (h : Only T a w) (hg : w.grownBy w' row) (hr : ∀ k, row = some k → T k ∨ a.heap.size ≤ k) : Only T a w' :=
  ⟨hg.os.trans h.os, hg.tape.trans h.tape, hg.output.trans h.output, Nat.le_trans h.size hg.size, fun k hk hn => by
    rw [hg.block k (Nat.lt_of_lt_of_le hk h.size) (fun e => (hr k e.symm).elim hn (fun h2 => by omega)), h.block k hk hn]⟩
/-- A footprint, grown by what has come. -/
def Grow (T : Nat → Prop) (w w' : World) (k : Nat) : Prop := T k ∨ (w.heap.size ≤ k ∧ k < w'.heap.size)
theorem Grow.self {T : Nat → Prop} {w w' : World} {k : Nat} (h : T k) : Grow T w w' k := .inl h
/-! ### Sectors -/
abbrev cell := Extern.Stop.cell
def vals (s : List UInt8) : List Value := s.map cell
def zeros : List UInt8 := List.replicate 128 0
theorem zeros_len : zeros.length = 128 := by simp [zeros]
theorem vals_len (s : List UInt8) : (vals s).length = s.length := by simp [vals]
theorem vals_one (s : List UInt8) : ∀ v ∈ vals s, v.oneCell' = true := by
  intro v hv
  obtain ⟨b, _, rfl⟩ := List.mem_map.1 hv
  rfl
/-- The value of a sector. -/
def sec (s : List UInt8) : Array Value := (vals s).toArray
theorem sec_size (s : List UInt8) : (sec s).size = s.length := by simp [sec, vals]
theorem sec_one (s : List UInt8) : (sec s).all (·.oneCell') = true := all_oneCell_toArray (vals_one s)
theorem cell_inj {a b : UInt8} (h : cell a = cell b) : a = b := by
  simp only [cell, Extern.Stop.cell, Value.int.injEq, true_and] at h
  have : a.toNat = b.toNat := by
    have h2 : (a.toNat : Int) = (b.toNat : Int) := h
    omega
  exact UInt8.toNat_inj.1 this
theorem sec_inj {s t : List UInt8} (h : sec s = sec t) : s = t := by
  have h1 : vals s = vals t := by
    have := congrArg Array.toList h
    simpa [sec] using this
  unfold vals at h1
  exact (List.map_inj_right (fun a b e => cell_inj e)).1 h1
theorem zeroSec (w : World) : (zeroValue 100).run Tryz.prog w = .ok (.agg (sec zeros)) w := by
  obtain ⟨zv, _⟩ := zero_of_info (P := Tryz.prog) (t := 100) (v := .agg (sec zeros)) (n := 128) (by kernel_rfl)
  exact zv w
theorem infoSec : (Tryz.prog.info? 100).map (·.size) = some 128 := by kernel_rfl
theorem eqlSec (w : World) (s t : List UInt8) (hs : s.length = 128) (ht : t.length = 128) :
    (binOp .eql 100 (.agg (sec s)) (.agg (sec t))).run Tryz.prog w = .ok (.bool (s == t)) w :=
  run_eql_bytes w 100 5 128 Tryz.underlying100 Tryz.underlying5 (fun w => by simp [go_sem]) s t hs ht
/-! ### The map -/
structure Ents (l : List MapEntry) (f : Int → List UInt8) : Prop where
  keys : ∀ e ∈ l, ∃ k : Int, e.key = .int .i64 k
  dist : l.Pairwise (fun a b => a.key ≠ b.key)
  val : ∀ e ∈ l, ∀ k : Int, e.key = .int .i64 k → e.val = .agg (sec (f k))
  none : ∀ k : Int, (∀ e ∈ l, e.key ≠ .int .i64 k) → f k = zeros
/-- Block M is a map of sectors: at k it has f k. -/
def MapAt (M : Nat) (f : Int → List UInt8) (w : World) : Prop := (∀ k, (f k).length = 128) ∧ ∃ es clock, w.heap[M]? = some (.map es clock) ∧ Ents es.toList f
def upd (f : Int → List UInt8) (k : Int) (s : List UInt8) : Int → List UInt8 := fun j => if j = k then s else f j
theorem upd_same (f : Int → List UInt8) (k : Int) (s : List UInt8) : upd f k s k = s := by simp [upd]
theorem upd_other (f : Int → List UInt8) (k j : Int) (s : List UInt8) (h : j ≠ k) : upd f k s j = f j := by simp [upd, h]
theorem isKeyI (k : Int) : IsKey (.int .i64) (.int .i64 k) := rfl
theorem Ents.isKey {l : List MapEntry} {f : Int → List UInt8} (h : Ents l f) : ∀ x ∈ l, IsKey (.int .i64) x.key := fun x hx => by
  obtain ⟨k, hk⟩ := h.keys x hx
  rw [hk]; rfl
theorem MapAt.later {M : Nat} {f : Int → List UInt8} {w w' : World} (h : MapAt M f w) (hb : Below w.heap.size w w') : MapAt M f w' := by
  obtain ⟨hl, es, c, hh, he⟩ := h
  exact ⟨hl, es, c, below_keeps hb hh, he⟩
theorem MapAt.keep {M : Nat} {f : Int → List UInt8} {w w' : World} (h : MapAt M f w) (hb : w'.heap[M]? = w.heap[M]?) : MapAt M f w' := by
  obtain ⟨hl, es, c, hh, he⟩ := h
  exact ⟨hl, es, c, hb.trans hh, he⟩
theorem MapAt.lt {M : Nat} {f : Int → List UInt8} {w : World} (h : MapAt M f w) : M < w.heap.size := by
  obtain ⟨_, es, c, hh, _⟩ := h
  exact lt_of_block hh
theorem MapAt.made (w : World) : MapAt w.heap.size (fun _ => zeros) (w.alloc (.map #[] 0)) :=
  ⟨fun _ => zeros_len, #[], 0, (heap_alloc w _).1, ⟨by simp, by simp, by simp, fun _ _ => rfl⟩⟩
theorem MapAt.look {M : Nat} {f : Int → List UInt8} {w : World} (h : MapAt M f w) (k : Int) :
    (Instr.lookup 87 (.map (some M)) (.int .i64 k) false).run Tryz.prog w = .ok (.agg (sec (f k))) w := by
  obtain ⟨_, es, c, hh, he⟩ := h
  rcases findNow_spec (isKeyI k) es.toList 0 he.isKey with ⟨h1, h2⟩ | ⟨j, e, h1, h2, h3⟩
  · have hz := he.none k h2
    simp [Instr.lookup, run_underlying Tryz.underlying87, MapKept.run_getObj_map hh, run_checkKey Tryz.underlying3 (isKeyI k), run_findKey Tryz.underlying3 h1, Result.andThen, hz]
    first | done | exact zeroCellsSec | rfl
  · have hv := he.val e (List.mem_of_getElem? h2) k h3
    simp [Instr.lookup, run_underlying Tryz.underlying87, MapKept.run_getObj_map hh, run_checkKey Tryz.underlying3 (isKeyI k), run_findKey Tryz.underlying3 h1, Result.andThen, hv]
theorem key_inj {a b : Int} (h : Value.int .i64 a = .int .i64 b) : a = b := by simpa using h
theorem MapAt.put {M : Nat} {f : Int → List UInt8} {w : World} (h : MapAt M f w) (k : Int) (s : List UInt8) (hs : s.length = 128) :
    ∃ o, (Instr.mapUpdate 87 (.map (some M)) (.int .i64 k) (.agg (sec s))).run Tryz.prog w = .ok () (ChangeMaps.setBlock w M o) ∧ MapAt M (upd f k s) (ChangeMaps.setBlock w M o) := by
  obtain ⟨hl, es, c, hh, he⟩ := h
  have hl' : ∀ j, (upd f k s j).length = 128 := fun j => by
    by_cases hj : j = k
    · rw [hj, upd_same]; exact hs
    · rw [upd_other _ _ _ _ hj]; exact hl j
  rcases findNow_spec (isKeyI k) es.toList 0 he.isKey with ⟨h1, h2⟩ | ⟨j, e, h1, h2, h3⟩
  · refine ⟨.map (es.push ⟨.int .i64 k, .agg (sec s), c⟩) (c + 1), ?_, hl', _, _, ChangeMaps.heap_setBlock_same hh _, ?_⟩
    · simp [Instr.mapUpdate, run_underlying Tryz.underlying87, MapKept.run_getObj_map hh, run_checkKey Tryz.underlying3 (isKeyI k), run_findKey Tryz.underlying3 h1, run_setObj_map _ hh, Result.andThen, ChangeMaps.setBlock]
    · rw [Array.toList_push]
      refine ⟨?_, ?_, ?_, ?_⟩
      · intro x hx
        rcases List.mem_append.1 hx with hx | hx
        · exact he.keys x hx
        · rw [List.mem_singleton.1 hx]; exact ⟨k, rfl⟩
      · rw [List.pairwise_append]
        refine ⟨he.dist, List.pairwise_singleton _ _, fun x hx y hy => ?_⟩
        rw [List.mem_singleton.1 hy]; exact h2 x hx
      · intro x hx q hq
        rcases List.mem_append.1 hx with hx | hx
        · have hne : q ≠ k := fun e => h2 x hx (by rw [hq, e])
          rw [upd_other _ _ _ _ hne]; exact he.val x hx q hq
        · rw [List.mem_singleton.1 hx] at hq ⊢
          rw [← key_inj hq, upd_same]
      · intro q hq
        have hne : q ≠ k := fun e => hq _ (List.mem_append.2 (.inr (List.mem_singleton.2 rfl))) (by rw [e])
        rw [upd_other _ _ _ _ hne]
        exact he.none q (fun x hx => hq x (List.mem_append.2 (.inl hx)))
  · have hj : es[j]? = some e := by simpa using h2
    have hjl : j < es.toList.length := (List.getElem?_eq_some_iff.1 h2).1
    have hlist : (es.modify j (fun e' => { e' with key := .int .i64 k, val := .agg (sec s) })).toList = es.toList.set j { e with key := .int .i64 k, val := .agg (sec s) } := by rw [Array.toList_modify, ChangeMaps.modify_eq_set _ _ _ _ h2]
    have who : ∀ x ∈ es.toList.set j { e with key := .int .i64 k, val := .agg (sec s) }, x = { e with key := .int .i64 k, val := .agg (sec s) } ∨ (x ∈ es.toList ∧ x.key ≠ .int .i64 k) := by
      intro x hx
      obtain ⟨i, hi, ex⟩ := List.getElem_of_mem hx
      rw [List.getElem_set] at ex
      split at ex
      · exact Or.inl ex.symm
      · rename_i hne
        have hi' : i < es.toList.length := by simpa using hi
        refine Or.inr ⟨ex ▸ List.getElem_mem hi', ?_⟩
        have hej : es.toList[j] = e := (List.getElem?_eq_some_iff.1 h2).2
        have hne' : es.toList[i].key ≠ es.toList[j].key := by
          rcases Nat.lt_or_ge i j with hlt | hge
          · exact (List.pairwise_iff_getElem.1 he.dist) i j hi' hjl hlt
          · exact ((List.pairwise_iff_getElem.1 he.dist) j i hjl hi' (by omega)).symm
        rw [hej, h3] at hne'
        rw [← ex]; exact hne'
    refine ⟨.map (es.modify j (fun e' => { e' with key := .int .i64 k, val := .agg (sec s) })) c, ?_, hl', _, _, ChangeMaps.heap_setBlock_same hh _, ?_⟩
    · simp [Instr.mapUpdate, run_underlying Tryz.underlying87, MapKept.run_getObj_map hh, run_checkKey Tryz.underlying3 (isKeyI k), run_findKey Tryz.underlying3 h1, hj, h3, run_keyThatStays (isKeyI k), run_setObj_map _ hh, Result.andThen, ChangeMaps.setBlock]
    · rw [hlist]
      refine ⟨?_, ?_, ?_, ?_⟩
      · intro x hx
        rcases who x hx with rfl | ⟨hx', _⟩
        · exact ⟨k, rfl⟩
        · exact he.keys x hx'
      · rw [List.pairwise_iff_getElem]
        intro a b ha hb hab
        have hk : ∀ i (hi : i < (es.toList.set j { e with key := .int .i64 k, val := .agg (sec s) }).length), ((es.toList.set j { e with key := .int .i64 k, val := .agg (sec s) })[i]).key = (es.toList[i]'(by simpa using hi)).key := by
          intro i hi
          rw [List.getElem_set]
          split
          · rename_i e1
            subst e1
            have e2 := (List.getElem?_eq_some_iff.1 h2).2
            show Value.int .i64 k = (es.toList[j]).key
            rw [e2, h3]
          · rfl
        rw [hk a ha, hk b hb]
        exact (List.pairwise_iff_getElem.1 he.dist) a b (by simpa using ha) (by simpa using hb) hab
      · intro x hx q hq
        rcases who x hx with rfl | ⟨hx', hne⟩
        · rw [← key_inj hq, upd_same]
        · have hqk : q ≠ k := fun e => hne (by rw [hq, e])
          rw [upd_other _ _ _ _ hqk]; exact he.val x hx' q hq
      · intro q hq
        have hne : q ≠ k := fun e1 => hq { e with key := .int .i64 k, val := .agg (sec s) } (List.mem_iff_getElem.2 ⟨j, by simpa using hjl, by simp⟩) (by rw [e1])
        rw [upd_other _ _ _ _ hne]
        refine he.none q (fun x hx hxq => ?_)
        obtain ⟨i, hi, ex⟩ := List.getElem_of_mem hx
        have hij : j ≠ i := fun e1 => by
          subst e1
          have : e = x := by rw [← ex]; exact ((List.getElem?_eq_some_iff.1 h2).2).symm
          rw [← this, h3] at hxq
          exact hne (key_inj hxq).symm
        refine hq x (List.mem_iff_getElem.2 ⟨i, by simpa using hi, ?_⟩) hxq
        rw [List.getElem_set_ne hij]; exact ex
theorem MapAt.del {M : Nat} {f : Int → List UInt8} {w : World} (h : MapAt M f w) (ty : TypeId) (k : Int) :
    ∃ o, (Builtin.delete_ #[87, 3] ty #[.map (some M), .int .i64 k]).run Tryz.prog w = .ok (.tuple #[]) (ChangeMaps.setBlock w M o) ∧ MapAt M (upd f k zeros) (ChangeMaps.setBlock w M o) := by
  obtain ⟨hl, es, c, hh, he⟩ := h
  have hl' : ∀ j, (upd f k zeros j).length = 128 := fun j => by
    by_cases hj : j = k
    · rw [hj, upd_same]; exact zeros_len
    · rw [upd_other _ _ _ _ hj]; exact hl j
  rcases findNow_spec (isKeyI k) es.toList 0 he.isKey with ⟨h1, h2⟩ | ⟨j, e, h1, h2, h3⟩
  · refine ⟨.map es c, ?_, hl', _, _, ChangeMaps.heap_setBlock_same hh _, he.keys, he.dist, ?_, ?_⟩
    · simp [Builtin.delete_, run_underlying Tryz.underlying87, MapKept.run_getObj_map hh, run_checkKey Tryz.underlying3 (isKeyI k), run_findKey Tryz.underlying3 h1, run_setObj_map _ hh, Result.andThen, ChangeMaps.setBlock]
    · intro x hx q hq
      have hne : q ≠ k := fun e => h2 x hx (by rw [hq, e])
      rw [upd_other _ _ _ _ hne]; exact he.val x hx q hq
    · intro q hq
      by_cases hqk : q = k
      · rw [hqk, upd_same]
      · rw [upd_other _ _ _ _ hqk]; exact he.none q hq
  · have hjl : j < es.toList.length := (List.getElem?_eq_some_iff.1 h2).1
    have hlist : (es.eraseIdxIfInBounds j).toList = es.toList.eraseIdx j := by simp
    have hsub : ∀ x ∈ es.toList.eraseIdx j, x ∈ es.toList ∧ x.key ≠ .int .i64 k := by
      intro x hx
      obtain ⟨i, hne, hi⟩ := List.mem_eraseIdx_iff_getElem?.1 hx
      refine ⟨List.mem_of_getElem? hi, ?_⟩
      obtain ⟨hil, ex⟩ := List.getElem?_eq_some_iff.1 hi
      rw [← h3, ← ex, ← (List.getElem?_eq_some_iff.1 h2).2]
      rcases Nat.lt_or_ge i j with hlt | hge
      · exact (List.pairwise_iff_getElem.1 he.dist) i j hil hjl hlt
      · exact ((List.pairwise_iff_getElem.1 he.dist) j i hjl hil (by omega)).symm
    refine ⟨.map (es.eraseIdxIfInBounds j) c, ?_, hl', _, _, ChangeMaps.heap_setBlock_same hh _, ?_⟩
    · simp [Builtin.delete_, run_underlying Tryz.underlying87, MapKept.run_getObj_map hh, run_checkKey Tryz.underlying3 (isKeyI k), run_findKey Tryz.underlying3 h1, run_setObj_map _ hh, Result.andThen, ChangeMaps.setBlock]
    · rw [hlist]
      refine ⟨fun x hx => he.keys x (hsub x hx).1, he.dist.sublist (List.eraseIdx_sublist _ _), ?_, ?_⟩
      · intro x hx q hq
        have hne : q ≠ k := fun e => (hsub x hx).2 (by rw [hq, e])
        rw [upd_other _ _ _ _ hne]; exact he.val x (hsub x hx).1 q hq
      · intro q hq
        by_cases hqk : q = k
        · rw [hqk, upd_same]
        · rw [upd_other _ _ _ _ hqk]
          refine he.none q (fun x hx hxq => ?_)
          obtain ⟨i, hi⟩ := List.mem_iff_getElem?.1 hx
          by_cases hij : i = j
          · subst hij
            rw [h2] at hi
            cases hi
            rw [h3] at hxq
            exact hqk (key_inj hxq).symm
          · exact hq x (List.mem_eraseIdx_iff_getElem?.2 ⟨i, hij, hi⟩) hxq
theorem Only.setBlock {T : Nat → Prop} {w : World} {M : Nat} (hT : T M) (o : Obj) : Only T w (ChangeMaps.setBlock w M o) :=
  ⟨rfl, rfl, rfl, by simp [ChangeMaps.setBlock], fun k _ hn => by
    have : M ≠ k := fun e => hn (e ▸ hT)
    simp [ChangeMaps.setBlock, this]⟩
end Dsk
end Go.Proofs.YtmccnlffikegfaaGreatDoor
/- A disk in memory; given, burnt, burn, place, New, Len, Count, Fuse. Conditions: as each says. -/
namespace Go.Proofs.YtmccnlffikegfaaGreatDoor
open Go.RowKit
namespace Dsk
/-- A write that is in the cache. -/
structure Wt where
  pos : Nat
  laid : List UInt8
  had : List UInt8
def Wt.ok (x : Wt) : Prop := x.laid.length = 128 ∧ x.had.length = 128
def Wt.cells (x : Wt) : List Value := .int .i64 (x.pos : Int) :: (vals x.laid ++ vals x.had)
def flatW (l : List Wt) : List Value := l.flatMap Wt.cells
theorem Wt.cells_len {x : Wt} (h : x.ok) : x.cells.length = 257 := by
  simp only [Wt.cells, List.length_cons, List.length_append, vals_len, h.1, h.2]
theorem Wt.cells_one (x : Wt) : ∀ v ∈ x.cells, v.oneCell' = true := by
  intro v hv
  rcases List.mem_cons.1 hv with rfl | hv
  · rfl
  · rcases List.mem_append.1 hv with hv | hv
    · exact vals_one _ v hv
    · exact vals_one _ v hv
theorem flatW_snoc (l : List Wt) (x : Wt) : flatW (l ++ [x]) = flatW l ++ x.cells := by simp [flatW]
theorem flatW_one (l : List Wt) : ∀ v ∈ flatW l, v.oneCell' = true := by
  intro v hv
  obtain ⟨x, _, hx⟩ := List.mem_flatMap.1 hv
  exact x.cells_one v hx
/-- A plain disk. -/
structure PD where
  n : Nat
  f : Int → List UInt8
  cs : List Wt
  wr : Nat
  fl : Nat
  fu : Bool
  lf : Nat
def PD.ok (d : PD) : Prop := d.n ≤ 4096 ∧ (∀ x ∈ d.cs, x.ok) ∧ d.cs.length ≤ 1000000 ∧ d.wr ≤ 1000000 ∧ d.fl ≤ 1000000 ∧ d.lf ≤ 9223372036854775807
def dcells (D : Nat) (d : PD) (M : Nat) (sl : Value) : Array Value :=
  #[.pointer (some ⟨D, 0, none⟩), .int .i64 (d.n : Int), .map (some M), sl, .int .i64 (d.wr : Int), .int .i64 (d.fl : Int), .bool d.fu, .int .i64 (d.lf : Int)]
/-- Block D is the disk d, in the blocks of T. -/
structure DiskAt (D : Nat) (d : PD) (M : Nat) (ao : Option Addr) (cap : Nat) (T : Nat → Prop) (w : World) : Prop where
  row : w.heap[D]? = some (.cells (dcells D d M (.slice ao d.cs.length cap)) 90 (0, 0))
  map : MapAt M d.f w
  own : w.ownsRow 0 102 257 (.slice ao d.cs.length cap) d.cs.length (flatW d.cs)
  tD : T D
  tM : T M
  tC : ∀ p, ao = some p → T p.block
  lt : ∀ k, T k → k < w.heap.size
  ok : d.ok
def DiskIs (D : Nat) (d : PD) (T : Nat → Prop) (w : World) : Prop := ∃ M ao cap, DiskAt D d M ao cap T w
section
variable {D : Nat} {d : PD} {M : Nat} {ao : Option Addr} {cap : Nat} {T : Nat → Prop} {w w' : World}
theorem DiskAt.cellAt (h : DiskAt D d M ao cap T w) (j : Nat) : w.cell? ⟨D, j, none⟩ = (dcells D d M (.slice ao d.cs.length cap))[j]? := cell_of_row w D j _ _ _ h.row
theorem DiskAt.c0 (h : DiskAt D d M ao cap T w) : w.cell? ⟨D, 0, none⟩ = some (.pointer (some ⟨D, 0, none⟩)) := h.cellAt 0
theorem DiskAt.c1 (h : DiskAt D d M ao cap T w) : w.cell? ⟨D, 1, none⟩ = some (.int .i64 (d.n : Int)) := h.cellAt 1
theorem DiskAt.c2 (h : DiskAt D d M ao cap T w) : w.cell? ⟨D, 2, none⟩ = some (.map (some M)) := h.cellAt 2
theorem DiskAt.c3 (h : DiskAt D d M ao cap T w) : w.cell? ⟨D, 3, none⟩ = some (.slice ao d.cs.length cap) := h.cellAt 3
theorem DiskAt.c4 (h : DiskAt D d M ao cap T w) : w.cell? ⟨D, 4, none⟩ = some (.int .i64 (d.wr : Int)) := h.cellAt 4
theorem DiskAt.c5 (h : DiskAt D d M ao cap T w) : w.cell? ⟨D, 5, none⟩ = some (.int .i64 (d.fl : Int)) := h.cellAt 5
theorem DiskAt.c6 (h : DiskAt D d M ao cap T w) : w.cell? ⟨D, 6, none⟩ = some (.bool d.fu) := h.cellAt 6
theorem DiskAt.c7 (h : DiskAt D d M ao cap T w) : w.cell? ⟨D, 7, none⟩ = some (.int .i64 (d.lf : Int)) := h.cellAt 7
theorem DiskAt.z (h : DiskAt D d M ao cap T w) (j : Nat) : w.frozen? ⟨D, j, none⟩ = false := frozen_of_row w D j _ _ h.row
theorem ownsRow_of {B : Nat} {e : TypeId} {sz : Nat} {v : Value} {n : Nat} {xs : List Value} (h : w.ownsRow B e sz v n xs) (hk : ∀ g, v.ownBlock = some g → w'.heap[g]? = w.heap[g]?) : w'.ownsRow B e sz v n xs := by
  refine ⟨h.1, ?_⟩
  rcases h.2 with h2 | ⟨g, c, cur, hv, hg, hh, rest⟩
  · exact .inl h2
  · exact .inr ⟨g, c, cur, hv, hg, (hk g (by rw [hv]; rfl)).trans hh, rest⟩
theorem owns_later {B : Nat} {e : TypeId} {sz : Nat} {v : Value} {n : Nat} {xs : List Value} (h : w.ownsRow B e sz v n xs) (hb : Below w.heap.size w w') : w'.ownsRow B e sz v n xs :=
  ownsRow_of h (fun g hg => hb.block g (h.lt g hg).2)
theorem DiskAt.later (h : DiskAt D d M ao cap T w) (hb : Below w.heap.size w w') : DiskAt D d M ao cap T w' :=
  ⟨below_keeps hb h.row, h.map.later hb, owns_later h.own hb, h.tD, h.tM, h.tC, fun k hk => Nat.lt_of_lt_of_le (h.lt k hk) hb.size, h.ok⟩
theorem DiskAt.keep {T' : Nat → Prop} (h : DiskAt D d M ao cap T w) (hb : Only T' w w') (hd : ∀ k, T k → ¬ T' k) : DiskAt D d M ao cap T w' :=
  ⟨hb.keeps (hd _ h.tD) h.row, h.map.keep (hb.block M h.map.lt (hd _ h.tM)), ownsRow_of h.own (fun g hg => hb.block g (h.own.lt g hg).2 (hd _ (by
    cases ao with
    | none => cases hg
    | some p => have := h.tC p rfl; cases hg; exact this))), h.tD, h.tM, h.tC, fun k hk => Nat.lt_of_lt_of_le (h.lt k hk) hb.size, h.ok⟩
theorem DiskIs.later (h : DiskIs D d T w) (hb : Below w.heap.size w w') : DiskIs D d T w' := by
  obtain ⟨M, ao, cap, h⟩ := h
  exact ⟨M, ao, cap, h.later hb⟩
theorem DiskIs.keep {T' : Nat → Prop} (h : DiskIs D d T w) (hb : Only T' w w') (hd : ∀ k, T k → ¬ T' k) : DiskIs D d T w' := by
  obtain ⟨M, ao, cap, h⟩ := h
  exact ⟨M, ao, cap, h.keep hb hd⟩
theorem DiskIs.wider {T' : Nat → Prop} (h : DiskIs D d T w) (hT : ∀ k, T k → T' k) (hl : ∀ k, T' k → k < w.heap.size) : DiskIs D d T' w := by
  obtain ⟨M, ao, cap, h⟩ := h
  exact ⟨M, ao, cap, h.row, h.map, h.own, hT _ h.tD, hT _ h.tM, fun p hp => hT _ (h.tC p hp), hl, h.ok⟩
theorem DiskIs.ok (h : DiskIs D d T w) : d.ok := by
  obtain ⟨M, ao, cap, h⟩ := h
  exact h.ok
theorem DiskIs.lt (h : DiskIs D d T w) : ∀ k, T k → k < w.heap.size := by
  obtain ⟨M, ao, cap, h⟩ := h
  exact h.lt
theorem DiskIs.tD (h : DiskIs D d T w) : T D := by
  obtain ⟨M, ao, cap, h⟩ := h
  exact h.tD
/-- A store into the disk's own block: the new row. -/
theorem row_set {cs : Array Value} {t : TypeId} (hg : w.heap[D]? = some (.cells cs t (0, 0))) (i : Nat) (v : Value) : (w.setCell ⟨D, i, none⟩ v).heap[D]? = some (.cells (cs.setIfInBounds i v) t (0, 0)) := heap_setCell_same w D i cs t v hg
theorem own_set {B : Nat} {v : Value} {n : Nat} {xs : List Value} {cs : Array Value} (hD : w.heap[D]? = some (.cells cs 90 (0, 0))) (h : w.ownsRow B 102 257 v n xs) (i : Nat) (u : Value) : (w.setCell ⟨D, i, none⟩ u).ownsRow B 102 257 v n xs := by
  refine ⟨h.1, ?_⟩
  rcases h.2 with h2 | ⟨g, c, cur, hv, hg, hh, rest⟩
  · exact .inl h2
  · have hne : g ≠ D := fun e => by rw [e, hD] at hh; simp at hh
    exact .inr ⟨g, c, cur, hv, hg, (heap_setCell_other w _ g u hne).trans hh, rest⟩
theorem map_set {f : Int → List UInt8} {cs : Array Value} (hD : w.heap[D]? = some (.cells cs 90 (0, 0))) (h : MapAt M f w) (i : Nat) (u : Value) : MapAt M f (w.setCell ⟨D, i, none⟩ u) := by
  refine h.keep (heap_setCell_other w _ M u ?_)
  obtain ⟨_, es, c, hh, _⟩ := h
  intro e
  rw [e, hD] at hh
  simp at hh
/-- One field of the disk's block is written. -/
theorem DiskAt.put (h : DiskAt D d M ao cap T w) (i : Nat) (v : Value) (d' : PD) (hd : (dcells D d M (.slice ao d.cs.length cap)).setIfInBounds i v = dcells D d' M (.slice ao d'.cs.length cap)) (hf : d'.f = d.f) (hc : d'.cs = d.cs) (hok : d'.ok) :
    DiskAt D d' M ao cap T (w.setCell ⟨D, i, none⟩ v) := by
  refine ⟨by rw [row_set h.row, hd], hf ▸ map_set h.row h.map i v, ?_, h.tD, h.tM, h.tC, fun k hk => by simpa using h.lt k hk, hok⟩
  rw [hc]
  exact own_set h.row h.own i v
end
/-- What is no disk that was given. -/
def NotGiven (p : Option Addr) (w : World) : Prop := p = none ∨ ∃ Z, p = some ⟨Z, 0, none⟩ ∧ w.cell? ⟨Z, 0, none⟩ = some (.pointer none)
theorem NotGiven.later {p : Option Addr} {w w' : World} (h : NotGiven p w) (hb : Below w.heap.size w w') : NotGiven p w' := by
  rcases h with h | ⟨Z, h1, h2⟩
  · exact .inl h
  · exact .inr ⟨Z, h1, cell_later hb h2⟩
theorem eqpIn_nil (w : World) (d : Nat) (a : Addr) : (Op.equalIn (d + 1) 44 (.pointer none) (.pointer (some a))).run Tryz.prog w = .ok false w := by
  simp [Op.equalIn, run_underlying Tryz.underlying44]
theorem eqp_nil (w : World) (a : Addr) : (binOp .eql 44 (.pointer none) (.pointer (some a))).run Tryz.prog w = .ok (.bool false) w := by
  simp only [binOp, Sem.run_bind]
  rw [show Op.equal 44 (.pointer none) (.pointer (some a)) = Op.equalIn (9999 + 1) 44 (.pointer none) (.pointer (some a)) from rfl, eqpIn_nil]
  rfl
theorem eqpIn_same (w : World) (d : Nat) (a : Addr) : (Op.equalIn (d + 1) 44 (.pointer (some a)) (.pointer (some a))).run Tryz.prog w = .ok true w := by
  have hs : (sizeOf 90).run Tryz.prog w = .ok 8 w := by simp [go_sem]
  simp [Op.equalIn, run_underlying Tryz.underlying44, hs, run_sameAddr_same]
theorem eqp_same (w : World) (a : Addr) : (binOp .eql 44 (.pointer (some a)) (.pointer (some a))).run Tryz.prog w = .ok (.bool true) w := by
  simp only [binOp, Sem.run_bind]
  rw [show Op.equal 44 (.pointer (some a)) (.pointer (some a)) = Op.equalIn (9999 + 1) 44 (.pointer (some a)) (.pointer (some a)) from rfl, eqpIn_same]
  rfl
set_option maxHeartbeats 1000000 in
theorem given_no (p : Option Addr) (w : World) (h : NotGiven p w) : Calls Tryz.prog 48 #[.pointer p] w fun e w' => e = .returned (.bool false) ∧ w = w' := by
  rcases h with rfl | ⟨Z, rfl, hz⟩
  · go_enter Tryz.func48, Tryz.ntmps48
    go_wp2_with fail
    go_ret
    exact ⟨rfl, rfl⟩
  · have he := fun w => eqp_nil w ⟨Z, 0, none⟩
    go_enter Tryz.func48, Tryz.ntmps48
    go_wp2_with fail
    go_ret
    exact ⟨rfl, rfl⟩
set_option maxHeartbeats 1000000 in
theorem given_yes (D : Nat) (w : World) (h : w.cell? ⟨D, 0, none⟩ = some (.pointer (some ⟨D, 0, none⟩))) : Calls Tryz.prog 48 #[.pointer (some ⟨D, 0, none⟩)] w fun e w' => e = .returned (.bool true) ∧ w = w' := by
  have he := fun w => eqp_same w ⟨D, 0, none⟩
  go_enter Tryz.func48, Tryz.ntmps48
  go_wp2_with fail
  go_ret
  exact ⟨rfl, rfl⟩
set_option maxHeartbeats 1000000 in
theorem burnt_any (D : Nat) (fu : Bool) (lf : Nat) (w : World) (h6 : w.cell? ⟨D, 6, none⟩ = some (.bool fu)) (h7 : w.cell? ⟨D, 7, none⟩ = some (.int .i64 (lf : Int))) :
    Calls Tryz.prog 123 #[.pointer (some ⟨D, 0, none⟩)] w fun e w' => e = .returned (.bool (fu && lf == 0)) ∧ w = w' := by
  cases fu
  · go_enter Tryz.func123, Tryz.ntmps123
    go_wp2_with fail
    go_ret
    exact ⟨rfl, rfl⟩
  · go_enter Tryz.func123, Tryz.ntmps123
    go_wp2_with fail
    go_ret
    refine ⟨?_, rfl⟩
    rw [show ((lf : Int) == 0) = (lf == 0) from by rw [Bool.eq_iff_iff]; simp]; rfl
end Dsk
end Go.Proofs.YtmccnlffikegfaaGreatDoor
/- burn, place, New, Len, Count, Fuse, lay. Conditions: as each says. -/
namespace Go.Proofs.YtmccnlffikegfaaGreatDoor
open Go.RowKit
namespace Dsk
def PD.burn (d : PD) : PD := { d with lf := if d.fu then d.lf - 1 else d.lf }
set_option maxHeartbeats 1000000 in
theorem burn_any {D : Nat} {d : PD} {T : Nat → Prop} (w : World) (h : DiskIs D d T w) (hb : d.fu = true → 1 ≤ d.lf) :
    Calls Tryz.prog 124 #[.pointer (some ⟨D, 0, none⟩)] w fun e w' => e = .returned (.tuple #[]) ∧ DiskIs D d.burn T w' ∧ Only T w w' := by
  obtain ⟨M, ao, cap, hA⟩ := h
  have HA := hidm hA
  have h6 := hA.c6
  have h7 := hA.c7
  have z7 := hA.z 7
  have ok := hA.ok
  obtain ⟨o1, o2, o3, o4, o5, o6⟩ := ok
  clear hA
  rcases hfu : d.fu with _ | _
  · rw [hfu] at h6
    have HF := hidm hfu
    clear hfu
    go_enter Tryz.func124, Tryz.ntmps124
    go_wp2_with fail
    go_end0
    refine ⟨rfl, ⟨M, ao, cap, ?_⟩, Only.refl _ _⟩
    have : d.burn = d := by
      have h := HF.out
      unfold PD.burn
      cases d
      simp_all
    rw [this]
    exact HA.out
  · rw [hfu] at h6
    have HF := hidm hfu
    have hb' := hb hfu
    clear hb hfu
    have f1 : wrap64 ((d.lf : Int) - 1) = ((d.lf - 1 : Nat) : Int) := by unfold wrap64; omega
    go_enter Tryz.func124, Tryz.ntmps124
    go_wp2_with fail
    go_end0
    refine ⟨rfl, ⟨M, ao, cap, ?_⟩, (Only.refl _ _).set (.inl HA.out.tD) _⟩
    refine HA.out.put 7 _ d.burn ?_ rfl rfl ?_
    · unfold dcells PD.burn; rw [HF.out]
      first | (rw [← f1]; simp; done) | (simp; omega)
    · exact ⟨o1, o2, o3, o4, o5, by unfold PD.burn; rw [HF.out]; simp; omega⟩
/-- Whether there is no such sector. -/
def off (n : Nat) (k : Int) : Prop := k < 0 ∨ (n : Int) ≤ k
set_option maxHeartbeats 1000000 in
theorem place_none (p : Option Addr) (k : Int) (w : World) (h : NotGiven p w) : Calls Tryz.prog 101 #[.pointer p, .int .i64 k] w fun e w' => e = .returned (.int .i64 13) ∧ w = w' := by
  have G := hidm (given_no p w h)
  go_enter Tryz.func101, Tryz.ntmps101
  go_wp2_with fail
  refine G.out.mono ?_
  rintro e w1 ⟨rfl, rfl⟩
  go_wp2_with fail
  go_ret
  exact ⟨rfl, rfl⟩
set_option maxHeartbeats 1000000 in
theorem place_off {D : Nat} {d : PD} {T : Nat → Prop} (k : Int) (w : World) (h : DiskIs D d T w) (hk : off d.n k) :
    Calls Tryz.prog 101 #[.pointer (some ⟨D, 0, none⟩), .int .i64 k] w fun e w' => e = .returned (.int .i64 2) ∧ w = w' := by
  obtain ⟨M, ao, cap, hA⟩ := h
  have h1 := hA.c1
  have G := hidm (given_yes D w hA.c0)
  clear hA
  rcases hk with hk | hk
  · go_enter Tryz.func101, Tryz.ntmps101
    go_wp2_with fail
    refine G.out.mono ?_
    rintro e w1 ⟨rfl, rfl⟩
    go_wp2_with fail
    go_ret
    exact ⟨rfl, rfl⟩
  · have f1 : ¬ k < 0 := by omega
    go_enter Tryz.func101, Tryz.ntmps101
    go_wp2_with fail
    refine G.out.mono ?_
    rintro e w1 ⟨rfl, rfl⟩
    go_wp2_with fail
    go_ret
    exact ⟨rfl, rfl⟩
set_option maxHeartbeats 1000000 in
theorem place_on {D : Nat} {d : PD} {T : Nat → Prop} (k : Nat) (w : World) (h : DiskIs D d T w) (hk : k < d.n) :
    Calls Tryz.prog 101 #[.pointer (some ⟨D, 0, none⟩), .int .i64 (k : Int)] w fun e w' => e = .returned (.int .i64 0) ∧ w = w' := by
  obtain ⟨M, ao, cap, hA⟩ := h
  have h1 := hA.c1
  have G := hidm (given_yes D w hA.c0)
  clear hA
  have f1 : ¬ (d.n : Int) ≤ (k : Int) := by omega
  go_enter Tryz.func101, Tryz.ntmps101
  go_wp2_with fail
  refine G.out.mono ?_
  rintro e w1 ⟨rfl, rfl⟩
  go_wp2_with fail
  go_ret
  exact ⟨rfl, rfl⟩
set_option maxHeartbeats 1000000 in
theorem len_none (p : Option Addr) (w : World) (h : NotGiven p w) : Calls Tryz.prog 36 #[.pointer p] w fun e w' => e = .returned (.int .i64 0) ∧ w = w' := by
  have G := hidm (given_no p w h)
  go_enter Tryz.func36, Tryz.ntmps36
  go_wp2_with fail
  refine G.out.mono ?_
  rintro e w1 ⟨rfl, rfl⟩
  go_wp2_with fail
  go_ret
  exact ⟨rfl, rfl⟩
set_option maxHeartbeats 1000000 in
theorem len_any {D : Nat} {d : PD} {T : Nat → Prop} (w : World) (h : DiskIs D d T w) :
    Calls Tryz.prog 36 #[.pointer (some ⟨D, 0, none⟩)] w fun e w' => e = .returned (.int .i64 (d.n : Int)) ∧ w = w' := by
  obtain ⟨M, ao, cap, hA⟩ := h
  have h1 := hA.c1
  have G := hidm (given_yes D w hA.c0)
  clear hA
  go_enter Tryz.func36, Tryz.ntmps36
  go_wp2_with fail
  refine G.out.mono ?_
  rintro e w1 ⟨rfl, rfl⟩
  go_wp2_with fail
  go_ret
  exact ⟨rfl, rfl⟩
end Dsk
end Go.Proofs.YtmccnlffikegfaaGreatDoor
/- lay, New. Conditions: the sector has 128 bytes. -/
namespace Go.Proofs.YtmccnlffikegfaaGreatDoor
open Go.RowKit
namespace Dsk
theorem exec_load_mid {oi : Oper} {a : Act} {u : World} (ty : TypeId) (x : Operand) (ho : oi.op = .load ty x) (b o : Nat) (hx : a.eval x = .pointer (some ⟨b, o, none⟩)) (cs : Array Value) (d : TypeDesc) (hc : u.rangeAt b o cs.toList)
    (hu : Tryz.prog.underlying ty = some d) (hd : d.isRow = true) (hi : (Tryz.prog.info? ty).map (·.size) = some cs.size) : (execOp a.eval oi).run Tryz.prog u = .ok (.value (.agg cs)) u := by
  unfold execOp
  simp only [ho, hx, Instr.loadAt, Instr.sureAddr, Sem.run_bind, Sem.run_pure, Result.andThen_ok, run_loadVar_mid u b o ty cs.toList d hc hu hd (by simpa using hi)]
theorem range_new (w : World) (C : Array Value) (t : TypeId) : (w.alloc (.cells C t)).rangeAt w.heap.size 0 C.toList := fun j v hv => by
  rw [Nat.zero_add, cell_of_row _ _ j _ _ (0, 0) (heap_alloc_last w _)]
  simpa using hv
theorem rangeAt_keep {w w' : World} {b o : Nat} {cs : List Value} (h : w.rangeAt b o cs) (hb : w'.heap[b]? = w.heap[b]?) : w'.rangeAt b o cs := fun j v hv => by
  rw [World.cell?_of_block (w := w) (a := ⟨b, o + j, none⟩) hb]; exact h j v hv
theorem buildZ (w : World) : (Instr.build 100 #[]).run Tryz.prog w = .ok (.agg (sec zeros)) w := run_build w 100 #[] (sec zeros) (by kernel_rfl)
theorem setBlock_other (w : World) (M k : Nat) (o : Obj) (h : k ≠ M) : (ChangeMaps.setBlock w M o).heap[k]? = w.heap[k]? := by
  have : M ≠ k := fun e => h e.symm
  simp [ChangeMaps.setBlock, this]
set_option maxHeartbeats 4000000 in
set_option maxRecDepth 100000 in
theorem lay_any (D M : Nat) (f : Int → List UInt8) (k : Int) (s : List UInt8) (hs : s.length = 128) (w : World) (h2 : w.cell? ⟨D, 2, none⟩ = some (.map (some M))) (hm : MapAt M f w) :
    Calls Tryz.prog 50 #[.pointer (some ⟨D, 0, none⟩), .int .i64 k, .agg (sec s)] w fun e w' => e = .returned (.tuple #[]) ∧ MapAt M (upd f k s) w' ∧ Only (fun j => j = M) w w' := by
  have hDM : D ≠ M := fun e => by
    obtain ⟨_, es, c, hh, _⟩ := hm
    rw [e] at h2
    simp [World.cell?, hh] at h2
  obtain ⟨C, hC⟩ : ∃ C, C = sec s := ⟨_, rfl⟩
  obtain ⟨Z, hZ⟩ : ∃ Z, Z = sec zeros := ⟨_, rfl⟩
  have hbz := zeroSec
  have heq := fun w => eqlSec w s zeros hs zeros_len
  rw [← hZ] at hbz heq
  rw [← hC] at heq ⊢
  have HI := hidm (show (Tryz.prog.info? 100).map (·.size) = some C.size from by rw [hC, sec_size, hs]; exact infoSec)
  have hB := (Below.refl w.heap.size w).alloc (Nat.le_refl _) (.cells C 100)
  have hm1 := hm.later hB
  have hM := hm.lt
  have hr := range_new w C 100
  have HC := hidm hC
  clear hC hZ
  obtain ⟨z, hz⟩ : ∃ z, z = (s == zeros) := ⟨_, rfl⟩
  rw [← hz] at heq
  have HZ := hidm hz
  clear hz
  obtain ⟨W, hW⟩ : ∃ W, W = w.alloc (.cells C 100) := ⟨_, rfl⟩
  cases z
  · have k2 : W.cell? ⟨D, 2, none⟩ = some (.map (some M)) := by rw [hW]; exact cell_later hB h2
    obtain ⟨o, hp, hmp⟩ := (show MapAt M f W.drew from by rw [hW]; exact hm1.later ((Below.refl _ _).drew)).put k s hs
    rw [← HC.out] at hp
    have HS0 : Hid (W.drew.cell? ⟨D, 2, none⟩ = some (.map (some M)) ∧ W.drew.rangeAt w.heap.size 0 C.toList) := hidm ⟨k2, by rw [hW]; exact hr⟩
    have HNEW : Hid ((ChangeMaps.setBlock W.drew M o).cell? ⟨D, 2, none⟩ = some (.map (some M)) ∧ (ChangeMaps.setBlock W.drew M o).rangeAt w.heap.size 0 C.toList) :=
      hidm ⟨(World.cell?_of_block (w := W.drew) (a := ⟨D, 2, none⟩) (setBlock_other _ _ _ _ hDM)).trans HS0.out.1, rangeAt_keep HS0.out.2 (setBlock_other _ _ _ _ (by omega))⟩
    have HF := hidm (show MapAt M (upd f k s) (ChangeMaps.setBlock W.drew M o) ∧ Only (fun j => j = M) w (ChangeMaps.setBlock W.drew M o) from
      ⟨hmp, (show Only (fun j => j = M) w W.drew from .of (by rw [hW]; exact hB.drew)).trans (Only.setBlock (T := fun j => j = M) rfl o) (fun _ h => .inl h)⟩)
    have HR := hidm hr
    have HW := hidm hW
    clear hmp hr hW
    go_enter Tryz.func50, Tryz.ntmps50
    go_wp2_with (first
      | (refine wpList_load_mid rfl 100 _ rfl w.heap.size 0 rfl C.toList (.array 128 5) HR.out Tryz.underlying100 rfl (by rw [HI.out]; simp) ?_))
    rw [← HW.out]
    refine wp_region_held_drew (S := fun u => u.cell? ⟨D, 2, none⟩ = some (.map (some M)) ∧ u.rangeAt w.heap.size 0 C.toList) (by kernel_rfl) HS0.out (fun hHeld => ?_)
    refine Man.take1 (i := 0) (v := ?_) rfl (by kernel_rfl) (by kernel_rfl) (by kernel_rfl) (fun _ _ _ h => h) (by rfl) ?_ (by assumption) ?_
    rotate_left
    · (intro u hSu; (try dsimp only at hSu); go_simp; (try with_reducible rfl))
    (try simp only [Act.put, List.setIfInBounds_toArray, List.set_cons_zero, List.set_cons_succ])
    refine Man.take1 (i := 1) (v := ?_) rfl (by kernel_rfl) (by kernel_rfl) (by kernel_rfl) (fun _ _ _ h => h) (by rfl) ?_ (by assumption) ?_
    rotate_left
    · (intro u hSu; (try dsimp only at hSu); go_simp; (try with_reducible rfl))
    (try simp only [Act.put, List.setIfInBounds_toArray, List.set_cons_zero, List.set_cons_succ])
    refine Man.take1 (i := 2) (v := ?_) rfl (by kernel_rfl) (by kernel_rfl) (by kernel_rfl) (fun _ _ _ h => h) (by rfl) ?_ (by assumption) ?_
    rotate_left
    · (intro u hSu; (try dsimp only at hSu); go_simp; (try with_reducible rfl))
    (try simp only [Act.put, List.setIfInBounds_toArray, List.set_cons_zero, List.set_cons_succ])
    refine Man.take1 (i := 3) (v := ?_) rfl (by kernel_rfl) (by kernel_rfl) (by kernel_rfl) (fun _ _ _ h => h) (by rfl) ?_ (by assumption) ?_
    rotate_left
    · (intro u hSu; (try dsimp only at hSu); go_simp; (try with_reducible rfl))
    (try simp only [Act.put, List.setIfInBounds_toArray, List.set_cons_zero, List.set_cons_succ])
    refine Man.take1 (i := 4) (v := ?_) rfl (by kernel_rfl) (by kernel_rfl) (by kernel_rfl) (fun _ _ _ h => h) (by rfl) ?_ (by assumption) ?_
    rotate_left
    · (intro u hSu; (try dsimp only at hSu); go_simp; (try with_reducible rfl))
    (try simp only [Act.put, List.setIfInBounds_toArray, List.set_cons_zero, List.set_cons_succ])
    refine Man.take1 (i := 5) (v := .agg C) rfl (by kernel_rfl) (by kernel_rfl) (by kernel_rfl) (fun _ _ _ h => h) (by rfl) ?_ (by assumption) ?_
    · intro u hSu
      exact exec_load_mid 100 _ rfl w.heap.size 0 rfl C _ hSu.2 Tryz.underlying100 rfl HI.out
    (try simp only [Act.put, List.setIfInBounds_toArray, List.set_cons_zero, List.set_cons_succ])
    refine Man.one (i := 6) rfl (by kernel_rfl) (fun K hK => ?_)
    go_simp
    refine hK.out _ _ ?_ (fun hNew => ?_)
    · exact HNEW.out
    (try simp only [Act.put, List.setIfInBounds_toArray, List.set_cons_zero, List.set_cons_succ])
    refine wpAnyH_done (by kernel_rfl) ?_ _
    go_end0
    exact ⟨rfl, HF.out⟩
  · have k2 : W.cell? ⟨D, 2, none⟩ = some (.map (some M)) := by rw [hW]; exact cell_later hB h2
    have hsz : s = zeros := by have := HZ.out; simpa using this.symm
    obtain ⟨o, hp, hmp⟩ := (show MapAt M f W from by rw [hW]; exact hm1).del 0 k
    have HF := hidm (show MapAt M (upd f k s) (ChangeMaps.setBlock W M o) ∧ Only (fun j => j = M) w (ChangeMaps.setBlock W M o) from by
      rw [hsz]; exact ⟨hmp, (show Only (fun j => j = M) w W from .of (by rw [hW]; exact hB)).trans (Only.setBlock (T := fun j => j = M) rfl o) (fun _ h => .inl h)⟩)
    have HR := hidm hr
    have HW := hidm hW
    rw [hW] at k2 hp
    clear hmp hr hsz hW
    go_enter Tryz.func50, Tryz.ntmps50
    go_wp2_with (first
      | (refine wpList_load_mid rfl 100 _ rfl w.heap.size 0 rfl C.toList (.array 128 5) HR.out Tryz.underlying100 rfl (by rw [HI.out]; simp) ?_))
    refine bodyPost_ret (results_none rfl _ _ _) rfl ?_
    rw [← HW.out]
    exact ⟨rfl, HF.out⟩
end Dsk
end Go.Proofs.YtmccnlffikegfaaGreatDoor
/- New, Read. Conditions: as each says. -/
namespace Go.Proofs.YtmccnlffikegfaaGreatDoor
open Go.RowKit
namespace Dsk
set_option maxHeartbeats 1000000 in
theorem new_bad (n : Int) (hn : n < 1 ∨ 4096 < n) (w : World) :
    Calls Tryz.prog 17 #[.int .i64 n] w fun e w' => e = .returned (.tuple #[.pointer none, .int .i64 1]) ∧ w = w' := by
  rcases hn with h | h
  · go_enter Tryz.func17, Tryz.ntmps17
    go_wp2_with fail
    go_ret2
    exact ⟨rfl, rfl⟩
  · have f1 : ¬ n < 1 := by omega
    go_enter Tryz.func17, Tryz.ntmps17
    go_wp2_with fail
    go_ret2
    exact ⟨rfl, rfl⟩
/-- A new disk. -/
def PD.new (n : Nat) : PD := ⟨n, fun _ => zeros, [], 0, 0, false, 0⟩
theorem PD.new_ok {n : Nat} (h : n ≤ 4096) : (PD.new n).ok := ⟨h, by simp [PD.new], by simp [PD.new], by simp [PD.new], by simp [PD.new], by simp [PD.new]⟩
/-- The blocks that have come. -/
def Come (w w' : World) (k : Nat) : Prop := w.heap.size ≤ k ∧ k < w'.heap.size
set_option maxHeartbeats 1000000 in
theorem new_any (n : Nat) (h1 : 1 ≤ n) (h2 : n ≤ 4096) (w : World) :
    Calls Tryz.prog 17 #[.int .i64 (n : Int)] w fun e w' => e = .returned (.tuple #[.pointer (some ⟨w.heap.size + 1, 0, none⟩), .int .i64 0]) ∧ DiskIs (w.heap.size + 1) (PD.new n) (Come w w') w' ∧ Below w.heap.size w w' := by
  have hmm := @run_makeMap Tryz.prog
  have f1 : ¬ (n : Int) < 1 := by omega
  have f2 : ¬ (4096 : Int) < (n : Int) := by omega
  go_enter Tryz.func17, Tryz.ntmps17
  go_wp2_with fail
  go_ret2
  have hB : Below w.heap.size w ((w.alloc (.map #[] 0)).alloc (.cells (dcells (w.heap.size + 1) (PD.new n) w.heap.size (.slice none 0 0)) 90)) :=
    ((Below.refl _ w).alloc (Nat.le_refl _) _).alloc (by simp) _
  refine ⟨by simp, ⟨w.heap.size, none, 0, ?_⟩, hB⟩
  have hrow := heap_alloc_last (w.alloc (.map #[] 0)) (.cells (dcells (w.heap.size + 1) (PD.new n) w.heap.size (.slice none 0 0)) 90)
  rw [World.size_alloc] at hrow
  have hmap := (MapAt.made w).later ((Below.refl _ _).alloc (Nat.le_refl _) (.cells (dcells (w.heap.size + 1) (PD.new n) w.heap.size (.slice none 0 0)) 90))
  refine ⟨hrow, hmap, World.ownsRow_nil _ _ _ _, ?_, ?_, fun p hp => (nomatch hp), fun k hk => hk.2, PD.new_ok h2⟩
  · unfold Come; simp <;> omega
  · unfold Come; simp <;> omega
/-! ### Read -/
set_option maxHeartbeats 1000000 in
theorem read_none (p : Option Addr) (k : Int) (w : World) (h : NotGiven p w) : Calls Tryz.prog 70 #[.pointer p, .int .i64 k] w fun e w' => e = .returned (.tuple #[.string ⟨#[]⟩, .int .i64 13]) ∧ Below w.heap.size w w' := by
  have G := hidm (place_none p k w h)
  go_enter Tryz.func70, Tryz.ntmps70
  go_wp2_with fail
  refine G.out.mono ?_
  rintro e w1 ⟨rfl, rfl⟩
  go_wp2_with fail
  go_ret2
  exact ⟨rfl, Below.refl _ _⟩
set_option maxHeartbeats 1000000 in
theorem read_off {D : Nat} {d : PD} {T : Nat → Prop} (k : Int) (w : World) (h : DiskIs D d T w) (hk : off d.n k) :
    Calls Tryz.prog 70 #[.pointer (some ⟨D, 0, none⟩), .int .i64 k] w fun e w' => e = .returned (.tuple #[.string ⟨#[]⟩, .int .i64 2]) ∧ Below w.heap.size w w' := by
  have G := hidm (place_off k w h hk)
  go_enter Tryz.func70, Tryz.ntmps70
  go_wp2_with fail
  refine G.out.mono ?_
  rintro e w1 ⟨rfl, rfl⟩
  go_wp2_with fail
  go_ret2
  exact ⟨rfl, Below.refl _ _⟩
theorem wpList_store_new {P : Program} {ops : Array Oper} {rest : List Oper} {op : Oper} {a : Act} {Q : Exit → Act → World → Prop} (hgd : op.guard = none) (ty : TypeId) (x y : Operand) (ho : op.op = .store ty x y)
    (w0 : World) (old cells : Array Value) (hx : a.eval x = .pointer (some ⟨w0.heap.size, 0, none⟩)) (hy : a.eval y = .agg cells)
    (hi : (P.info? ty).map (·.size) = some cells.size) (hold : old.size = cells.size) (h1 : cells.all (·.oneCell') = true)
    (h : wpList P ops Q rest (a.put op.dst undef) (w0.alloc (.cells cells ty))) : wpList P ops Q (op :: rest) a (w0.alloc (.cells old ty)) := by
  refine wpList_plain hgd fun _ hK => ?_
  unfold Oper.wp execOp
  simp only [ho, hx, hy, Sem.run_bind, run_storeAt_new (P := P) w0 ty old cells hi hold h1, Result.andThen_ok]
  exact hK _ _ h
theorem secBytes (w : World) (s : List UInt8) : (convert 62 9 (.slice (some ⟨w.heap.size, 0, none⟩) s.length s.length)).run Tryz.prog (w.alloc (.cells (sec s) 100)) = .ok (.string (S s)) (w.alloc (.cells (sec s) 100)) := by
  refine run_convert_bytes_back (P := Tryz.prog) _ 62 9 5 ⟨w.heap.size, 0, none⟩ s.length s Tryz.underlying62 Tryz.underlying5 Tryz.underlying9 ?_
  intro j hj
  have hadd : (⟨w.heap.size, 0, none⟩ : Addr).add j = ⟨w.heap.size, j, none⟩ := by unfold Addr.add; split <;> simp_all
  rw [hadd, cell_of_row _ _ j _ _ (0, 0) (heap_alloc_last w _)]
  simp [sec, vals, hj, cell, Extern.Stop.cell]
set_option maxHeartbeats 4000000 in
set_option maxRecDepth 100000 in
theorem read_on {D : Nat} {d : PD} {T : Nat → Prop} (k : Nat) (w : World) (h : DiskIs D d T w) (hk : k < d.n) :
    Calls Tryz.prog 70 #[.pointer (some ⟨D, 0, none⟩), .int .i64 (k : Int)] w fun e w' => e = .returned (.tuple #[.string (S (d.f k)), .int .i64 0]) ∧ Below w.heap.size w w' := by
  have G := hidm (place_on k w h hk)
  obtain ⟨M, ao, cap, hA⟩ := h
  have h2 := hA.c2
  have hl := hA.map.look (k : Int)
  have hs := hA.map.1 (k : Int)
  obtain ⟨s, hss⟩ : ∃ s, s = d.f (k : Int) := ⟨_, rfl⟩
  rw [← hss] at hl hs ⊢
  clear hss hA
  have hcv := secBytes w s
  rw [hs] at hcv
  obtain ⟨C, hC⟩ : ∃ C, C = sec s := ⟨_, rfl⟩
  obtain ⟨Z, hZ⟩ : ∃ Z, Z = sec zeros := ⟨_, rfl⟩
  have hz := zeroSec
  rw [← hC] at hl hcv
  rw [← hZ] at hz
  have HI := hidm (show (Tryz.prog.info? 100).map (·.size) = some C.size from by rw [hC, sec_size, hs]; exact infoSec)
  have HZC := hidm (show Z.size = C.size from by rw [hZ, hC, sec_size, sec_size, hs, zeros_len])
  have H1 := hidm (show C.all (·.oneCell') = true from by rw [hC]; exact sec_one _)
  clear hC hZ hs
  go_enter Tryz.func70, Tryz.ntmps70
  go_wp2_with fail
  refine G.out.mono ?_
  rintro e w1 ⟨rfl, rfl⟩
  go_wp2_with (first
    | (refine wpList_store_new rfl 100 _ _ rfl w Z C rfl rfl HI.out HZC.out H1.out ?_))
  go_ret2
  exact ⟨rfl, (Below.refl _ _).alloc (Nat.le_refl _) _⟩
end Dsk
end Go.Proofs.YtmccnlffikegfaaGreatDoor
/- A write's value: built, laid into a slice's literal. No condition. -/
namespace Go.Proofs.YtmccnlffikegfaaGreatDoor
open Go.RowKit
namespace Dsk
/-- Bytes, and 0 behind them. -/
def pad (s : List UInt8) : List UInt8 := s ++ List.replicate (128 - s.length) 0
theorem pad_len {s : List UInt8} (h : s.length ≤ 128) : (pad s).length = 128 := by simp [pad]; omega
theorem fold_splice (o : Nat) (l : List Value) (cs : Array Value) (h : o + l.length ≤ cs.size) :
    (l.zipIdx 0).foldl (fun cs (x : Value × Nat) => cs.setIfInBounds (o + x.2) x.1) cs = (cs.toList.take o ++ l ++ cs.toList.drop (o + l.length)).toArray := by
  obtain ⟨h1, h2⟩ := Great.foldl_set o l 0 cs
  apply Array.ext
  · rw [h1]; simp; omega
  · intro i hi hi'
    have h3 := h2 i
    rw [h1] at hi
    have h4 := Array.getElem?_eq_getElem (xs := (l.zipIdx 0).foldl (fun cs (x : Value × Nat) => cs.setIfInBounds (o + x.2) x.1) cs) (i := i) (by rw [h1]; exact hi)
    rw [h4] at h3
    have h5 := Array.getElem?_eq_getElem (xs := (cs.toList.take o ++ l ++ cs.toList.drop (o + l.length)).toArray) (i := i) hi'
    have key : (cs.toList.take o ++ l ++ cs.toList.drop (o + l.length)).toArray[i]? = if o + 0 ≤ i ∧ i < o + 0 + l.length ∧ i < cs.size then l[i - (o + 0)]? else cs[i]? := by
      simp only [List.getElem?_toArray, Nat.add_zero]
      have hto : (cs.toList.take o).length = o := by simp; omega
      by_cases hA : i < o
      · rw [if_neg (by omega), List.append_assoc, List.getElem?_append_left (by rw [hto]; exact hA), List.getElem?_take_of_lt hA]
        simp
      · by_cases hB : i < o + l.length
        · rw [if_pos ⟨by omega, hB, by omega⟩, List.append_assoc, List.getElem?_append_right (by rw [hto]; omega), hto, List.getElem?_append_left (by omega)]
        · rw [if_neg (by omega), List.getElem?_append_right (by rw [List.length_append, hto]; omega), List.length_append, hto, List.getElem?_drop]
          rw [show o + l.length + (i - (o + l.length)) = i by omega]
          simp
    rw [key, ← h3] at h5
    exact Option.some.inj h5
theorem fill_cons {place : Nat → Option (Nat × Nat)} {cells : Array Value} {i o sz : Nat} {v : Value} {rest : List (Nat × Value)} (hp : place i = some (o, sz)) (hv : v.cells.size = sz) (hle : o + sz ≤ cells.size) :
    Instr.fill place cells ((i, v) :: rest) = Instr.fill place (cells.toList.take o ++ v.cells.toList ++ cells.toList.drop (o + sz)).toArray rest := by
  have hs := fold_splice o v.cells.toList cells (by simpa [hv] using hle)
  simp only [Array.length_toList, hv] at hs
  rw [Instr.fill]
  simp only [hp, hv]
  rw [if_neg (by simp; omega), ← hs, ← Array.foldl_toList, Array.toList_zipIdx]
/-- The zero of a write. -/
def zeroW : Array Value := (.int .i64 0 :: (vals zeros ++ vals zeros) : List Value).toArray
theorem infoW : (Tryz.prog.info? 102).map (fun i => (i.zero, i.size, i.bytes)) = some (some (.agg zeroW), 257, 264) := by kernel_rfl
theorem zeroWV (w : World) : (zeroValue 102).run Tryz.prog w = .ok (.agg zeroW) w := by
  obtain ⟨i, hi, hz, hs, _⟩ := info_parts infoW
  simp [zeroValue, typeInfo, hi, hz]
theorem sizeW : (Tryz.prog.info? 102).map (·.size) = some 257 := by
  obtain ⟨i, hi, hz, hs, _⟩ := info_parts infoW
  simp [hi, hs]
/-- The value of a write. -/
def Wt.val (x : Wt) : Array Value := x.cells.toArray
theorem Wt.val_size {x : Wt} (h : x.ok) : x.val.size = 257 := by simp [Wt.val, Wt.cells_len h]
theorem Wt.val_one (x : Wt) : x.val.all (·.oneCell') = true := all_oneCell_toArray x.cells_one
def fieldsW : List (Nat × Nat) := [(0, 1), (1, 128), (129, 128)]
def builtOf (parts : List (Nat × Value)) : Option (Array Value) := Instr.fill (fieldsW.toArray[·]?) zeroW parts
theorem built_eq (parts : List (Nat × Value)) : Tryz.prog.built 102 parts = builtOf parts := by
  obtain ⟨i, hi, hz, hs, _⟩ := info_parts infoW
  have hf : (match Tryz.prog.underlying 102 with | some (.struct fields) => fields.toList.mapM (fun f => (Tryz.prog.info? f.type).map fun i => (f.offset, i.size)) | _ => none) = some fieldsW := by kernel_rfl
  unfold Program.built
  cases hu : Tryz.prog.underlying 102 with
  | none => rw [hu] at hf; cases hf
  | some dsc =>
    rw [hu] at hf
    cases dsc <;> simp only [reduceCtorEq] at hf
    simp only [hi, hz, hf]
    rfl
theorem build_write (k : Int) (had : List UInt8) (hh : had.length = 128) :
    Tryz.prog.built 102 [(0, .int .i64 k), (2, .agg (sec had))] = some (.int .i64 k :: (vals zeros ++ vals had) : List Value).toArray := by
  have hz : (vals zeros).length = 128 := by rw [vals_len, zeros_len]
  rw [built_eq]
  unfold builtOf
  rw [fill_cons (o := 0) (sz := 1) rfl rfl (by simp [zeroW])]
  rw [fill_cons (o := 129) (sz := 128) rfl (by show (sec had).size = 128; rw [sec_size, hh]) (by simp [zeroW, Value.cells, hz])]
  unfold Instr.fill
  congr 2
  have hd : (Value.agg (sec had)).cells.toList = vals had := by simp [Value.cells, sec]
  have h1 : (Value.int IntKind.i64 k).cells.toList = [.int .i64 k] := rfl
  rw [hd, h1]
  have e0 : zeroW.toList = .int .i64 0 :: (vals zeros ++ vals zeros) := rfl
  rw [e0]
  generalize hv : vals zeros = v at hz ⊢
  have e1 : (List.take 0 (Value.int .i64 0 :: (v ++ v)) ++ [Value.int .i64 k] ++ List.drop (0 + 1) (Value.int .i64 0 :: (v ++ v))).toArray.toList = .int .i64 k :: (v ++ v) := by simp
  rw [e1]
  have e2 : List.take 129 (Value.int .i64 k :: (v ++ v)) = .int .i64 k :: v := by
    rw [List.take_succ_cons, List.take_left' hz]
  have e3 : List.drop (129 + 128) (Value.int .i64 k :: (v ++ v)) = [] := by
    apply List.drop_eq_nil_of_le
    simp [hz]
  rw [e2, e3]
  simp
set_option maxRecDepth 100000 in
theorem slice_one (w : World) (C : Array Value) (hC : C.size = 257) :
    (Instr.buildSlice 88 1 #[(0, .agg C)]).run Tryz.prog w = .ok (.slice (some ⟨w.heap.size, 0, none⟩) 1 1) (w.alloc (.cells C 102)) := by
  obtain ⟨i, hi, hz, hs, _⟩ := info_parts infoW
  refine run_buildSlice w 88 102 1 _ C i (.agg zeroW) Tryz.underlying88 hi hz (by rw [hs]; decide) (by rw [hs]; decide) ?_
  rw [hs]
  show Instr.fill _ _ [(0, Value.agg C)] = _
  rw [fill_cons (o := 0) (sz := 257) (v := .agg C) rfl hC (by simp)]
  unfold Instr.fill
  congr 1
  have : (List.drop (0 + 257) ((Array.range (1 * 257)).map fun x => (Value.agg zeroW).cells[x % (Value.agg zeroW).cells.size]!).toList) = [] := by
    apply List.drop_eq_nil_of_le
    simp
  rw [this]
  simp [Value.cells]
theorem val_one {P : Program} {ops : Array Oper} {o : Oper} {a : Act} {w w' : World} {K : Act → World → Prop} {Q : Exit → Act → World → Prop} {E : Prop} {v : Value} (hw : Region.wanted o (yielded ops a.tmps) = true)
    (hrun : (execOp a.eval o).run P w = .ok (.value v) w') (h : K (a.put o.dst v) w') : if Region.wanted o (yielded ops a.tmps) = true then Oper.wp P o a w K Q else E := by
  rw [if_pos hw]
  unfold Oper.wp
  rw [hrun, Oper.upon_value]
  exact h
theorem exec_slice1 {oi : Oper} {a : Act} {w : World} (x : Operand) (ho : oi.op = .buildSlice 88 1 #[(0, x)]) (C : Array Value) (hx : a.eval x = .agg C) (hC : C.size = 257) :
    (execOp a.eval oi).run Tryz.prog w = .ok (.value (.slice (some ⟨w.heap.size, 0, none⟩) 1 1)) (w.alloc (.cells C 102)) := by
  unfold execOp
  simp only [ho]
  have := slice_one w C hC
  simp [hx, this, Result.andThen]
/-- What is owned stays when a map is written. -/
theorem own_map {B : Nat} {v : Value} {n : Nat} {xs : List Value} {M : Nat} {f : Int → List UInt8} {w w' : World} (h : w.ownsRow B 102 257 v n xs) (hm : MapAt M f w) (ho : Only (fun j => j = M) w w') : w'.ownsRow B 102 257 v n xs := by
  refine ⟨h.1, ?_⟩
  rcases h.2 with h2 | ⟨g, c, cur, hv, hg, hh, rest⟩
  · exact .inl h2
  · have hne : g ≠ M := fun e => by
      obtain ⟨_, es, cl, hh2, _⟩ := hm
      rw [e, hh2] at hh
      simp at hh
    exact .inr ⟨g, c, cur, hv, hg, ho.keeps hne hh, rest⟩
theorem DiskAt.appended {D : Nat} {d : PD} {M : Nat} {ao : Option Addr} {cap : Nat} {T : Nat → Prop} {w : World} {f : Int → List UInt8} {g cap' : Nat} {x : Wt}
    (hrow : w.heap[D]? = some (.cells (dcells D d M (.slice ao d.cs.length cap)) 90 (0, 0))) (hm : MapAt M f w)
    (hown : w.ownsRow 0 102 257 (.slice (some ⟨g, 0, none⟩) (d.cs.length + 1) cap') (d.cs.length + 1) (flatW d.cs ++ x.cells))
    (tD : T D) (tM : T M) (tg : T g) (lt : ∀ k, T k → k < w.heap.size) (hok : ({ d with f := f, cs := d.cs ++ [x] } : PD).ok) :
    DiskAt D { d with f := f, cs := d.cs ++ [x] } M (some ⟨g, 0, none⟩) cap' T (w.setCell ⟨D, 3, none⟩ (.slice (some ⟨g, 0, none⟩) (d.cs.length + 1) cap')) := by
  have hlen : (d.cs ++ [x]).length = d.cs.length + 1 := by simp
  refine ⟨?_, map_set hrow hm 3 _, ?_, tD, tM, fun p hp => ?_, fun k hk => by simpa using lt k hk, hok⟩
  · rw [row_set hrow]
    show _ = some (Obj.cells (dcells D _ M (.slice (some ⟨g, 0, none⟩) (d.cs ++ [x]).length cap')) _ _)
    rw [hlen]
    rfl
  · show World.ownsRow _ _ _ _ (.slice (some ⟨g, 0, none⟩) (d.cs ++ [x]).length cap') (d.cs ++ [x]).length (flatW (d.cs ++ [x]))
    rw [hlen, flatW_snoc]
    exact own_set hrow hown 3 _
  · cases hp; exact tg
end Dsk
end Go.Proofs.YtmccnlffikegfaaGreatDoor
