import Derived.Test.YtkgbemkcnahkoaaGreatDoorCards
import Derived.Test.YtkgbemkcnahkoaaGreatDoorTie
import Derived.ProofKit
import Derived.OpenShut
import Derived.Deep.DeepHandedRow
import Derived.Deep.DeepWitnessRowRef
import Derived.Lib.SmallJoins
import Derived.LaidLaws
import Derived.LaidMore
import Derived.Lay
import Derived.Test.YtkgbemkcnahkoaaGreatDoorZDk
import Derived.Deep.Slices
namespace Go.Proofs.YtkgbemkcnahkoaaGreatDoor
open Go.ChangeShapes Go.WideShapes Go.ChangeAt Go.RowKit
namespace Fr
section
variable {H : Type} {enc : TypeId × Value → H} {P : Program}
theorem post_made {f : Func} {s : ChangeSpec} {apart fresh handsOn again : Bool} {W W' : World} {args : Array Value} {v : Value} {ds gs : List (DataW H)} {before pa pv : List MemPlace}
   (hW : DataW.Whole enc P f.params.toList s.vars apart W args.toList ds gs before)
   (hres : ∀ (b : Nat) (sp : Nat → Bool) (hd : Bool), DataW.TrodAll enc P W' b sp hd f.resultTypes.toList (v.resultList f.resultTypes.size) (s.fn H (ds ++ gs)).results [])
   (hargs : ∀ sp : Nat → Bool, (∀ p ∈ before, sp p.block = true) → DataW.TrodAll enc P W' 0 sp true f.params.toList args.toList (s.fn H (ds ++ gs)).args pa)
   (hvars : ∀ sp : Nat → Bool, (∀ p ∈ before, sp p.block = true) → DataW.TrodVars enc P W' sp s.vars (s.fn H (ds ++ gs)).vars pv)
   (hps : before = pa ++ pv) (hb : Below W.heap.size W W')
   (hok : ∀ (j : Nat) (t : TypeId) (r : Value), f.resultTypes[j]? = some t → (v.resultList f.resultTypes.size)[j]? = some r → Value.okWide P W' .any 0 t r) :
   s.post enc P f apart fresh handsOn again W args v W' := by
 have lt : ∀ p ∈ before, p.block < W.heap.size := fun p hp => hW.lt p hp
 have old : ∀ p ∈ before, (fun b => decide (b < W.heap.size)) p.block = true := fun p hp => by simpa using lt p hp
 refine ⟨ds, gs, before, [], pa, pv, hW, hres _ _ _, hargs _ old, hvars _ old, World.keptBut_mono (fun p hp => ⟨hp, ?_⟩) (hb.frame (· ∈ before)), fun _ => ?_⟩
 · rw [hps, List.mem_append] at hp
   exact Or.inr hp
 · obtain ⟨_, _, _, _, _, hz, hn⟩ := hW
   refine ⟨hok, _, _, ([] ++ pa) ++ pv, ⟨[] ++ pa, pv, trodAll_append (hargs _ (fun _ _ => rfl)) (hres _ _ _), hvars _ (fun _ _ => rfl), rfl, ?_, ?_⟩, ?_⟩
   · intro b off hp
     have hin : MemPlace.cell b off ∈ before := by rw [hps]; simpa using hp
     rw [hb.frozen (lt _ hin)]
     exact hz b off hin
   · intro ha
     have := hn ha
     rw [hps] at this
     simpa using this
   · intro p hp _
     rw [hps]
     simpa using hp
end
theorem own : ownKnob Tryz.prog.godebug = none := by kernel_rfl
theorem wit {H : Type} {enc : TypeId × Value → H} {C : Checked} {os : Os} {f : FuncId} {fn : Func} {s : OpenSpec} {conds : List PathCond} {apart : Bool} {laid : List (String × DataW Unit)} (w0 : World) (args : Array Value) (hos : w0.os = os)
   (hsh : (w0.forCall (fun _ _ => 0) ⟨#[], args, []⟩).Shaped C.prog)
   (hok : Input.okWideB C.prog (w0.forCall (fun _ _ => 0) ⟨#[], args, []⟩) f ⟨#[], args, []⟩ = true)
   (hrow : s.preRow enc C.prog fn conds apart laid (w0.forCall (fun _ _ => 0) ⟨#[], args, []⟩).memory args) :
   ∃ (w : World) (tape : Tape) (i : Input), w.os = os ∧ (w.forCall tape i).Shaped C.prog ∧ i.vars = [] ∧ Input.okWide C.prog (w.forCall tape i) .any w.heap.size f i ∧
     s.preRow enc C.prog fn conds apart laid (w.forCall tape i).memory i.args ∧ ({} : Assume).holds C.prog (lone (Frame.enter C.prog f i.args .normal) [] (w.forCall tape i)) :=
 ⟨w0, fun _ _ => 0, ⟨#[], args, []⟩, hos, hsh, (Input.okWide_of_okWideB (base := 0) hok).1, (Input.okWide_of_okWideB hok).2, hrow, by
   simp only [Assume.holds]
   exact ⟨by simp, by simp, fun _ => Modest.zero, by simp, by simp⟩⟩
end Fr
end Go.Proofs.YtkgbemkcnahkoaaGreatDoor
namespace Go.Proofs.YtkgbemkcnahkoaaGreatDoor
open Go.ChangeShapes Go.WideShapes Go.ChangeAt Go.RowKit Go.Deep
namespace Dsk
structure Opv where
 kind : Int
 pos : Int
 s : ByteArray
 ks : List Bool
 ko : Option Addr
 kc : Nat
def Opv.cells (x : Opv) : List Value := [.int .i64 x.kind, .int .i64 x.pos, .string x.s, .slice x.ko x.ks.length x.kc]
def oflat (l : List Opv) : List Value := l.flatMap Opv.cells
theorem oflat_len (l : List Opv) : (oflat l).length = l.length * 4 := by
 induction l with
 | nil => rfl
 | cons v l ih => simp only [oflat, List.flatMap_cons, List.length_append] at ih ⊢; rw [ih]; simp [Opv.cells]; omega
theorem oflat_snoc (l : List Opv) (v : Opv) : oflat (l ++ [v]) = oflat l ++ v.cells := by simp [oflat]
theorem oflat_at (vs : List Opv) : ∀ (j : Nat) (h : j < vs.length) (f : Nat), f < 4 → (oflat vs)[j * 4 + f]? = (vs[j]).cells[f]? := by
 induction vs with
 | nil => intro j h; cases h
 | cons v vs ih =>
   intro j h f hf
   have e : oflat (v :: vs) = v.cells ++ oflat vs := rfl
   have el : v.cells.length = 4 := rfl
   cases j with
   | zero => rw [e, List.getElem?_append_left (by rw [el]; omega)]; simp
   | succ j =>
     rw [e, List.getElem?_append_right (by rw [el]; omega), el, show (j + 1) * 4 + f - 4 = j * 4 + f by omega]
     exact ih j (by simpa using h) f hf
structure Opv.inn (x : Opv) : Prop where
 k0 : -9223372036854775808 ≤ x.kind
 k1 : x.kind ≤ 9223372036854775807
 p0 : -9223372036854775808 ≤ x.pos
 p1 : x.pos ≤ 9223372036854775807
 s : x.s.size ≤ 9223372036854775807
def OpsAt (l : List Opv) (sl : Value) (w : World) : Prop := (∃ ao cap, sl = .slice ao l.length cap ∧ l.length ≤ cap ∧ cap ≤ 9223372036854775807 ∧ (l ≠ [] → ∃ b off, ao = some ⟨b, off, none⟩ ∧ b < w.heap.size ∧ ∀ j, j < l.length * 4 → w.cell? ⟨b, off + j, none⟩ = (oflat l)[j]?)) ∧ ∀ x ∈ l, BoolsAt x.ks x.ko x.kc w
theorem OpsAt.later {l : List Opv} {sl : Value} {w w' : World} (h : OpsAt l sl w) (hb : Below w.heap.size w w') : OpsAt l sl w' := by
 obtain ⟨⟨ao, cap, h1, hc, hm, h2⟩, hi⟩ := h
 refine ⟨⟨ao, cap, h1, hc, hm, fun hne => ?_⟩, fun x hx => (hi x hx).later hb⟩
 obtain ⟨b, off, h3, h4, h5⟩ := h2 hne
 exact ⟨b, off, h3, Nat.lt_of_lt_of_le h4 hb.size, fun j hj => by rw [hb.cell (p := ⟨b, off + j, none⟩) h4]; exact h5 j hj⟩
theorem OpsAt.at {l : List Opv} {sl : Value} {w : World} (h : OpsAt l sl w) (i : Nat) (hi : i < l.length) : ∃ b off cap, sl = .slice (some ⟨b, off, none⟩) l.length cap ∧ b < w.heap.size ∧
   w.cell? ⟨b, off + i * 4, none⟩ = some (.int .i64 l[i].kind) ∧ w.cell? ⟨b, off + i * 4 + 1, none⟩ = some (.int .i64 l[i].pos) ∧ w.cell? ⟨b, off + i * 4 + 2, none⟩ = some (.string l[i].s) ∧ w.cell? ⟨b, off + i * 4 + 3, none⟩ = some (.slice l[i].ko l[i].ks.length l[i].kc) := by
 obtain ⟨⟨ao, cap, h1, _, _, h2⟩, _⟩ := h
 obtain ⟨b, off, rfl, h4, h5⟩ := h2 (fun e => by rw [e] at hi; cases hi)
 refine ⟨b, off, cap, h1, h4, ?_, ?_, ?_, ?_⟩
 · have := h5 (i * 4 + 0) (by omega); rw [oflat_at l i hi 0 (by omega)] at this; exact this
 · have := h5 (i * 4 + 1) (by omega); rw [oflat_at l i hi 1 (by omega)] at this; exact this
 · have := h5 (i * 4 + 2) (by omega); rw [oflat_at l i hi 2 (by omega)] at this; exact this
 · have := h5 (i * 4 + 3) (by omega); rw [oflat_at l i hi 3 (by omega)] at this; exact this
theorem OpsAt.bools {l : List Opv} {sl : Value} {w : World} (h : OpsAt l sl w) (i : Nat) (hi : i < l.length) : BoolsAt (l[i]).ks (l[i]).ko (l[i]).kc w := h.2 _ (List.getElem_mem hi)
theorem OpsAt.form {l : List Opv} {sl : Value} {w : World} (h : OpsAt l sl w) : ∃ ao cap, sl = .slice ao l.length cap ∧ l.length ≤ cap ∧ cap ≤ 9223372036854775807 := by
 obtain ⟨⟨ao, cap, h1, hc, hm, _⟩, _⟩ := h
 exact ⟨ao, cap, h1, hc, hm⟩
section
variable {H : Type} {enc : TypeId × Value → H} {W : World} {base : Nat} {sp : Nat → Bool} {held : Bool}
theorem cO : Tryz.prog.cellsOf 39 = 4 := by kernel_rfl
theorem cI : Tryz.prog.cellsOf 3 = 1 := by kernel_rfl
theorem cS : Tryz.prog.cellsOf 9 = 1 := by kernel_rfl
theorem cB : Tryz.prog.cellsOf 4 = 1 := by kernel_rfl
theorem cL : Tryz.prog.cellsOf 37 = 1 := by kernel_rfl
theorem plain_addr {a : Addr} {v : Value} (h : W.cell? a = some v) : ∃ b o, a = ⟨b, o, none⟩ ∧ b < W.heap.size := by
 have hlt : a.block < W.heap.size := World.block_lt_of_cell? W _ h
 obtain ⟨b, off, spot⟩ := a
 have hs : spot = none := by
   unfold World.cell? at h
   simp only at h
   split at h
   · split at h
     · cases h
     · rename_i hns
       cases spot with
       | none => rfl
       | some q => simp at hns
   · cases h
 subst hs
 exact ⟨b, off, rfl, hlt⟩
set_option maxRecDepth 100000 in
theorem open_bools1 {fuel : Nat} {cs : List Value} {x : DataW H × List MemPlace} (h : DataW.trod enc Tryz.prog W base sp held fuel 37 cs = some x) :
   ∃ (ks : List Bool) (ko : Option Addr) (kc : Nat), cs = [.slice ko ks.length kc] ∧ BoolsAt ks ko kc W := by
 rcases open_slice1 Tryz.underlying37 cB h with ⟨hcs, _⟩ | ⟨a', len', cap', m, n, V, D, Pl, hcs, hb, hl, hm, hmm, _, hi⟩
 · exact ⟨[], none, 0, hcs, BoolsAt.nil W⟩
 · have hle : len' ≤ m := by rw [hmm]; split <;> omega
   have key : ∀ k, k ≤ len' → ∃ ks : List Bool, ks.length = k ∧ ∀ j (hj : j < ks.length), W.cell? (a'.add j) = some (.bool ks[j]) := by
     intro k
     induction k with
     | zero => intro _; exact ⟨[], rfl, fun j hj => by cases hj⟩
     | succ k ih =>
       intro hk
       obtain ⟨ks, h1, h2⟩ := ih (by omega)
       obtain ⟨hc, ht⟩ := hi k (by omega)
       obtain ⟨b, hb', _⟩ := DataW.trod_bool Tryz.underlying4 ht
       simp only [List.cons.injEq, and_true] at hb'
       rw [hb'] at hc
       refine ⟨ks ++ [b], by simp [h1], fun j hj => ?_⟩
       rcases Nat.lt_or_ge j ks.length with hj2 | hj2
       · rw [List.getElem_append_left hj2]; exact h2 j hj2
       · have : j = k := by rw [List.length_append] at hj; simp at hj; omega
         subst this
         rw [List.getElem_append_right hj2]
         simpa [h1] using hc
   obtain ⟨ks, h1, h2⟩ := key len' (Nat.le_refl _)
   refine ⟨ks, some a', cap', by rw [h1]; exact hcs, by rw [h1]; exact hl, by unfold maxLen at hm; omega, fun hne => ?_⟩
   have hpos : 0 < ks.length := List.length_pos_iff.2 hne
   have h0 := h2 0 hpos
   have e0 : a'.add 0 = a' := rfl
   rw [e0] at h0
   obtain ⟨b, o, rfl, hlt⟩ := plain_addr h0
   refine ⟨b, o, rfl, hlt, fun j hj => ?_⟩
   have := h2 j hj
   have e : (⟨b, o, none⟩ : Addr).add j = ⟨b, o + j, none⟩ := by unfold Addr.add; split <;> simp_all
   rw [e] at this; exact this
set_option maxRecDepth 100000 in
theorem open_op {fuel : Nat} {cs : List Value} {x : DataW H × List MemPlace} (h : DataW.trod enc Tryz.prog W base sp held fuel 39 cs = some x) : ∃ v : Opv, cs = v.cells ∧ v.inn ∧ BoolsAt v.ks v.ko v.kc W := by
 obtain ⟨xs, n, _, _, hlen, hxl, hf⟩ := DataW.trod_struct Tryz.underlying39 h
 rw [cO] at hlen
 match cs, hlen with
 | [c0, c1, c2, c3], _ =>
   match xs, hxl with
   | [y0, y1, y2, y3], _ =>
     have a0 : DataW.trod enc Tryz.prog W base sp held n 3 (([c0, c1, c2, c3].drop 0).take (Tryz.prog.cellsOf 3)) = some y0 := hf 0 _ rfl
     have a1 : DataW.trod enc Tryz.prog W base sp held n 3 (([c0, c1, c2, c3].drop 1).take (Tryz.prog.cellsOf 3)) = some y1 := hf 1 _ rfl
     have a2 : DataW.trod enc Tryz.prog W base sp held n 9 (([c0, c1, c2, c3].drop 2).take (Tryz.prog.cellsOf 9)) = some y2 := hf 2 _ rfl
     have a3 : DataW.trod enc Tryz.prog W base sp held n 37 (([c0, c1, c2, c3].drop 3).take (Tryz.prog.cellsOf 37)) = some y3 := hf 3 _ rfl
     rw [cI] at a0 a1
     rw [cS] at a2
     rw [cL] at a3
     have g0 : DataW.trod enc Tryz.prog W base sp held n 3 [c0] = some y0 := a0
     have g1 : DataW.trod enc Tryz.prog W base sp held n 3 [c1] = some y1 := a1
     have g2 : DataW.trod enc Tryz.prog W base sp held n 9 [c2] = some y2 := a2
     have g3 : DataW.trod enc Tryz.prog W base sp held n 37 [c3] = some y3 := a3
     obtain ⟨k, e0, _, w0⟩ := DataW.trod_int Tryz.underlying3 g0
     obtain ⟨m, e1, _, w1⟩ := DataW.trod_int Tryz.underlying3 g1
     obtain ⟨s, e2, _, w2⟩ := DataW.trod_string Tryz.underlying9 g2
     obtain ⟨ks, ko, kc, e3, hks⟩ := open_bools1 g3
     simp only [List.cons.injEq, and_true] at e0 e1 e2 e3
     subst e0 e1 e2 e3
     have bk := bounds_i64 w0
     have bm := bounds_i64 w1
     exact ⟨⟨k, m, s, ks, ko, kc⟩, rfl, ⟨bk.1, bk.2, bm.1, bm.2, by unfold maxLen at w2; show s.size ≤ _; omega⟩, hks⟩
set_option maxRecDepth 100000 in
theorem open_ops {v : Value} {d : DataW H} {p : List MemPlace} {r : Reach} {b0 : Nat} (hok : Value.okWide Tryz.prog W r b0 23 v) (h : DataW.Trod enc Tryz.prog W base sp held 23 v d p) :
   ∃ vs : List Opv, OpsAt vs v W ∧ ∀ x ∈ vs, x.inn := by
 obtain ⟨a, len, cap, rfl⟩ := okWide_slice Tryz.underlying23 hok
 obtain ⟨fuel, hf⟩ := h
 rcases open_slice Tryz.underlying23 hf with ⟨hcs, _⟩ | ⟨a', len', cap', m, n, D, Pl, hcs, hb, hl, hm, hmm, _, hi⟩
 · have hcs' : [Value.slice a len cap] = [.slice none 0 0] := hcs
   simp only [List.cons.injEq, Value.slice.injEq, and_true] at hcs'
   obtain ⟨rfl, rfl, rfl⟩ := hcs'
   exact ⟨[], ⟨⟨none, 0, rfl, Nat.le_refl _, by omega, fun hne => absurd rfl hne⟩, fun x hx => by cases hx⟩, fun x hx => by cases hx⟩
 · have hcs' : [Value.slice a len cap] = [.slice (some a') len' cap'] := hcs
   simp only [List.cons.injEq, Value.slice.injEq, and_true] at hcs'
   obtain ⟨rfl, rfl, rfl⟩ := hcs'
   have hle : len ≤ m := by rw [hmm]; split <;> omega
   rw [cO] at hi
   have key : ∀ k, k ≤ len → ∃ vs : List Opv, vs.length = k ∧ (∀ x ∈ vs, x.inn ∧ BoolsAt x.ks x.ko x.kc W) ∧ ∀ j, j < k * 4 → W.cell? (a'.add j) = (oflat vs)[j]? := by
     intro k
     induction k with
     | zero => intro _; exact ⟨[], rfl, by simp, fun j hj => by omega⟩
     | succ k ih =>
       intro hk
       obtain ⟨vs, h1, h2, h3⟩ := ih (by omega)
       obtain ⟨cs', hc, ht⟩ := hi k (by omega)
       obtain ⟨_, _, hat⟩ := World.cells?_some hc
       obtain ⟨x, hx, hin, hin2⟩ := open_op ht
       refine ⟨vs ++ [x], by simp [h1], ?_, fun j hj => ?_⟩
       · intro y hy
         rcases List.mem_append.1 hy with hy | hy
         · exact h2 y hy
         · simp only [List.mem_singleton] at hy; rw [hy]; exact ⟨hin, hin2⟩
       · rw [oflat_snoc]
         have hfl : (oflat vs).length = k * 4 := by rw [oflat_len, h1]
         rcases Nat.lt_or_ge j (k * 4) with hj2 | hj2
         · rw [List.getElem?_append_left (by omega)]; exact h3 j hj2
         · rw [List.getElem?_append_right (by omega), hfl, ← hx, ← hat (j - k * 4) (by omega)]
           congr 1
           rw [Go.Deep.add_add]
           congr 1; omega
   obtain ⟨vs, h1, h2, h3⟩ := key len (Nat.le_refl _)
   refine ⟨vs, ⟨⟨some a', cap, by rw [h1], by rw [h1]; exact hl, by unfold maxLen at hm; omega, fun hne => ?_⟩, fun x hx => (h2 x hx).2⟩, fun x hx => (h2 x hx).1⟩
   obtain ⟨x, xs, rfl⟩ := List.exists_cons_of_ne_nil hne
   have h0 := h3 0 (by rw [← h1]; simp)
   have e0 : a'.add 0 = a' := rfl
   have hf0 : (oflat (x :: xs))[0]? = some (.int .i64 x.kind) := rfl
   rw [e0, hf0] at h0
   obtain ⟨b, off, rfl, hlt⟩ := plain_addr h0
   refine ⟨b, off, rfl, hlt, fun j hj => ?_⟩
   have := h3 j (by rw [← h1]; exact hj)
   have e : (⟨b, off, none⟩ : Addr).add j = ⟨b, off + j, none⟩ := by unfold Addr.add; split <;> simp_all
   rw [e] at this; exact this
end
end Dsk
end Go.Proofs.YtkgbemkcnahkoaaGreatDoor
