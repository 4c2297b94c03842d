/- slices.Insert of one piece into a row of the call's own. Condition: no more than three thousand pieces. -/
import Derived.Test.YtoacombaddknfaaR4
import Derived.Test.YtoacombaddknfaaOj
import Derived.Shelf.Spec.SlicesInsert
import Derived.Lib.AppendZerosOnto
import Derived.Laws.NewBlocks
import Derived.Lib.Overlaps
namespace Go.Proofs.Ytoacombaddknfaa
open Go.RowKit
namespace Prd
open Spn (Sp hide At below_alloc Right)
open Cod (V RowAt S)
theorem run_copy_wide {P : Program} (w : World) (dT sT ty elem : TypeId) (b o dLen dCap : Nat) (a : Addr) (sLen sCap : Nat) (cs : List Value) (sz n : Nat)
    (hu : P.underlying dT = some (.slice elem)) (hs : (P.info? elem).map (·.size) = some sz) (hn : Nat.min sLen dLen = n) (hl0 : cs.length = n * sz)
    (hsrc : ∀ j v, cs[j]? = some v → w.cell? (a.add j) = some v) (hc : ∀ j, j < cs.length → (w.cell? ⟨b, o + j, none⟩).isSome = true) (hf : ∀ j, j < cs.length → w.frozen? ⟨b, o + j, none⟩ = false) (h1 : ∀ v ∈ cs, v.oneCell' = true) :
    (Builtin.copy_ #[dT, sT] ty #[.slice (some ⟨b, o, none⟩) dLen dCap, .slice (some a) sLen sCap]).run P w = .ok (goInt n) (w.setCells b o cs) := by
  have hl := run_loadCells_list (P := P) w a cs hsrc
  have hst := run_storeCells_cells (P := P) b o cs 0 w (by simpa using hc) (by simpa using hf) h1
  cases hq : P.info? elem with
  | none => simp [hq] at hs
  | some i =>
    have hi : i.size = sz := by simpa [hq] using hs
    simp [Builtin.copy_, run_underlying hu, Builtin.lenOf, Builtin.firstCells, sizeOf, typeInfo, hq, hi, hn, ← hl0, hl, hst]
theorem setCells_get (b : Nat) (vs : List Value) (o : Nat) (w : World) (h : ∀ j, j < vs.length → (w.cell? ⟨b, o + j, none⟩).isSome = true) (k : Nat) :
    (w.setCells b o vs).cell? ⟨b, k, none⟩ = if o ≤ k ∧ k < o + vs.length then vs[k - o]? else w.cell? ⟨b, k, none⟩ := by
  split
  · next hin =>
    have hk : k - o < vs.length := by omega
    have := World.cell?_setCells_in b vs o w h (k - o) hk
    rw [show o + (k - o) = k by omega] at this
    rw [this, List.getElem?_eq_getElem hk]
  · next hout =>
    exact World.cell?_setCells_out b vs o w ⟨b, k, none⟩ (fun _ _ => by show k < o ∨ o + vs.length ≤ k; omega)
theorem gb_trans {a w w' : World} {row : Option Nat} (h : a.grownBy w row) (k : w.grownBy w' row) : a.grownBy w' row :=
  ⟨k.os.trans h.os, k.tape.trans h.tape, k.output.trans h.output, Nat.le_trans h.size k.size, fun j hj hne => (k.block j (Nat.lt_of_lt_of_le hj h.size) hne).trans (h.block j hj hne)⟩
theorem grown_setCells (b : Nat) : ∀ (vs : List Value) (o : Nat) (w : World), w.grownBy (w.setCells b o vs) (some b)
  | [], _, w => World.grownBy.refl w _
  | v :: r, o, w => by
    have h1 : w.grownBy (w.setCell ⟨b, o, none⟩ v) (some b) := Lib.grownBy_setCell w b o v
    have h2 := grown_setCells b r (o + 1) (w.setCell ⟨b, o, none⟩ v)
    exact gb_trans h1 h2
theorem flat3_ins (l : List Pm) (y : Pm) (i : Nat) (hi : i ≤ l.length) (j : Nat) :
    (flat3 (l.take i ++ y :: l.drop i))[j]? = if j < i * 3 then (flat3 l)[j]? else if j < i * 3 + 3 then (flat3 [y])[j - i * 3]? else (flat3 l)[j - 3]? := by
  have e1 : flat3 l = flat3 (l.take i) ++ flat3 (l.drop i) := by rw [← flat3_app, List.take_append_drop]
  have e2 : flat3 (l.take i ++ y :: l.drop i) = flat3 (l.take i) ++ (flat3 [y] ++ flat3 (l.drop i)) := by rw [flat3_app, ← flat3_app [y]]; rfl
  have hl : (flat3 (l.take i)).length = i * 3 := by rw [flat3_len, List.length_take, Nat.min_eq_left hi]
  have hl2 : (flat3 [y]).length = 3 := rfl
  rw [e2, e1]
  split
  · next h => rw [List.getElem?_append_left (by omega), List.getElem?_append_left (by omega)]
  · next h =>
    split
    · next h2 => rw [List.getElem?_append_right (by omega), hl, List.getElem?_append_left (by omega)]
    · next h2 =>
      rw [List.getElem?_append_right (by omega), hl, List.getElem?_append_right (by omega), hl2, List.getElem?_append_right (by omega), hl]
      congr 1
      omega
theorem flat3_dropAt (l : List Pm) (i j : Nat) : (flat3 (l.drop i))[j]? = (flat3 l)[i * 3 + j]? := by rw [flat3_drop, List.getElem?_drop]
/-- Where a piece was laid in. -/
def InsP (l : List Pm) (y : Pm) (i : Nat) (sv : Value) (w : World) (e : Ending) (w' : World) : Prop := ∃ u, e = .returned u ∧ PcsAt (l.take i ++ y :: l.drop i) u w' ∧ w.grownBy w' sv.ownBlock
set_option maxHeartbeats 4000000 in
set_option maxRecDepth 100000 in
/-- At the end. -/
theorem ins_end {base base2 : Nat} {l : List Pm} {sv : Value} {w : World} (h : Row3 56 base l sv w) (y : Pm) (vv : Value) (hv : Row3 56 base2 [y] vv w) (hl : l.length ≤ 3000) (hb : base ≤ w.heap.size) :
    Calls Try.prog 41 #[sv, .int .i64 (l.length : Nat), vv] w fun e w' => InsP l y l.length sv w e w' := by
  have HA := hide h
  have HV := hide hv
  obtain ⟨so, sc, rfl, hcc, hcm⟩ := h.form
  obtain ⟨vg, vc, rfl, _, _, _, _⟩ := hv.held (by simp)
  have HTK := hide (show l.take l.length ++ y :: l.drop l.length = l ++ [y] from by simp)
  unfold InsP
  rw [HTK.out]
  obtain ⟨n, hn⟩ : ∃ n, n = l.length := ⟨_, rfl⟩
  rw [← hn] at HA hl hcc ⊢
  have HN := hide hn
  have g1 : (n : Int) ≤ (n : Int) := Int.le_refl _
  have hHm := hide (hv.pieces)
  have e1 : [y].length = 1 := rfl
  rw [e1] at hHm
  simp only [List.length_cons, List.length_nil, Nat.zero_add]
  clear h hv hn
  by_cases hsn : sc = n
  · subst hsn
    go_enter Try.func41, Try.ntmps41
    go_wp2_with (at_builtin; refine wpList_row3 (l := l) (m := [y]) tyP rfl _ _ rfl rfl rfl HA.out hHm.out (by rw [e1, ← HN.out]; omega) hb (fun u z hu hg hob => ?_))
    have HU := hide hu.pieces
    have HG := hide (show w.grownBy z (Value.slice so sc sc).ownBlock from hg)
    clear hu hg hob
    go_wp2_with fail
    go_ret
    exact ⟨_, rfl, HU.out, HG.out⟩
  · go_enter Try.func41, Try.ntmps41
    go_wp2_with (at_builtin; refine wpList_row3 (l := l) (m := [y]) tyP rfl _ _ rfl rfl rfl HA.out hHm.out (by rw [e1, ← HN.out]; omega) hb (fun u z hu hg hob => ?_))
    have HU := hide hu.pieces
    have HG := hide (show w.grownBy z (Value.slice so n sc).ownBlock from hg)
    clear hu hg hob
    go_wp2_with fail
    go_ret
    exact ⟨_, rfl, HU.out, HG.out⟩
set_option maxHeartbeats 8000000 in
set_option maxRecDepth 100000 in
/-- In its place: there is room. -/
theorem ins_room {base base2 : Nat} {l : List Pm} {g c : Nat} {w : World} (h : Row3 56 base l (.slice (some ⟨g, 0, none⟩) l.length c) w) (y : Pm) (vb vc : Nat) (hv : Row3 56 base2 [y] (.slice (some ⟨vb, 0, none⟩) 1 vc) w) (hne : vb ≠ g) (hl : l.length ≤ 3000) (i : Nat) (hi : i < l.length) (hroom : l.length + 1 ≤ c) :
    Calls Try.prog 41 #[.slice (some ⟨g, 0, none⟩) l.length c, .int .i64 (i : Nat), .slice (some ⟨vb, 0, none⟩) 1 vc] w fun e w' => InsP l y i (.slice (some ⟨g, 0, none⟩) l.length c) w e w' := by
  obtain ⟨cur, hg, hc63, hsz, htk⟩ : ∃ cur, w.heap[g]? = some (.cells cur 56 (0, 0)) ∧ c ≤ 9223372036854775807 ∧ cur.size = c * 3 ∧ cur.toList.take (l.length * 3) = flat3 l := by
    rcases h.2 with ⟨h9, _⟩ | ⟨g', cap, cur, hv9, _, hh, _, hm, h8, h7⟩
    · cases h9
    · simp only [Value.slice.injEq, Option.some.injEq, Addr.mk.injEq, true_and, and_true] at hv9
      obtain ⟨rfl, rfl⟩ := hv9
      exact ⟨cur, hh, by unfold maxLen at hm; omega, h8, h7⟩
  obtain ⟨vcur, hvg, hvsz, hvtk⟩ : ∃ cur, w.heap[vb]? = some (.cells cur 56 (0, 0)) ∧ 3 ≤ cur.size ∧ cur.toList.take 3 = flat3 [y] := by
    rcases hv.2 with ⟨h9, _⟩ | ⟨g', cap, cur, hv9, _, hh, hn1, hm, h8, h7⟩
    · cases h9
    · simp only [Value.slice.injEq, Option.some.injEq, Addr.mk.injEq, List.length_cons, List.length_nil, true_and, and_true] at hv9
      obtain ⟨rfl, rfl⟩ := hv9
      exact ⟨cur, hh, by rw [h8]; simp at hn1; omega, h7⟩
  have hgl := lt_of_block hg
  have hcell : ∀ j, j < c * 3 → w.cell? ⟨g, j, none⟩ = cur[j]? := fun j hj => by rw [cell_of_row _ _ _ _ _ (0, 0) hg]
  have hsome : ∀ j, j < c * 3 → (w.cell? ⟨g, j, none⟩).isSome = true := fun j hj => by rw [hcell j hj, Array.getElem?_eq_getElem (by omega)]; rfl
  have hl3 : ∀ j, j < l.length * 3 → w.cell? ⟨g, j, none⟩ = (flat3 l)[j]? := fun j hj => by
    rw [hcell j (by omega), ← htk, List.getElem?_take_of_lt hj]; simp
  have hfz : ∀ j, w.frozen? ⟨g, j, none⟩ = false := fun j => by simp [World.frozen?, hg]
  have hy3 : ∀ j u, (flat3 [y])[j]? = some u → w.cell? ⟨vb, j, none⟩ = some u := fun j u hj => by
    have hj3 : j < 3 := (List.getElem?_eq_some_iff.1 hj).1
    rw [cell_of_row _ _ _ _ _ (0, 0) hvg]
    rw [← hvtk, List.getElem?_take_of_lt hj3] at hj
    simpa using hj
  obtain ⟨n, hn⟩ : ∃ n, n = l.length := ⟨_, rfl⟩
  have hdl : (flat3 (l.drop i)).length = (n - i) * 3 := by rw [flat3_len, List.length_drop, hn]
  have hyl : (flat3 [y]).length = 3 := rfl
  have hinfo : (Try.prog.info? 56).map (·.size) = some 3 := by
    obtain ⟨i0, hi0, _, hz2, _⟩ := Spn.info_parts tyP.i
    rw [hi0]; simp [hz2]
  have hc1 : ∀ ty dc sc, (Builtin.copy_ #[22, 22] ty #[.slice (some ⟨g, (i + 1) * 3, none⟩) (n - i) dc, .slice (some ⟨g, i * 3, none⟩) (n + 1 - i) sc]).run Try.prog w.drew = .ok (goInt ((n - i : Nat) : Int)) (w.drew.setCells g ((i + 1) * 3) (flat3 (l.drop i))) := fun ty dc sc =>
    run_copy_wide w.drew 22 22 ty 56 g ((i + 1) * 3) (n - i) dc ⟨g, i * 3, none⟩ (n + 1 - i) sc (flat3 (l.drop i)) 3 (n - i) tyP.u hinfo (by simp only [Nat.min_def]; split <;> omega) hdl
      (fun j u hj => by
        have hj9 : j < (n - i) * 3 := by rw [← hdl]; exact (List.getElem?_eq_some_iff.1 hj).1
        rw [add_none]
        show w.cell? _ = _
        rw [hl3 _ (by rw [← hn]; omega), ← flat3_dropAt]; exact hj)
      (fun j hj => by show (w.cell? _).isSome = true; exact hsome _ (by rw [hdl] at hj; omega)) (fun j hj => hfz _) (flat3_one _)
  obtain ⟨W1, hW1⟩ : ∃ W1, W1 = w.drew.setCells g ((i + 1) * 3) (flat3 (l.drop i)) := ⟨_, rfl⟩
  have hs9 : ∀ j, j < (flat3 (l.drop i)).length → (w.drew.cell? ⟨g, (i + 1) * 3 + j, none⟩).isSome = true := fun j hj => by show (w.cell? _).isSome = true; exact hsome _ (by rw [hdl] at hj; omega)
  have hW1c : ∀ k, W1.cell? ⟨g, k, none⟩ = if (i + 1) * 3 ≤ k ∧ k < (i + 1) * 3 + (n - i) * 3 then (flat3 (l.drop i))[k - (i + 1) * 3]? else w.cell? ⟨g, k, none⟩ := fun k => by
    rw [hW1, setCells_get g _ _ _ hs9 k, hdl]
    rfl
  have hW1s : ∀ k, k < c * 3 → (W1.cell? ⟨g, k, none⟩).isSome = true := fun k hk => by
    rw [hW1c]
    split
    · rw [List.getElem?_eq_getElem (by rw [hdl]; omega)]; rfl
    · exact hsome k hk
  have hW1f : ∀ k, W1.frozen? ⟨g, k, none⟩ = false := fun k => by rw [hW1, World.frozen?_setCells]; exact hfz k
  have hW1v : ∀ j u, (flat3 [y])[j]? = some u → W1.cell? ⟨vb, j, none⟩ = some u := fun j u hj => by
    rw [hW1, World.cell?_setCells_out _ _ _ _ _ (fun h9 _ => absurd h9 hne)]
    exact hy3 j u hj
  have hc2 : ∀ (W : World), (∀ x, W.cell? x = W1.cell? x) → (∀ x, W.frozen? x = W1.frozen? x) → ∀ ty dc, (Builtin.copy_ #[22, 22] ty #[.slice (some ⟨g, i * 3, none⟩) (n + 1 - i) dc, .slice (some ⟨vb, 0, none⟩) 1 vc]).run Try.prog W = .ok (goInt 1) (W.setCells g (i * 3) (flat3 [y])) := fun W hWc hWf ty dc =>
    run_copy_wide W 22 22 ty 56 g (i * 3) (n + 1 - i) dc ⟨vb, 0, none⟩ 1 vc (flat3 [y]) 3 1 tyP.u hinfo (by simp only [Nat.min_def]; split <;> omega) rfl
      (fun j u hj => by rw [add_none, hWc, Nat.zero_add]; exact hW1v j u hj)
      (fun j hj => by rw [hWc]; exact hW1s _ (by rw [hyl] at hj; omega)) (fun j hj => by rw [hWf]; exact hW1f _) (flat3_one _)
  have HFIN := hide (show ∀ (W : World), (∀ x, W.cell? x = W1.cell? x) → w.grownBy W (some g) → PcsAt (l.take i ++ y :: l.drop i) (.slice (some ⟨g, 0, none⟩) (n + 1) c) (W.setCells g (i * 3) (flat3 [y])) ∧ w.grownBy (W.setCells g (i * 3) (flat3 [y])) (some g) from fun W hWc hWg => by
    have hgr := gb_trans hWg (grown_setCells g (flat3 [y]) (i * 3) W)
    refine ⟨⟨_, c, ?_, ?_, hc63, .inr ⟨g, 0, rfl, Nat.lt_of_lt_of_le hgl hgr.size, fun j hj => ?_⟩⟩, hgr⟩
    · rw [List.length_append, List.length_take, List.length_cons, List.length_drop, ← hn]
      congr 1
      omega
    · rw [List.length_append, List.length_take, List.length_cons, List.length_drop]; omega
    · have hj9 : j < (n + 1) * 3 := by
        rw [List.length_append, List.length_take, List.length_cons, List.length_drop, ← hn] at hj
        omega
      rw [Nat.zero_add, setCells_get g _ _ _ (fun k hk => by rw [hWc]; exact hW1s _ (by rw [hyl] at hk; omega)) j, hyl, flat3_ins l y i (by omega) j, hWc, hW1c]
      by_cases h1 : j < i * 3
      · rw [if_neg (by omega), if_neg (by omega), if_pos h1, hl3 j (by rw [← hn]; omega)]
      · rw [if_neg h1]
        by_cases h2 : j < i * 3 + 3
        · rw [if_pos (by omega), if_pos h2]
        · rw [if_neg (by omega), if_neg h2, if_pos (by omega), flat3_dropAt]
          congr 1
          omega)
  have HG1 := hide (show w.grownBy W1 (some g) from by
    rw [hW1]
    exact gb_trans (show w.grownBy w.drew (some g) from ⟨rfl, rfl, rfl, Nat.le_refl _, fun _ _ _ => rfl⟩) (grown_setCells g _ _ _))
  have hov : ∀ lb cb, (callFunc 57 #[.slice (some ⟨vb, 0, none⟩) 1 vc, .slice (some ⟨g, (i + 1) * 3, none⟩) lb cb]).run Try.prog w = .ok (.value (.bool false)) w := fun lb cb => by
    rw [run_callFunc_extern Try.func57 (by kernel_rfl) (by kernel_rfl) (by kernel_rfl) (e := Extern.SlicesOverlaps.overlaps #[22, 22] #[4]) (by kernel_rfl),
      Lib.run_overlaps_apart w 22 4 56 tyP.u 3 Try.sizeOf56 ⟨vb, 0, none⟩ ⟨g, (i + 1) * 3, none⟩ 1 vc lb cb hne 56 56 vcur.size cur.size (by simp [World.shape?, hvg]) (by simp [World.shape?, hg]) (by rw [hsz]; omega) (by simp [World.frozen?, hvg]) (by simp [World.frozen?, hvg])]
    rfl
  rw [← hW1] at hc1
  have mixed : Try.prog.follows Departure.mixedOrders = true := by kernel_rfl
  have hz2 : ¬ ((i : Int) = (n : Int)) := by omega
  have hz3 : ¬ ((c : Int) < (n : Int) + 1) := by omega
  have hw1 : IntKind.i64.wrap ((i : Int) + 1) = (i : Int) + 1 := by rw [IntKind.wrap_i64]; omega
  have hw2 : IntKind.i64.wrap ((n : Int) + 1) = (n : Int) + 1 := by rw [IntKind.wrap_i64]; omega
  have hb1 : (0 : Int) ≤ (i : Int) + 1 := by omega
  have hb2 : ¬ (c = i + 1) := by omega
  have hb3 : (i : Int) ≤ (n : Int) + 1 := by omega
  have hb4 : ¬ (c = i) := by omega
  have hb5 : (n : Int) + 1 ≤ (c : Int) := by omega
  have hb6 : (i : Int) + 1 ≤ (n : Int) + 1 := by omega
  have hb7 : (i : Int) ≤ (n : Int) := by omega
  have htn : ((i : Int) + 1).toNat = i + 1 := by omega
  have htn2 : ((n : Int) + 1).toNat = n + 1 := by omega
  unfold InsP
  simp only [Value.ownBlock]
  rw [← hn]
  clear hcell hsome hl3 hfz hy3 hdl hyl hs9 hW1c hW1s hW1f hW1v hW1 hg hvg hsz htk hvtk hvsz h hv hn hinfo hgl
  go_enter Try.func41, Try.ntmps41
  go_wp2_with (simp only [hov])
  go_region_law_o (refine step_copy_runI rfl _ _ 22 22 rfl _ _ (by simp [Act.eval, Act.put]) (by simp [Act.eval, Act.put]) (hc1 _ _ _) ?_)
  go_wp2_with (at_builtin; refine wpList_copy_runI _ rfl _ _ 22 22 rfl _ _ rfl rfl (hc2 _ (fun _ => rfl) (fun _ => rfl) _ _) ?_)
  go_ret
  have hf := HFIN.out _ (fun _ => rfl) HG1.out
  exact ⟨_, rfl, hf.1, hf.2⟩
theorem gb_new {w W W' : World} {N : Nat} {row : Option Nat} (h : w.grownBy W row) (k : W.grownBy W' (some N)) (hN : w.heap.size ≤ N) : w.grownBy W' row :=
  ⟨k.os.trans h.os, k.tape.trans h.tape, k.output.trans h.output, Nat.le_trans h.size k.size, fun j hj hne => (k.block j (Nat.lt_of_lt_of_le hj h.size) (fun e => by have := Option.some.inj e; omega)).trans (h.block j hj hne)⟩
theorem flat3_takeAt (l : List Pm) (i j : Nat) (hj : j < i * 3) : (flat3 (l.take i))[j]? = (flat3 l)[j]? := by
  have e1 : flat3 l = flat3 (l.take i) ++ flat3 (l.drop i) := by rw [← flat3_app, List.take_append_drop]
  rw [e1]
  rcases Nat.lt_or_ge j (flat3 (l.take i)).length with h | h
  · rw [List.getElem?_append_left h]
  · have h2 : (flat3 (l.take i)).length = min i l.length * 3 := by rw [flat3_len, List.length_take]
    have h3 : l.length ≤ i := by omega
    rw [List.drop_eq_nil_of_le h3, show flat3 ([] : List Pm) = [] from rfl, List.append_nil]
set_option maxHeartbeats 8000000 in
set_option maxRecDepth 100000 in
/-- In its place: there is no room. -/
theorem ins_grow {base base2 : Nat} {l : List Pm} {g c : Nat} {w : World} (h : Row3 56 base l (.slice (some ⟨g, 0, none⟩) l.length c) w) (y : Pm) (vb vc : Nat) (hv : Row3 56 base2 [y] (.slice (some ⟨vb, 0, none⟩) 1 vc) w) (hl : l.length ≤ 3000) (i : Nat) (hi : i < l.length) (hroom : c < l.length + 1) :
    Calls Try.prog 41 #[.slice (some ⟨g, 0, none⟩) l.length c, .int .i64 (i : Nat), .slice (some ⟨vb, 0, none⟩) 1 vc] w fun e w' => InsP l y i (.slice (some ⟨g, 0, none⟩) l.length c) w e w' := by
  have hpa := PcsAt.cells h.pieces
  have hpv := PcsAt.cells hv.pieces
  have hgl : g < w.heap.size := (h.lt g rfl).2
  have hvl : vb < w.heap.size := (hv.lt vb rfl).2
  have hcl : l.length ≤ c := by
    obtain ⟨_, cap, e, h1, _⟩ := h.form
    simp only [Value.slice.injEq, true_and] at e
    omega
  have hl3 : ∀ j u, (flat3 l)[j]? = some u → w.cell? ⟨g, j, none⟩ = some u := fun j u hj => by have := hpa j u hj; rw [add_none, Nat.zero_add] at this; exact this
  have hy3 : ∀ j u, (flat3 [y])[j]? = some u → w.cell? ⟨vb, j, none⟩ = some u := fun j u hj => by have := hpv j u hj; rw [add_none, Nat.zero_add] at this; exact this
  obtain ⟨n, hn⟩ : ∃ n, n = l.length := ⟨_, rfl⟩
  have hdl : (flat3 (l.drop i)).length = (n - i) * 3 := by rw [flat3_len, List.length_drop, hn]
  have htl : (flat3 (l.take i)).length = i * 3 := by rw [flat3_len, List.length_take]; omega
  have hyl : (flat3 [y]).length = 3 := rfl
  obtain ⟨i0, hi0, hz0, hzs, hzb⟩ := Spn.info_parts tyP.i
  have hinfo : (Try.prog.info? 56).map (·.size) = some 3 := by rw [hi0]; simp [hzs]
  have hkk : (n : Int) + 1 - (i : Int) = ((n + 1 - i : Nat) : Int) := by omega
  have hik : i + (n + 1 - i) = n + 1 := by omega
  have hold : (Builtin.firstCells i0.size i (.slice (some ⟨g, 0, none⟩) i c)).run Try.prog w.drew = .ok (flat3 (l.take i)).toArray w.drew := by
    rw [hzs]
    exact run_firstCells_some w.drew 3 i ⟨g, 0, none⟩ i c (flat3 (l.take i)) htl (fun j v hj => by
      have hj3 : j < i * 3 := by rw [← htl]; exact (List.getElem?_eq_some_iff.1 hj).1
      rw [flat3_takeAt l i j hj3] at hj
      rw [add_none, Nat.zero_add]
      exact hl3 j v hj)
  obtain ⟨z, hz⟩ : ∃ z : Value, z = .agg #[.int .i64 0, .int .i64 0, .slice none 0 0] := ⟨_, rfl⟩
  rw [← hz] at hz0
  have hzc : z.cells.size = 3 := by rw [hz]; rfl
  have hrz : ∀ ty, (Builtin.append_ #[22, 3] ty #[.slice (some ⟨g, 0, none⟩) i c, .int .i64 ((n : Int) + 1 - (i : Int))]).run Try.prog w =
      .ok (.slice (some ⟨w.heap.size, 0, none⟩) (n + 1) (grownCap w (n + 1) c 56)) (w.drew.alloc (.cells ((flat3 (l.take i)).toArray ++ Builtin.zeroCells z.cells (n + 1 - i) ++ Builtin.zeroCells z.cells (grownCap w (n + 1) c 56 - (n + 1))) 56)) := fun ty => by
    have h := Lib.run_append_grow_zeros w 22 3 ty 56 i0 z .i64 .i64 tyP.u Try.underlying3 hi0 hz0 (some ⟨g, 0, none⟩) i c (flat3 (l.take i)) hold (n + 1 - i) (by omega) (by omega) (by omega) (by omega) (by rw [hzb]; omega) (by rw [hzb, hik]; exact growslice_fits (by omega) (by omega))
    rw [hik] at h
    rw [hkk]
    exact h
  obtain ⟨G, hG⟩ : ∃ G, G = grownCap w (n + 1) c 56 := ⟨_, rfl⟩
  obtain ⟨ROW, hROW⟩ : ∃ ROW : Array Value, ROW = (flat3 (l.take i)).toArray ++ Builtin.zeroCells z.cells (n + 1 - i) ++ Builtin.zeroCells z.cells (G - (n + 1)) := ⟨_, rfl⟩
  rw [← hG] at hrz
  rw [← hROW] at hrz
  have hRl : (n + 1) * 3 ≤ ROW.size := by
    rw [hROW, Array.size_append, Array.size_append, size_zeroCells, size_zeroCells, hzc]
    simp only [List.size_toArray, htl]
    omega
  have hRt : ∀ j, j < i * 3 → ROW[j]? = (flat3 l)[j]? := fun j hj => by
    rw [hROW, Array.append_assoc, Array.getElem?_append_left (by simp only [List.size_toArray, htl]; omega), List.getElem?_toArray, flat3_takeAt l i j hj]
  have hGn : n + 1 ≤ G := by rw [hG]; exact grownCap_ge w _ _ _
  have hG63 : G ≤ 9223372036854775807 := by
    have := grownCap_le_maxLen w (n + 1) c 56 (by unfold maxLen; omega)
    rw [← hG] at this
    unfold maxLen at this
    omega
  obtain ⟨N, hN⟩ : ∃ N, N = w.heap.size := ⟨_, rfl⟩
  obtain ⟨W1, hW1⟩ : ∃ W1, W1 = w.drew.alloc (.cells ROW 56) := ⟨_, rfl⟩
  rw [← hW1, ← hN] at hrz
  have hNg : W1.heap[N]? = some (.cells ROW 56 (0, 0)) := by rw [hW1, hN]; exact heap_alloc_new w.drew _
  have hNc : ∀ j, W1.cell? ⟨N, j, none⟩ = ROW[j]? := fun j => by rw [cell_of_row _ _ _ _ _ (0, 0) hNg]
  have hNs : ∀ j, j < (n + 1) * 3 → (W1.cell? ⟨N, j, none⟩).isSome = true := fun j hj => by rw [hNc, Array.getElem?_eq_getElem (by omega)]; rfl
  have hNf : ∀ j, W1.frozen? ⟨N, j, none⟩ = false := fun j => by simp [World.frozen?, hNg]
  have hOld : ∀ b j, b < w.heap.size → W1.cell? ⟨b, j, none⟩ = w.cell? ⟨b, j, none⟩ := fun b j hb => by rw [hW1, World.cell?_alloc_past (w := w.drew) _ b j hb]; rfl
  have hGW1 : w.grownBy W1 (some g) := by
    rw [hW1]
    exact gb_trans (show w.grownBy w.drew (some g) from ⟨rfl, rfl, rfl, Nat.le_refl _, fun _ _ _ => rfl⟩) (World.grownBy_alloc _ _ _)
  have hc1 : ∀ (W : World), (∀ x, W.cell? x = W1.cell? x) → (∀ x, W.frozen? x = W1.frozen? x) → ∀ ty dc, (Builtin.copy_ #[22, 22] ty #[.slice (some ⟨N, i * 3, none⟩) (n + 1 - i) dc, .slice (some ⟨vb, 0, none⟩) 1 vc]).run Try.prog W = .ok (goInt 1) (W.setCells N (i * 3) (flat3 [y])) := fun W hWc hWf ty dc =>
    run_copy_wide W 22 22 ty 56 N (i * 3) (n + 1 - i) dc ⟨vb, 0, none⟩ 1 vc (flat3 [y]) 3 1 tyP.u hinfo (by simp only [Nat.min_def]; split <;> omega) rfl
      (fun j u hj => by rw [add_none, hWc, Nat.zero_add, hOld vb j hvl]; exact hy3 j u hj)
      (fun j hj => by rw [hWc]; exact hNs _ (by rw [hyl] at hj; omega)) (fun j hj => by rw [hWf]; exact hNf _) (flat3_one _)
  have hW2c : ∀ (W : World), (∀ x, W.cell? x = W1.cell? x) → ∀ k, (W.setCells N (i * 3) (flat3 [y])).cell? ⟨N, k, none⟩ = if i * 3 ≤ k ∧ k < i * 3 + 3 then (flat3 [y])[k - i * 3]? else ROW[k]? := fun W hWc k => by
    rw [setCells_get N _ _ _ (fun j hj => by rw [hWc]; exact hNs _ (by rw [hyl] at hj; omega)) k, hyl, hWc, hNc]
  have hW2s : ∀ (W : World), (∀ x, W.cell? x = W1.cell? x) → ∀ k, k < (n + 1) * 3 → ((W.setCells N (i * 3) (flat3 [y])).cell? ⟨N, k, none⟩).isSome = true := fun W hWc k hk => by
    rw [hW2c W hWc]
    split
    · rw [List.getElem?_eq_getElem (by rw [hyl]; omega)]; rfl
    · rw [Array.getElem?_eq_getElem (by omega)]; rfl
  have hc2 : ∀ (W U : World), (∀ x, W.cell? x = W1.cell? x) → (∀ x, W.frozen? x = W1.frozen? x) → (∀ x, U.cell? x = (W.setCells N (i * 3) (flat3 [y])).cell? x) → (∀ x, U.frozen? x = (W.setCells N (i * 3) (flat3 [y])).frozen? x) → ∀ ty dc sc, (Builtin.copy_ #[22, 22] ty #[.slice (some ⟨N, (i + 1) * 3, none⟩) (n - i) dc, .slice (some ⟨g, i * 3, none⟩) (n - i) sc]).run Try.prog U = .ok (goInt ((n - i : Nat) : Int)) (U.setCells N ((i + 1) * 3) (flat3 (l.drop i))) := fun W U hWc hWf hUc hUf ty dc sc =>
    run_copy_wide U 22 22 ty 56 N ((i + 1) * 3) (n - i) dc ⟨g, i * 3, none⟩ (n - i) sc (flat3 (l.drop i)) 3 (n - i) tyP.u hinfo (by simp only [Nat.min_def]; split <;> omega) hdl
      (fun j u hj => by
        rw [add_none, hUc, World.cell?_setCells_out N _ _ _ _ (fun h9 _ => by have h8 : g = N := h9; omega), hWc, hOld g _ hgl]
        rw [flat3_dropAt] at hj
        exact hl3 _ u hj)
      (fun j hj => by rw [hUc]; exact hW2s W hWc _ (by rw [hdl] at hj; omega)) (fun j hj => by rw [hUf, World.frozen?_setCells, hWf]; exact hNf _) (flat3_one _)
  have HFIN := hide (show ∀ (W U : World), (∀ x, W.cell? x = W1.cell? x) → (∀ x, U.cell? x = (W.setCells N (i * 3) (flat3 [y])).cell? x) → N < U.heap.size → w.grownBy U (some g) → PcsAt (l.take i ++ y :: l.drop i) (.slice (some ⟨N, 0, none⟩) (n + 1) G) (U.setCells N ((i + 1) * 3) (flat3 (l.drop i))) ∧ w.grownBy (U.setCells N ((i + 1) * 3) (flat3 (l.drop i))) (some g) from fun W U hWc hUc hNU hUg => by
    have hgr := gb_new hUg (grown_setCells N (flat3 (l.drop i)) ((i + 1) * 3) U) (by omega)
    refine ⟨⟨_, G, ?_, ?_, hG63, .inr ⟨N, 0, rfl, Nat.lt_of_lt_of_le hNU (grown_setCells N (flat3 (l.drop i)) ((i + 1) * 3) U).size, fun j hj => ?_⟩⟩, hgr⟩
    · rw [List.length_append, List.length_take, List.length_cons, List.length_drop, ← hn]
      congr 1
      omega
    · rw [List.length_append, List.length_take, List.length_cons, List.length_drop]; omega
    · have hj9 : j < (n + 1) * 3 := by
        rw [List.length_append, List.length_take, List.length_cons, List.length_drop, ← hn] at hj
        omega
      rw [Nat.zero_add, setCells_get N _ _ _ (fun k hk => by rw [hUc]; exact hW2s W hWc _ (by rw [hdl] at hk; omega)) j, hdl, flat3_ins l y i (by omega) j, hUc, hW2c W hWc]
      by_cases h1 : j < i * 3
      · rw [if_neg (by omega), if_neg (by omega), if_pos h1, hRt j h1]
      · rw [if_neg h1]
        by_cases h2 : j < i * 3 + 3
        · rw [if_neg (by omega), if_pos (by omega), if_pos h2]
        · rw [if_pos (by omega), if_neg h2, flat3_dropAt]
          congr 1
          omega)
  have HW1 := hide hGW1
  have HNL := hide (show ∀ U : World, U.heap.size = W1.heap.size → N < U.heap.size from fun U e => by rw [e]; exact lt_of_block hNg)
  have mixed : Try.prog.follows Departure.mixedOrders = true := by kernel_rfl
  have hz2 : ¬ ((i : Int) = (n : Int)) := by omega
  have hz3 : (c : Int) < (n : Int) + 1 := by omega
  have hw1 : IntKind.i64.wrap ((i : Int) + 1) = (i : Int) + 1 := by rw [IntKind.wrap_i64]; omega
  have hw2 : IntKind.i64.wrap ((n : Int) + 1) = (n : Int) + 1 := by rw [IntKind.wrap_i64]; omega
  have hw3 : IntKind.i64.wrap ((n : Int) + 1 - (i : Int)) = (n : Int) + 1 - (i : Int) := by rw [IntKind.wrap_i64]; omega
  have hb1 : (0 : Int) ≤ (i : Int) + 1 := by omega
  have hb2 : ¬ (G = i + 1) := by omega
  have hb3 : (i : Int) ≤ (n : Int) + 1 := by omega
  have hb4 : ¬ (c = i) := by omega
  have hb5 : ¬ (G = i) := by omega
  have hb6 : (i : Int) + 1 ≤ (n : Int) + 1 := by omega
  have hb7 : (i : Int) ≤ (n : Int) := by omega
  have hb8 : (i : Int) ≤ (c : Int) := by omega
  have htn : ((i : Int) + 1).toNat = i + 1 := by omega
  have htn2 : ((n : Int) + 1).toNat = n + 1 := by omega
  unfold InsP
  simp only [Value.ownBlock]
  rw [← hn]
  have HN := hide hN
  clear hpa hpv hcl hl3 hy3 hdl htl hyl hi0 hz0 hzs hzb hinfo hkk hik hold hz hzc hG hROW hRl hRt hW1 hNg hNc hNs hNf hOld hGW1 hW2c hW2s h hv hn hgl hvl hN hroom
  go_enter Try.func41, Try.ntmps41
  go_wp2_with (first
    | (at_builtin; refine Lib.wpList_append_run _ rfl _ _ _ _ rfl _ _ rfl rfl _ _ (hrz _) ?_)
    | (at_builtin; refine wpList_copy_runI _ rfl _ _ 22 22 rfl _ _ rfl rfl (hc1 _ (fun _ => rfl) (fun _ => rfl) _ _) ?_))
  go_region_law_o (refine step_copy_runI rfl _ _ 22 22 rfl (.slice (some ⟨N, (i + 1) * 3, none⟩) (n - i) (G - (i + 1))) (.slice (some ⟨g, i * 3, none⟩) (n - i) (c - i)) (by simp [Act.eval, Act.put]) (by simp [Act.eval, Act.put]) (hc2 W1 ((W1.setCells N (i * 3) (flat3 [y])).drew) (fun _ => rfl) (fun _ => rfl) (fun _ => rfl) (fun _ => rfl) 3 (G - (i + 1)) (c - i)) ?_)
  go_wp2
  go_ret
  have hf := HFIN.out W1 ((W1.setCells N (i * 3) (flat3 [y])).drew) (fun _ => rfl) (fun _ => rfl) (Nat.lt_of_lt_of_le (HNL.out W1 rfl) (grown_setCells N (flat3 [y]) (i * 3) W1).size) (gb_trans (gb_new HW1.out (grown_setCells N (flat3 [y]) (i * 3) W1) (by have := HN.out; omega)) (show (W1.setCells N (i * 3) (flat3 [y])).grownBy (W1.setCells N (i * 3) (flat3 [y])).drew (some g) from ⟨rfl, rfl, rfl, Nat.le_refl _, fun _ _ _ => rfl⟩))
  exact ⟨_, rfl, hf.1, hf.2⟩
end Prd
end Go.Proofs.Ytoacombaddknfaa
