/- slices.Insert of one item into a row. Condition: no more than three thousand items. -/
import Derived.Test.YtapdhelioecneaaW4
import Derived.Shelf.Spec.SlicesInsert
import Derived.Lib.AppendZerosOnto
import Derived.Laws.NewBlocks
import Derived.Lib.Overlaps
namespace Go.Proofs.Ytapdhelioecneaa
open Go.RowKit
namespace Idx
theorem flat_ins (l : List It) (y : It) (i : Nat) (hi : i ≤ l.length) (j : Nat) :
    (flat (l.take i ++ y :: l.drop i))[j]? = if j < i * 4 then (flat l)[j]? else if j < i * 4 + 4 then (flat [y])[j - i * 4]? else (flat l)[j - 4]? := by
  have e1 : flat l = flat (l.take i) ++ flat (l.drop i) := by rw [← flat_app, List.take_append_drop]
  have e2 : flat (l.take i ++ y :: l.drop i) = flat (l.take i) ++ (flat [y] ++ flat (l.drop i)) := by rw [flat_app, ← flat_app [y]]; rfl
  have hl : (flat (l.take i)).length = i * 4 := by rw [flat_len, List.length_take, Nat.min_eq_left hi]
  have hl2 : (flat [y]).length = 4 := rfl
  rw [e2, e1]
  split
  · next h => rw [List.getElem?_append_left (by omega), List.getElem?_append_left (by omega)]
  · next h =>
    split
    · next h2 => rw [List.getElem?_append_right (by omega), hl, List.getElem?_append_left (by omega)]
    · next h2 =>
      rw [List.getElem?_append_right (by omega), hl, List.getElem?_append_right (by omega), hl2, List.getElem?_append_right (by omega), hl]
      congr 1
      omega
theorem flat_dropAt (l : List It) (i j : Nat) : (flat (l.drop i))[j]? = (flat l)[i * 4 + j]? := by rw [flat_drop, List.getElem?_drop]
/-- Where an item was laid in. -/
def InsP (l : List It) (y : It) (i : Nat) (sv : Value) (w : World) (e : Ending) (w' : World) : Prop := ∃ u, e = .returned u ∧ Row4 31 0 (l.take i ++ y :: l.drop i) u w' ∧ w.grownBy w' sv.ownBlock ∧ (u.ownBlock = sv.ownBlock ∨ u.ownBlock = some w.heap.size)
set_option maxHeartbeats 4000000 in
set_option maxRecDepth 100000 in
/-- At the end. -/
theorem ins_end {base base2 : Nat} {l : List It} {sv : Value} {w : World} (h : Row4 31 base l sv w) (y : It) (vv : Value) (hv : Row4 31 base2 [y] vv w) (hl : l.length ≤ 3000) (hb : base ≤ w.heap.size) :
    Calls Try.prog 48 #[sv, .int .i64 (l.length : Nat), vv] w fun e w' => InsP l y l.length sv w e w' := by
  have HA := hide h
  have HV := hide hv
  obtain ⟨so, sc, rfl, hcc, hcm⟩ := h.form
  obtain ⟨vg, vc, rfl, _, _, _, _⟩ := hv.held (by simp)
  have HTK := hide (show l.take l.length ++ y :: l.drop l.length = l ++ [y] from by simp)
  unfold InsP
  rw [HTK.out]
  obtain ⟨n, hn⟩ : ∃ n, n = l.length := ⟨_, rfl⟩
  rw [← hn] at HA hl hcc ⊢
  have HN := hide hn
  have g1 : (n : Int) ≤ (n : Int) := Int.le_refl _
  have hHm := hide (hv.items)
  have e1 : [y].length = 1 := rfl
  rw [e1] at hHm
  simp only [List.length_cons, List.length_nil, Nat.zero_add]
  clear h hv hn
  by_cases hsn : sc = n
  · subst hsn
    go_enter Try.func48, Try.ntmps48
    go_wp2_with (at_builtin; refine wpList_row4 (l := l) (m := [y]) tyX rfl _ _ rfl rfl rfl HA.out hHm.out (by rw [e1, ← HN.out]; omega) hb (fun u z hu hg hob => ?_))
    have HU := hide (show Row4 31 0 (l ++ [y]) u z from hu.mono (Nat.zero_le _))
    have HO := hide hob
    have HG := hide (show w.grownBy z (Value.slice so sc sc).ownBlock from hg)
    clear hu hg hob
    go_wp2_with fail
    go_ret
    exact ⟨_, rfl, HU.out, HG.out, HO.out⟩
  · go_enter Try.func48, Try.ntmps48
    go_wp2_with (at_builtin; refine wpList_row4 (l := l) (m := [y]) tyX rfl _ _ rfl rfl rfl HA.out hHm.out (by rw [e1, ← HN.out]; omega) hb (fun u z hu hg hob => ?_))
    have HU := hide (show Row4 31 0 (l ++ [y]) u z from hu.mono (Nat.zero_le _))
    have HO := hide hob
    have HG := hide (show w.grownBy z (Value.slice so n sc).ownBlock from hg)
    clear hu hg hob
    go_wp2_with fail
    go_ret
    exact ⟨_, rfl, HU.out, HG.out, HO.out⟩
set_option maxHeartbeats 8000000 in
set_option maxRecDepth 100000 in
/-- In its place: there is room. -/
theorem ins_room {base base2 : Nat} {l : List It} {g c : Nat} {w : World} (h : Row4 31 base l (.slice (some ⟨g, 0, none⟩) l.length c) w) (y : It) (vb vc : Nat) (hv : Row4 31 base2 [y] (.slice (some ⟨vb, 0, none⟩) 1 vc) w) (hne : vb ≠ g) (hl : l.length ≤ 3000) (i : Nat) (hi : i < l.length) (hroom : l.length + 1 ≤ c) :
    Calls Try.prog 48 #[.slice (some ⟨g, 0, none⟩) l.length c, .int .i64 (i : Nat), .slice (some ⟨vb, 0, none⟩) 1 vc] w fun e w' => InsP l y i (.slice (some ⟨g, 0, none⟩) l.length c) w e w' := by
  obtain ⟨cur, hg, hc63, hsz, htk⟩ : ∃ cur, w.heap[g]? = some (.cells cur 31 (0, 0)) ∧ c ≤ 9223372036854775807 ∧ cur.size = c * 4 ∧ cur.toList.take (l.length * 4) = flat l := by
    rcases h.2 with ⟨h9, _⟩ | ⟨g', cap, cur, hv9, _, hh, _, hm, h8, h7⟩
    · cases h9
    · simp only [Value.slice.injEq, Option.some.injEq, Addr.mk.injEq, true_and, and_true] at hv9
      obtain ⟨rfl, rfl⟩ := hv9
      exact ⟨cur, hh, by unfold maxLen at hm; omega, h8, h7⟩
  obtain ⟨vcur, hvg, hvsz, hvtk⟩ : ∃ cur, w.heap[vb]? = some (.cells cur 31 (0, 0)) ∧ 4 ≤ cur.size ∧ cur.toList.take 4 = flat [y] := by
    rcases hv.2 with ⟨h9, _⟩ | ⟨g', cap, cur, hv9, _, hh, hn1, hm, h8, h7⟩
    · cases h9
    · simp only [Value.slice.injEq, Option.some.injEq, Addr.mk.injEq, List.length_cons, List.length_nil, true_and, and_true] at hv9
      obtain ⟨rfl, rfl⟩ := hv9
      exact ⟨cur, hh, by rw [h8]; simp at hn1; omega, h7⟩
  have hgl := lt_of_block hg
  have hcell : ∀ j, j < c * 4 → w.cell? ⟨g, j, none⟩ = cur[j]? := fun j hj => by rw [cell_of_row _ _ _ _ _ (0, 0) hg]
  have hsome : ∀ j, j < c * 4 → (w.cell? ⟨g, j, none⟩).isSome = true := fun j hj => by rw [hcell j hj, Array.getElem?_eq_getElem (by omega)]; rfl
  have hl3 : ∀ j, j < l.length * 4 → w.cell? ⟨g, j, none⟩ = (flat l)[j]? := fun j hj => by
    rw [hcell j (by omega), ← htk, List.getElem?_take_of_lt hj]; simp
  have hfz : ∀ j, w.frozen? ⟨g, j, none⟩ = false := fun j => by simp [World.frozen?, hg]
  have hy3 : ∀ j u, (flat [y])[j]? = some u → w.cell? ⟨vb, j, none⟩ = some u := fun j u hj => by
    have hj3 : j < 4 := (List.getElem?_eq_some_iff.1 hj).1
    rw [cell_of_row _ _ _ _ _ (0, 0) hvg]
    rw [← hvtk, List.getElem?_take_of_lt hj3] at hj
    simpa using hj
  obtain ⟨n, hn⟩ : ∃ n, n = l.length := ⟨_, rfl⟩
  have hdl : (flat (l.drop i)).length = (n - i) * 4 := by rw [flat_len, List.length_drop, hn]
  have hyl : (flat [y]).length = 4 := rfl
  have hinfo : (Try.prog.info? 31).map (·.size) = some 4 := by
    obtain ⟨i0, hi0, _, hz2, _⟩ := info_parts tyX.i
    rw [hi0]; simp [hz2]
  have hc1 : ∀ ty dc sc, (Builtin.copy_ #[42, 42] ty #[.slice (some ⟨g, (i + 1) * 4, none⟩) (n - i) dc, .slice (some ⟨g, i * 4, none⟩) (n + 1 - i) sc]).run Try.prog w.drew = .ok (goInt ((n - i : Nat) : Int)) (w.drew.setCells g ((i + 1) * 4) (flat (l.drop i))) := fun ty dc sc =>
    run_copy_wide w.drew 42 42 ty 31 g ((i + 1) * 4) (n - i) dc ⟨g, i * 4, none⟩ (n + 1 - i) sc (flat (l.drop i)) 4 (n - i) tyX.u hinfo (by simp only [Nat.min_def]; split <;> omega) hdl
      (fun j u hj => by
        have hj9 : j < (n - i) * 4 := by rw [← hdl]; exact (List.getElem?_eq_some_iff.1 hj).1
        rw [add_none]
        show w.cell? _ = _
        rw [hl3 _ (by rw [← hn]; omega), ← flat_dropAt]; exact hj)
      (fun j hj => by show (w.cell? _).isSome = true; exact hsome _ (by rw [hdl] at hj; omega)) (fun j hj => hfz _) (flat_one _)
  obtain ⟨W1, hW1⟩ : ∃ W1, W1 = w.drew.setCells g ((i + 1) * 4) (flat (l.drop i)) := ⟨_, rfl⟩
  have hs9 : ∀ j, j < (flat (l.drop i)).length → (w.drew.cell? ⟨g, (i + 1) * 4 + j, none⟩).isSome = true := fun j hj => by show (w.cell? _).isSome = true; exact hsome _ (by rw [hdl] at hj; omega)
  have hW1c : ∀ k, W1.cell? ⟨g, k, none⟩ = if (i + 1) * 4 ≤ k ∧ k < (i + 1) * 4 + (n - i) * 4 then (flat (l.drop i))[k - (i + 1) * 4]? else w.cell? ⟨g, k, none⟩ := fun k => by
    rw [hW1, setCells_get g _ _ _ hs9 k, hdl]
    rfl
  have hW1s : ∀ k, k < c * 4 → (W1.cell? ⟨g, k, none⟩).isSome = true := fun k hk => by
    rw [hW1c]
    split
    · rw [List.getElem?_eq_getElem (by rw [hdl]; omega)]; rfl
    · exact hsome k hk
  have hW1f : ∀ k, W1.frozen? ⟨g, k, none⟩ = false := fun k => by rw [hW1, World.frozen?_setCells]; exact hfz k
  have hW1v : ∀ j u, (flat [y])[j]? = some u → W1.cell? ⟨vb, j, none⟩ = some u := fun j u hj => by
    rw [hW1, World.cell?_setCells_out _ _ _ _ _ (fun h9 _ => absurd h9 hne)]
    exact hy3 j u hj
  have hc2 : ∀ (W : World), (∀ x, W.cell? x = W1.cell? x) → (∀ x, W.frozen? x = W1.frozen? x) → ∀ ty dc, (Builtin.copy_ #[42, 42] ty #[.slice (some ⟨g, i * 4, none⟩) (n + 1 - i) dc, .slice (some ⟨vb, 0, none⟩) 1 vc]).run Try.prog W = .ok (goInt 1) (W.setCells g (i * 4) (flat [y])) := fun W hWc hWf ty dc =>
    run_copy_wide W 42 42 ty 31 g (i * 4) (n + 1 - i) dc ⟨vb, 0, none⟩ 1 vc (flat [y]) 4 1 tyX.u hinfo (by simp only [Nat.min_def]; split <;> omega) rfl
      (fun j u hj => by rw [add_none, hWc, Nat.zero_add]; exact hW1v j u hj)
      (fun j hj => by rw [hWc]; exact hW1s _ (by rw [hyl] at hj; omega)) (fun j hj => by rw [hWf]; exact hW1f _) (flat_one _)
  obtain ⟨cur1, hW1g, hW1z⟩ : ∃ cur1, W1.heap[g]? = some (.cells cur1 31 (0, 0)) ∧ cur1.size = cur.size := by
    rw [hW1]
    exact block_setCells g 31 _ _ w.drew cur hg
  have HFIN := hide (show ∀ (W : World), W.heap = W1.heap → w.grownBy W (some g) → Row4 31 0 (l.take i ++ y :: l.drop i) (.slice (some ⟨g, 0, none⟩) (n + 1) c) (W.setCells g (i * 4) (flat [y])) ∧ w.grownBy (W.setCells g (i * 4) (flat [y])) (some g) from fun W hWh hWg => by
    have hWc := (cells_heap hWh).1
    have hgr := gb_trans hWg (grown_setCells g (flat [y]) (i * 4) W)
    have hll : (l.take i ++ y :: l.drop i).length = n + 1 := by rw [List.length_append, List.length_take, List.length_cons, List.length_drop, ← hn]; omega
    obtain ⟨cur2, h2, h2z⟩ := block_setCells g 31 (flat [y]) (i * 4) W cur1 (by rw [hWh]; exact hW1g)
    refine ⟨?_, hgr⟩
    unfold Row4
    rw [hll]
    refine row_of_cells h2 (by rw [h2z, hW1z, hsz]) (by omega) (by unfold maxLen; omega) (Nat.zero_le _) (by rw [flat_len, hll]) (fun j hj9 => ?_)
    rw [setCells_get g _ _ _ (fun k hk => by rw [hWc]; exact hW1s _ (by rw [hyl] at hk; omega)) j, hyl, flat_ins l y i (by omega) j, hWc, hW1c]
    by_cases h1 : j < i * 4
    · rw [if_neg (by omega), if_neg (by omega), if_pos h1, hl3 j (by rw [← hn]; omega)]
    · rw [if_neg h1]
      by_cases h2 : j < i * 4 + 4
      · rw [if_pos (by omega), if_pos h2]
      · rw [if_neg (by omega), if_neg h2, if_pos (by omega), flat_dropAt]
        congr 1
        omega)
  have HG1 := hide (show w.grownBy W1 (some g) from by
    rw [hW1]
    exact gb_trans (show w.grownBy w.drew (some g) from ⟨rfl, rfl, rfl, Nat.le_refl _, fun _ _ _ => rfl⟩) (grown_setCells g _ _ _))
  have hov : ∀ lb cb, (callFunc 61 #[.slice (some ⟨vb, 0, none⟩) 1 vc, .slice (some ⟨g, (i + 1) * 4, none⟩) lb cb]).run Try.prog w = .ok (.value (.bool false)) w := fun lb cb => by
    rw [run_callFunc_extern Try.func61 (by kernel_rfl) (by kernel_rfl) (by kernel_rfl) (e := Extern.SlicesOverlaps.overlaps #[42, 42] #[4]) (by kernel_rfl),
      Lib.run_overlaps_apart w 42 4 31 tyX.u 4 Try.sizeOf31 ⟨vb, 0, none⟩ ⟨g, (i + 1) * 4, none⟩ 1 vc lb cb hne 31 31 vcur.size cur.size (by simp [World.shape?, hvg]) (by simp [World.shape?, hg]) (by rw [hsz]; omega) (by simp [World.frozen?, hvg]) (by simp [World.frozen?, hvg])]
    rfl
  rw [← hW1] at hc1
  have mixed : Try.prog.follows Departure.mixedOrders = true := by kernel_rfl
  have hz2 : ¬ ((i : Int) = (n : Int)) := by omega
  have hz3 : ¬ ((c : Int) < (n : Int) + 1) := by omega
  have hw1 : IntKind.i64.wrap ((i : Int) + 1) = (i : Int) + 1 := by rw [IntKind.wrap_i64]; omega
  have hw2 : IntKind.i64.wrap ((n : Int) + 1) = (n : Int) + 1 := by rw [IntKind.wrap_i64]; omega
  have hb1 : (0 : Int) ≤ (i : Int) + 1 := by omega
  have hb2 : ¬ (c = i + 1) := by omega
  have hb3 : (i : Int) ≤ (n : Int) + 1 := by omega
  have hb4 : ¬ (c = i) := by omega
  have hb5 : (n : Int) + 1 ≤ (c : Int) := by omega
  have hb6 : (i : Int) + 1 ≤ (n : Int) + 1 := by omega
  have hb7 : (i : Int) ≤ (n : Int) := by omega
  have htn : ((i : Int) + 1).toNat = i + 1 := by omega
  have htn2 : ((n : Int) + 1).toNat = n + 1 := by omega
  unfold InsP
  simp only [Value.ownBlock]
  rw [← hn]
  clear hW1g hW1z hcell hsome hl3 hfz hy3 hdl hyl hs9 hW1c hW1s hW1f hW1v hW1 hg hvg hsz htk hvtk hvsz h hv hn hinfo hgl
  go_enter Try.func48, Try.ntmps48
  go_wp2_with (simp only [hov])
  go_region_law_o (refine step_copy_runI rfl _ _ 42 42 rfl _ _ (by simp [Act.eval, Act.put]) (by simp [Act.eval, Act.put]) (hc1 _ _ _) ?_)
  go_wp2_with (at_builtin; refine wpList_copy_runI _ rfl _ _ 42 42 rfl _ _ rfl rfl (hc2 _ (fun _ => rfl) (fun _ => rfl) _ _) ?_)
  go_ret
  have hf := HFIN.out _ rfl HG1.out
  exact ⟨_, rfl, hf.1, hf.2, .inl rfl⟩
theorem flat_takeAt (l : List It) (i j : Nat) (hj : j < i * 4) : (flat (l.take i))[j]? = (flat l)[j]? := by
  have e1 : flat l = flat (l.take i) ++ flat (l.drop i) := by rw [← flat_app, List.take_append_drop]
  rw [e1]
  rcases Nat.lt_or_ge j (flat (l.take i)).length with h | h
  · rw [List.getElem?_append_left h]
  · have h2 : (flat (l.take i)).length = min i l.length * 4 := by rw [flat_len, List.length_take]
    have h3 : l.length ≤ i := by omega
    rw [List.drop_eq_nil_of_le h3, show flat ([] : List It) = [] from rfl, List.append_nil]
set_option maxHeartbeats 8000000 in
set_option maxRecDepth 100000 in
/-- In its place: there is no room. -/
theorem ins_grow {base base2 : Nat} {l : List It} {g c : Nat} {w : World} (h : Row4 31 base l (.slice (some ⟨g, 0, none⟩) l.length c) w) (y : It) (vb vc : Nat) (hv : Row4 31 base2 [y] (.slice (some ⟨vb, 0, none⟩) 1 vc) w) (hl : l.length ≤ 3000) (i : Nat) (hi : i < l.length) (hroom : c < l.length + 1) :
    Calls Try.prog 48 #[.slice (some ⟨g, 0, none⟩) l.length c, .int .i64 (i : Nat), .slice (some ⟨vb, 0, none⟩) 1 vc] w fun e w' => InsP l y i (.slice (some ⟨g, 0, none⟩) l.length c) w e w' := by
  have hpa := ItemsAt.cells h.items
  have hpv := ItemsAt.cells hv.items
  have hgl : g < w.heap.size := (h.lt g rfl).2
  have hvl : vb < w.heap.size := (hv.lt vb rfl).2
  have hcl : l.length ≤ c := by
    obtain ⟨_, cap, e, h1, _⟩ := h.form
    simp only [Value.slice.injEq, true_and] at e
    omega
  have hl3 : ∀ j u, (flat l)[j]? = some u → w.cell? ⟨g, j, none⟩ = some u := fun j u hj => by have := hpa j u hj; rw [add_none, Nat.zero_add] at this; exact this
  have hy3 : ∀ j u, (flat [y])[j]? = some u → w.cell? ⟨vb, j, none⟩ = some u := fun j u hj => by have := hpv j u hj; rw [add_none, Nat.zero_add] at this; exact this
  obtain ⟨n, hn⟩ : ∃ n, n = l.length := ⟨_, rfl⟩
  have hdl : (flat (l.drop i)).length = (n - i) * 4 := by rw [flat_len, List.length_drop, hn]
  have htl : (flat (l.take i)).length = i * 4 := by rw [flat_len, List.length_take]; omega
  have hyl : (flat [y]).length = 4 := rfl
  obtain ⟨i0, hi0, hz0, hzs, hzb⟩ := info_parts tyX.i
  have hinfo : (Try.prog.info? 31).map (·.size) = some 4 := by rw [hi0]; simp [hzs]
  have hkk : (n : Int) + 1 - (i : Int) = ((n + 1 - i : Nat) : Int) := by omega
  have hik : i + (n + 1 - i) = n + 1 := by omega
  have hold : (Builtin.firstCells i0.size i (.slice (some ⟨g, 0, none⟩) i c)).run Try.prog w.drew = .ok (flat (l.take i)).toArray w.drew := by
    rw [hzs]
    exact run_firstCells_some w.drew 4 i ⟨g, 0, none⟩ i c (flat (l.take i)) htl (fun j v hj => by
      have hj3 : j < i * 4 := by rw [← htl]; exact (List.getElem?_eq_some_iff.1 hj).1
      rw [flat_takeAt l i j hj3] at hj
      rw [add_none, Nat.zero_add]
      exact hl3 j v hj)
  obtain ⟨z, hz⟩ : ∃ z : Value, z = .agg #[.string ⟨#[]⟩, .int .i64 0, .int .i64 0, .int .i64 0] := ⟨_, rfl⟩
  rw [← hz] at hz0
  have hzc : z.cells.size = 4 := by rw [hz]; rfl
  have hrz : ∀ ty, (Builtin.append_ #[42, 3] ty #[.slice (some ⟨g, 0, none⟩) i c, .int .i64 ((n : Int) + 1 - (i : Int))]).run Try.prog w =
      .ok (.slice (some ⟨w.heap.size, 0, none⟩) (n + 1) (grownCap w (n + 1) c 31)) (w.drew.alloc (.cells ((flat (l.take i)).toArray ++ Builtin.zeroCells z.cells (n + 1 - i) ++ Builtin.zeroCells z.cells (grownCap w (n + 1) c 31 - (n + 1))) 31)) := fun ty => by
    have h := Lib.run_append_grow_zeros w 42 3 ty 31 i0 z .i64 .i64 tyX.u Try.underlying3 hi0 hz0 (some ⟨g, 0, none⟩) i c (flat (l.take i)) hold (n + 1 - i) (by omega) (by omega) (by omega) (by omega) (by rw [hzb]; omega) (by rw [hzb, hik]; exact growslice_fits (by omega) (by omega))
    rw [hik] at h
    rw [hkk]
    exact h
  obtain ⟨G, hG⟩ : ∃ G, G = grownCap w (n + 1) c 31 := ⟨_, rfl⟩
  obtain ⟨ROW, hROW⟩ : ∃ ROW : Array Value, ROW = (flat (l.take i)).toArray ++ Builtin.zeroCells z.cells (n + 1 - i) ++ Builtin.zeroCells z.cells (G - (n + 1)) := ⟨_, rfl⟩
  rw [← hG] at hrz
  rw [← hROW] at hrz
  have hRl : (n + 1) * 4 ≤ ROW.size := by
    rw [hROW, Array.size_append, Array.size_append, size_zeroCells, size_zeroCells, hzc]
    simp only [List.size_toArray, htl]
    omega
  have hRt : ∀ j, j < i * 4 → ROW[j]? = (flat l)[j]? := fun j hj => by
    rw [hROW, Array.append_assoc, Array.getElem?_append_left (by simp only [List.size_toArray, htl]; omega), List.getElem?_toArray, flat_takeAt l i j hj]
  have hGn : n + 1 ≤ G := by rw [hG]; exact grownCap_ge w _ _ _
  have hG63 : G ≤ 9223372036854775807 := by
    have := grownCap_le_maxLen w (n + 1) c 31 (by unfold maxLen; omega)
    rw [← hG] at this
    unfold maxLen at this
    omega
  obtain ⟨N, hN⟩ : ∃ N, N = w.heap.size := ⟨_, rfl⟩
  obtain ⟨W1, hW1⟩ : ∃ W1, W1 = w.drew.alloc (.cells ROW 31) := ⟨_, rfl⟩
  rw [← hW1, ← hN] at hrz
  have hNg : W1.heap[N]? = some (.cells ROW 31 (0, 0)) := by rw [hW1, hN]; exact heap_alloc_new w.drew _
  have hNc : ∀ j, W1.cell? ⟨N, j, none⟩ = ROW[j]? := fun j => by rw [cell_of_row _ _ _ _ _ (0, 0) hNg]
  have hNs : ∀ j, j < (n + 1) * 4 → (W1.cell? ⟨N, j, none⟩).isSome = true := fun j hj => by rw [hNc, Array.getElem?_eq_getElem (by omega)]; rfl
  have hNf : ∀ j, W1.frozen? ⟨N, j, none⟩ = false := fun j => by simp [World.frozen?, hNg]
  have hOld : ∀ b j, b < w.heap.size → W1.cell? ⟨b, j, none⟩ = w.cell? ⟨b, j, none⟩ := fun b j hb => by rw [hW1, World.cell?_alloc_past (w := w.drew) _ b j hb]; rfl
  have hGW1 : w.grownBy W1 (some g) := by
    rw [hW1]
    exact gb_trans (show w.grownBy w.drew (some g) from ⟨rfl, rfl, rfl, Nat.le_refl _, fun _ _ _ => rfl⟩) (World.grownBy_alloc _ _ _)
  have hc1 : ∀ (W : World), (∀ x, W.cell? x = W1.cell? x) → (∀ x, W.frozen? x = W1.frozen? x) → ∀ ty dc, (Builtin.copy_ #[42, 42] ty #[.slice (some ⟨N, i * 4, none⟩) (n + 1 - i) dc, .slice (some ⟨vb, 0, none⟩) 1 vc]).run Try.prog W = .ok (goInt 1) (W.setCells N (i * 4) (flat [y])) := fun W hWc hWf ty dc =>
    run_copy_wide W 42 42 ty 31 N (i * 4) (n + 1 - i) dc ⟨vb, 0, none⟩ 1 vc (flat [y]) 4 1 tyX.u hinfo (by simp only [Nat.min_def]; split <;> omega) rfl
      (fun j u hj => by rw [add_none, hWc, Nat.zero_add, hOld vb j hvl]; exact hy3 j u hj)
      (fun j hj => by rw [hWc]; exact hNs _ (by rw [hyl] at hj; omega)) (fun j hj => by rw [hWf]; exact hNf _) (flat_one _)
  have hW2c : ∀ (W : World), (∀ x, W.cell? x = W1.cell? x) → ∀ k, (W.setCells N (i * 4) (flat [y])).cell? ⟨N, k, none⟩ = if i * 4 ≤ k ∧ k < i * 4 + 4 then (flat [y])[k - i * 4]? else ROW[k]? := fun W hWc k => by
    rw [setCells_get N _ _ _ (fun j hj => by rw [hWc]; exact hNs _ (by rw [hyl] at hj; omega)) k, hyl, hWc, hNc]
  have hW2s : ∀ (W : World), (∀ x, W.cell? x = W1.cell? x) → ∀ k, k < (n + 1) * 4 → ((W.setCells N (i * 4) (flat [y])).cell? ⟨N, k, none⟩).isSome = true := fun W hWc k hk => by
    rw [hW2c W hWc]
    split
    · rw [List.getElem?_eq_getElem (by rw [hyl]; omega)]; rfl
    · rw [Array.getElem?_eq_getElem (by omega)]; rfl
  have hc2 : ∀ (W U : World), (∀ x, W.cell? x = W1.cell? x) → (∀ x, W.frozen? x = W1.frozen? x) → (∀ x, U.cell? x = (W.setCells N (i * 4) (flat [y])).cell? x) → (∀ x, U.frozen? x = (W.setCells N (i * 4) (flat [y])).frozen? x) → ∀ ty dc sc, (Builtin.copy_ #[42, 42] ty #[.slice (some ⟨N, (i + 1) * 4, none⟩) (n - i) dc, .slice (some ⟨g, i * 4, none⟩) (n - i) sc]).run Try.prog U = .ok (goInt ((n - i : Nat) : Int)) (U.setCells N ((i + 1) * 4) (flat (l.drop i))) := fun W U hWc hWf hUc hUf ty dc sc =>
    run_copy_wide U 42 42 ty 31 N ((i + 1) * 4) (n - i) dc ⟨g, i * 4, none⟩ (n - i) sc (flat (l.drop i)) 4 (n - i) tyX.u hinfo (by simp only [Nat.min_def]; split <;> omega) hdl
      (fun j u hj => by
        rw [add_none, hUc, World.cell?_setCells_out N _ _ _ _ (fun h9 _ => by have h8 : g = N := h9; omega), hWc, hOld g _ hgl]
        rw [flat_dropAt] at hj
        exact hl3 _ u hj)
      (fun j hj => by rw [hUc]; exact hW2s W hWc _ (by rw [hdl] at hj; omega)) (fun j hj => by rw [hUf, World.frozen?_setCells, hWf]; exact hNf _) (flat_one _)
  have hRz : ROW.size = G * 4 := by
    rw [hROW, Array.size_append, Array.size_append, size_zeroCells, size_zeroCells, hzc]
    simp only [List.size_toArray, htl]
    omega
  have HFIN := hide (show ∀ (W U : World), W.heap = W1.heap → U.heap = (W.setCells N (i * 4) (flat [y])).heap → N < U.heap.size → w.grownBy U (some g) → Row4 31 0 (l.take i ++ y :: l.drop i) (.slice (some ⟨N, 0, none⟩) (n + 1) G) (U.setCells N ((i + 1) * 4) (flat (l.drop i))) ∧ w.grownBy (U.setCells N ((i + 1) * 4) (flat (l.drop i))) (some g) from fun W U hWh hUh hNU hUg => by
    have hWc := (cells_heap hWh).1
    have hUc := (cells_heap hUh).1
    have hgr := gb_new hUg (grown_setCells N (flat (l.drop i)) ((i + 1) * 4) U) (by omega)
    have hll : (l.take i ++ y :: l.drop i).length = n + 1 := by rw [List.length_append, List.length_take, List.length_cons, List.length_drop, ← hn]; omega
    obtain ⟨cur1, h1, h1z⟩ := block_setCells N 31 (flat [y]) (i * 4) W ROW (by rw [hWh]; exact hNg)
    obtain ⟨cur2, h2, h2z⟩ := block_setCells N 31 (flat (l.drop i)) ((i + 1) * 4) U cur1 (by rw [hUh]; exact h1)
    refine ⟨?_, hgr⟩
    unfold Row4
    rw [hll]
    refine row_of_cells h2 (by rw [h2z, h1z, hRz]) (by omega) (by unfold maxLen; omega) (Nat.zero_le _) (by rw [flat_len, hll]) (fun j hj9 => ?_)
    rw [setCells_get N _ _ _ (fun k hk => by rw [hUc]; exact hW2s W hWc _ (by rw [hdl] at hk; omega)) j, hdl, flat_ins l y i (by omega) j, hUc, hW2c W hWc]
    by_cases h1 : j < i * 4
    · rw [if_neg (by omega), if_neg (by omega), if_pos h1, hRt j h1]
    · rw [if_neg h1]
      by_cases h2 : j < i * 4 + 4
      · rw [if_neg (by omega), if_pos (by omega), if_pos h2]
      · rw [if_pos (by omega), if_neg h2, flat_dropAt]
        congr 1
        omega)
  have HW1 := hide hGW1
  have HNL := hide (show ∀ U : World, U.heap.size = W1.heap.size → N < U.heap.size from fun U e => by rw [e]; exact lt_of_block hNg)
  have mixed : Try.prog.follows Departure.mixedOrders = true := by kernel_rfl
  have hz2 : ¬ ((i : Int) = (n : Int)) := by omega
  have hz3 : (c : Int) < (n : Int) + 1 := by omega
  have hw1 : IntKind.i64.wrap ((i : Int) + 1) = (i : Int) + 1 := by rw [IntKind.wrap_i64]; omega
  have hw2 : IntKind.i64.wrap ((n : Int) + 1) = (n : Int) + 1 := by rw [IntKind.wrap_i64]; omega
  have hw3 : IntKind.i64.wrap ((n : Int) + 1 - (i : Int)) = (n : Int) + 1 - (i : Int) := by rw [IntKind.wrap_i64]; omega
  have hb1 : (0 : Int) ≤ (i : Int) + 1 := by omega
  have hb2 : ¬ (G = i + 1) := by omega
  have hb3 : (i : Int) ≤ (n : Int) + 1 := by omega
  have hb4 : ¬ (c = i) := by omega
  have hb5 : ¬ (G = i) := by omega
  have hb6 : (i : Int) + 1 ≤ (n : Int) + 1 := by omega
  have hb7 : (i : Int) ≤ (n : Int) := by omega
  have hb8 : (i : Int) ≤ (c : Int) := by omega
  have htn : ((i : Int) + 1).toNat = i + 1 := by omega
  have htn2 : ((n : Int) + 1).toNat = n + 1 := by omega
  unfold InsP
  simp only [Value.ownBlock]
  rw [← hn]
  have HN := hide hN
  clear hpa hpv hcl hl3 hy3 hdl htl hyl hi0 hz0 hzs hzb hinfo hkk hik hold hz hzc hG hROW hRl hRz hRt hW1 hNg hNc hNs hNf hOld hGW1 hW2c hW2s h hv hn hgl hvl hN hroom
  go_enter Try.func48, Try.ntmps48
  go_wp2_with (first
    | (at_builtin; refine Lib.wpList_append_run _ rfl _ _ _ _ rfl _ _ rfl rfl _ _ (hrz _) ?_)
    | (at_builtin; refine wpList_copy_runI _ rfl _ _ 42 42 rfl _ _ rfl rfl (hc1 _ (fun _ => rfl) (fun _ => rfl) _ _) ?_))
  go_region_law_o (refine step_copy_runI rfl _ _ 42 42 rfl (.slice (some ⟨N, (i + 1) * 4, none⟩) (n - i) (G - (i + 1))) (.slice (some ⟨g, i * 4, none⟩) (n - i) (c - i)) (by simp [Act.eval, Act.put]) (by simp [Act.eval, Act.put]) (hc2 W1 ((W1.setCells N (i * 4) (flat [y])).drew) (fun _ => rfl) (fun _ => rfl) (fun _ => rfl) (fun _ => rfl) 3 (G - (i + 1)) (c - i)) ?_)
  go_wp2
  go_ret
  have hf := HFIN.out W1 ((W1.setCells N (i * 4) (flat [y])).drew) rfl rfl (Nat.lt_of_lt_of_le (HNL.out W1 rfl) (grown_setCells N (flat [y]) (i * 4) W1).size) (gb_trans (gb_new HW1.out (grown_setCells N (flat [y]) (i * 4) W1) (by have := HN.out; omega)) (show (W1.setCells N (i * 4) (flat [y])).grownBy (W1.setCells N (i * 4) (flat [y])).drew (some g) from ⟨rfl, rfl, rfl, Nat.le_refl _, fun _ _ _ => rfl⟩))
  exact ⟨_, rfl, hf.1, hf.2, .inr (by show some N = some w.heap.size; rw [HN.out])⟩
theorem insert_any {base base2 : Nat} {l : List It} {sv vv : Value} {w : World} (h : Row4 31 base l sv w) (y : It) (hv : Row4 31 base2 [y] vv w) (hne : ∀ g, vv.ownBlock = some g → sv.ownBlock ≠ some g) (hl : l.length ≤ 3000) (hb : base ≤ w.heap.size) (i : Nat) (hi : i ≤ l.length) :
    Calls Try.prog 48 #[sv, .int .i64 (i : Nat), vv] w fun e w' => InsP l y i sv w e w' := by
  rcases Nat.eq_or_lt_of_le hi with e | hlt
  · subst e
    exact ins_end h y vv hv hl hb
  · obtain ⟨g, c, e, hlc, _, _, _⟩ := h.held (by omega)
    obtain ⟨vb, vc, e2, _, _, _, _⟩ := hv.held (by simp)
    subst e e2
    have hne2 : vb ≠ g := fun e => hne vb rfl (by rw [e]; rfl)
    have e1 : [y].length = 1 := rfl
    rw [e1] at hv ⊢
    by_cases hr : l.length + 1 ≤ c
    · exact ins_room h y vb vc hv hne2 hl i hlt hr
    · exact ins_grow h y vb vc hv hl i hlt (by omega)
end Idx
end Go.Proofs.Ytapdhelioecneaa
