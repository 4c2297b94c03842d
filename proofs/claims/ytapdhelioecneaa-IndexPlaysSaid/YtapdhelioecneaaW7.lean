/- slices.Replace of one block by two, of two blocks by one. Condition: no more than three thousand blocks. -/
import Derived.Test.YtapdhelioecneaaW6
import Derived.Shelf.Spec.SlicesInsert
import Derived.Lib.AppendZerosOnto
import Derived.Laws.NewBlocks
import Derived.Lib.Overlaps
namespace Go.Proofs.Ytapdhelioecneaa
open Go.RowKit
namespace Idx
/-- Where blocks were laid in the place of blocks. -/
def RepP (l : List Bkm) (m : List Bkm) (i j : Nat) (sv : Value) (w : World) (e : Ending) (w' : World) : Prop := ∃ u, e = .returned u ∧ Row2 0 (l.take i ++ m ++ l.drop j) u w' ∧ w.grownBy w' sv.ownBlock ∧ (u.ownBlock = sv.ownBlock ∨ u.ownBlock = some w.heap.size)
theorem tyB_u : Try.prog.underlying 65 = some (.slice 91) := Try.underlying65
theorem tyB_i : (Try.prog.info? 91).map (fun i => (i.zero, i.size, i.bytes)) = some (some (.agg #[.slice none 0 0, .int .i64 0]), 2, 32) := by kernel_rfl
theorem f2_rep (l m : List Bkm) (i j : Nat) (hi : i ≤ l.length) (k : Nat) : (f2 (l.take i ++ m ++ l.drop j))[k]? = if k < i * 2 then (f2 l)[k]? else if k < (i + m.length) * 2 then (f2 m)[k - i * 2]? else (f2 (l.drop j))[k - (i + m.length) * 2]? := by
  rw [f2_app, f2_app, f2_take]
  have h1 : ((f2 l).take (i * 2)).length = i * 2 := by rw [List.length_take, f2_len]; omega
  have h2 : (f2 m).length = m.length * 2 := f2_len m
  by_cases h : k < i * 2
  · rw [if_pos h, List.append_assoc, List.getElem?_append_left (by omega), List.getElem?_take_of_lt h]
  · rw [if_neg h, List.append_assoc, List.getElem?_append_right (by omega), h1]
    by_cases h3 : k < (i + m.length) * 2
    · rw [if_pos h3, List.getElem?_append_left (by omega)]
    · rw [if_neg h3, List.getElem?_append_right (by omega), h2]
      congr 1
      omega
set_option maxHeartbeats 8000000 in
set_option maxRecDepth 100000 in
theorem rep2_room {base2 : Nat} {l m : List Bkm} {g c vb vc : Nat} {w : World} (h : Row2 0 l (.slice (some ⟨g, 0, none⟩) l.length c) w) (hm : m.length = 2) (hv : Row2 base2 m (.slice (some ⟨vb, 0, none⟩) m.length vc) w) (hne : vb ≠ g) (hl : l.length ≤ 3000) (i : Nat) (hi : i + 1 < l.length) (hroom : l.length + 1 ≤ c) :
    Calls Try.prog 50 #[.slice (some ⟨g, 0, none⟩) l.length c, .int .i64 (i : Nat), .int .i64 ((i : Int) + 1), .slice (some ⟨vb, 0, none⟩) 2 vc] w fun e w' => RepP l m i (i + 1) (.slice (some ⟨g, 0, none⟩) l.length c) w e w' := by
  obtain ⟨cur, hg, hsz, hnc, hc63, _, hcell, hsome, hfz⟩ := row_block h
  obtain ⟨vcur, hvg, hvsz, hvn, _, _, hvcell, _, _⟩ := row_block hv
  rw [hm] at hvn hvcell
  obtain ⟨n, hn⟩ : ∃ n, n = l.length := ⟨_, rfl⟩
  rw [← hn] at hnc hcell hl ⊢
  have hgl := lt_of_block hg
  have hvl := lt_of_block hvg
  obtain ⟨i0, hi0, hz0, hz1, hz2'⟩ := info_parts tyB_i
  have hinfo : (Try.prog.info? 91).map (·.size) = some 2 := by rw [hi0]; simp [hz1]
  have hdl : (f2 (l.drop (i + 1))).length = (n - (i + 1)) * 2 := by rw [f2_len, List.length_drop, hn]
  have hml : (f2 m).length = 2 * 2 := by rw [f2_len, hm]
  have hy3 : ∀ j u, (f2 m)[j]? = some u → w.cell? ⟨vb, j, none⟩ = some u := fun j u hj => by
    have hj3 : j < 2 * 2 := by rw [← hml]; exact (List.getElem?_eq_some_iff.1 hj).1
    rw [hvcell j hj3, hj]
  have hll : (l.take i ++ m ++ l.drop (i + 1)).length = n + 2 - 1 := by rw [List.length_append, List.length_append, List.length_take, List.length_drop, ← hn, hm]; omega
  have hjn : i + 1 < n := by omega
  have hW0c : ∀ W : World, W.heap = w.heap → ∀ ty dc sc, (Builtin.copy_ #[65, 65] ty #[.slice (some ⟨g, (i + 2) * 2, none⟩) (n - (i + 1)) dc, .slice (some ⟨g, (i + 1) * 2, none⟩) (n - (i + 1)) sc]).run Try.prog W = .ok (goInt ((n - (i + 1) : Nat) : Int)) (W.setCells g ((i + 2) * 2) (f2 (l.drop (i + 1)))) := fun W hW ty dc sc =>
    run_copy_wide W 65 65 ty 91 g ((i + 2) * 2) (n - (i + 1)) dc ⟨g, (i + 1) * 2, none⟩ (n - (i + 1)) sc (f2 (l.drop (i + 1))) 2 (n - (i + 1)) tyB_u hinfo (by simp only [Nat.min_def]; split <;> omega) hdl
      (fun j u hj => by
        have hj9 : j < (n - (i + 1)) * 2 := by rw [← hdl]; exact (List.getElem?_eq_some_iff.1 hj).1
        rw [add_none, (cells_heap hW).1, hcell _ (by omega), ← f2_dropAt]; exact hj)
      (fun j hj => by rw [(cells_heap hW).1]; exact hsome _ (by rw [hdl] at hj; omega)) (fun j hj => by rw [(cells_heap hW).2]; exact hfz _) (f2_one _)
  have hs9 : ∀ W : World, W.heap = w.heap → ∀ j, j < (f2 (l.drop (i + 1))).length → (W.cell? ⟨g, (i + 2) * 2 + j, none⟩).isSome = true := fun W hW j hj => by rw [(cells_heap hW).1]; exact hsome _ (by rw [hdl] at hj; omega)
  have hW1c : ∀ W : World, W.heap = w.heap → ∀ k, (W.setCells g ((i + 2) * 2) (f2 (l.drop (i + 1)))).cell? ⟨g, k, none⟩ = if (i + 2) * 2 ≤ k ∧ k < (i + 2) * 2 + (n - (i + 1)) * 2 then (f2 (l.drop (i + 1)))[k - (i + 2) * 2]? else w.cell? ⟨g, k, none⟩ := fun W hW k => by
    rw [setCells_get g _ _ _ (hs9 W hW) k, hdl, (cells_heap hW).1]
  have hW1s : ∀ W : World, W.heap = w.heap → ∀ k, k < c * 2 → ((W.setCells g ((i + 2) * 2) (f2 (l.drop (i + 1)))).cell? ⟨g, k, none⟩).isSome = true := fun W hW k hk => by
    rw [hW1c W hW]
    split
    · rw [List.getElem?_eq_getElem (by rw [hdl]; omega)]; rfl
    · exact hsome k hk
  have hc2 : ∀ W U : World, W.heap = w.heap → U.heap = (W.setCells g ((i + 2) * 2) (f2 (l.drop (i + 1)))).heap → ∀ ty dc, (Builtin.copy_ #[65, 65] ty #[.slice (some ⟨g, i * 2, none⟩) (n + 1 - i) dc, .slice (some ⟨vb, 0, none⟩) 2 vc]).run Try.prog U = .ok (goInt 2) (U.setCells g (i * 2) (f2 m)) := fun W U hW hU ty dc =>
    run_copy_wide U 65 65 ty 91 g (i * 2) (n + 1 - i) dc ⟨vb, 0, none⟩ 2 vc (f2 m) 2 2 tyB_u hinfo (by simp only [Nat.min_def]; split <;> omega) hml
      (fun j u hj => by rw [add_none, (cells_heap hU).1, Nat.zero_add, World.cell?_setCells_out _ _ _ _ _ (fun h9 _ => absurd h9 hne), (cells_heap hW).1]; exact hy3 j u hj)
      (fun j hj => by rw [(cells_heap hU).1]; exact hW1s W hW _ (by rw [hml] at hj; omega)) (fun j hj => by rw [(cells_heap hU).2, World.frozen?_setCells, (cells_heap hW).2]; exact hfz _) (f2_one _)
  have HFIN := hide (show ∀ (W U : World), W.heap = w.heap → w.grownBy W (some g) → U.heap = (W.setCells g ((i + 2) * 2) (f2 (l.drop (i + 1)))).heap → (W.setCells g ((i + 2) * 2) (f2 (l.drop (i + 1)))).grownBy U (some g) → Row2 0 (l.take i ++ m ++ l.drop (i + 1)) (.slice (some ⟨g, 0, none⟩) (n + 1) c) (U.setCells g (i * 2) (f2 m)) ∧ w.grownBy (U.setCells g (i * 2) (f2 m)) (some g) from fun W U hW hWg hU hUg => by
    obtain ⟨cur1, h1, h1z⟩ := block_setCells g 91 (f2 (l.drop (i + 1))) ((i + 2) * 2) W cur (by rw [hW]; exact hg)
    obtain ⟨cur2, h2, h2z⟩ := block_setCells g 91 (f2 m) (i * 2) U cur1 (by rw [hU]; exact h1)
    refine ⟨?_, gb_trans (gb_trans (gb_trans hWg (grown_setCells g _ _ _)) hUg) (grown_setCells g _ _ _)⟩
    show World.ownsRow _ 0 91 2 _ _ _
    rw [hll]
    refine row_of_cells h2 (by rw [h2z, h1z, hsz]) (by omega) (by unfold maxLen; omega) (Nat.zero_le _) (by rw [f2_len, hll]; omega) (fun j hj9 => ?_)
    rw [setCells_get g _ _ _ (fun k hk => by rw [(cells_heap hU).1]; exact hW1s W hW _ (by rw [hml] at hk; omega)) j, hml, f2_rep l m i (i + 1) (by omega) j, (cells_heap hU).1, hW1c W hW, hm]
    by_cases h1 : j < i * 2
    · rw [if_neg (by omega), if_neg (by omega), if_pos h1, hcell j (by omega)]
    · rw [if_neg h1]
      by_cases h2 : j < (i + 2) * 2
      · rw [if_pos (by omega), if_pos h2]
      · rw [if_neg (by omega), if_neg h2, if_pos (by omega)])
  have hov : ∀ lb cb (u : World), u.heap = w.heap → (callFunc 64 #[.slice (some ⟨g, (i + 2) * 2, none⟩) lb cb, .slice (some ⟨vb, 0, none⟩) 2 vc]).run Try.prog u = .ok (.value (.bool false)) u := fun lb cb u hu => by
    rw [run_callFunc_extern Try.func64 (by kernel_rfl) (by kernel_rfl) (by kernel_rfl) (e := Extern.SlicesOverlaps.overlaps #[65, 65] #[4]) (by kernel_rfl),
      Lib.run_overlaps_apart u 65 4 91 tyB_u 2 Try.sizeOf91 ⟨g, (i + 2) * 2, none⟩ ⟨vb, 0, none⟩ lb cb 2 vc (Ne.symm hne) 91 91 cur.size vcur.size (by simp [World.shape?, hu, hg]) (by simp [World.shape?, hu, hvg]) (by rw [hvsz]; omega) (by first | simp [World.frozen?, hu, hg] | simp [World.frozen?, hu, hvg]) (by first | simp [World.frozen?, hu, hg] | simp [World.frozen?, hu, hvg])]
    rfl
  have mixed : Try.prog.follows Departure.mixedOrders = true := by kernel_rfl
  have hw1 : IntKind.i64.wrap ((i : Int) + 1) = (i : Int) + 1 := by rw [IntKind.wrap_i64]; omega
  have hw2 : IntKind.i64.wrap ((i : Int) + 2) = (i : Int) + 2 := by rw [IntKind.wrap_i64]; omega
  have ha1 : (0 : Int) ≤ (i : Int) + 1 := by omega
  have ha2 : (0 : Int) ≤ (i : Int) + 2 := by omega
  have ha3 : (i : Int) ≤ (i : Int) + 1 := by omega
  have ha4 : (i : Int) ≤ (i : Int) + 2 := by omega
  have ha5 : (i : Int) + 1 ≤ (n : Int) := by omega
  have ha6 : ((i : Int) == (i : Int) + 1) = false := by rw [beq_eq_false_iff_ne]; omega
  have ha7 : (i : Int) ≤ (n : Int) := by omega
  have ha8 : (i : Int) + 1 ≤ (c : Int) := by omega
  have ha9 : (i : Int) ≤ (c : Int) := by omega
  have hb1 : (n : Int) ≤ (c : Int) := by omega
  have htn1 : ((i : Int) + 1).toNat = i + 1 := by omega
  have htn2 : ((i : Int) + 2).toNat = i + 2 := by omega
  have hz2 : ((i : Int) + 1 == (n : Int)) = false := by rw [beq_eq_false_iff_ne]; omega
  have hs1 : (i : Int) + 2 + ((n - (i + 1) : Nat) : Int) = (n : Int) + 1 := by omega
  have hs2 : IntKind.i64.wrap ((n : Int) + 1) = (n : Int) + 1 := by rw [IntKind.wrap_i64]; omega
  have hs3 : ((n : Int) + 1).toNat = n + 1 := by omega
  have hz3 : ¬ ((c : Int) < (n : Int) + 1) := by omega
  have hz4 : (0 : Int) ≤ (n : Int) + 1 := by omega
  have hz5 : (n : Int) + 1 ≤ (c : Int) := by omega
  have hz6 : ¬ ((i : Int) + 2 ≤ (i : Int) + 1) := by omega
  have hz7 : (i : Int) + 2 ≤ (n : Int) + 1 := by omega
  have hz8 : (i : Int) ≤ (n : Int) + 1 := by omega
  have hz9 : ¬ (c = i + 1) := by omega
  have hz10 : ¬ (c = i + 2) := by omega
  have hz11 : ¬ (c = i) := by omega
  have hov1 := fun lb cb => hov lb cb w.drew rfl
  have HC1 := hide hW0c
  have HC2 := hide hc2
  have hmx : IntKind.i64.wrap ((n : Int) + 1) = (n : Int) + 1 := by rw [IntKind.wrap_i64]; omega
  unfold RepP
  simp only [Value.ownBlock]
  clear hov hW0c hc2 hs9 hW1c hW1s hy3 hdl hml hll hinfo hi0 hz0 hz1 hz2' hvcell hvg hvsz hg hsz hcell hsome hfz h hv hn hm
  go_enter Try.func50, Try.ntmps50
  go_wp2_with fail
  refine wp_region_held_drew (S := fun _ => True) (by kernel_rfl) trivial (fun hHeld => ?_)
  refine Man.t1 0 trivial ?_
  (try simp only [Act.put, Mqa, Mqb, Mqc])
  refine Man.t1 1 trivial ?_
  (try simp only [Act.put, Mqa, Mqb, Mqc])
  refine Man.t1 2 trivial ?_
  (try simp only [Act.put, Mqa, Mqb, Mqc])
  refine Man.t1 3 trivial ?_
  (try simp only [Act.put, Mqa, Mqb, Mqc])
  refine Man.t1 4 trivial ?_
  (try simp only [Act.put, Mqa, Mqb, Mqc])
  refine Man.t1 5 trivial ?_
  (try simp only [Act.put, Mqa, Mqb, Mqc])
  refine Man.t1 6 trivial ?_
  (try simp only [Act.put, Mqa, Mqb, Mqc])
  refine Man.t1 7 trivial ?_
  (try simp only [Act.put, Mqa, Mqb, Mqc])
  refine Man.t1 8 trivial ?_
  (try simp only [Act.put, Mqa, Mqb, Mqc])
  refine Man.t1 9 trivial ?_
  (try simp only [Act.put, Mqa, Mqb, Mqc])
  refine Man.t1 10 trivial ?_
  (try simp only [Act.put, Mqa, Mqb, Mqc])
  refine Man.t1 11 trivial ?_
  (try simp only [Act.put, Mqa, Mqb, Mqc])
  refine Man.t1 12 trivial ?_
  (try simp only [Act.put, Mqa, Mqb, Mqc])
  refine wpAnyH_done (by kernel_rfl) ?_ _
  go_wp2_with (simp only [hov1])
  go_region_law_o (refine step_copy_runI rfl _ _ 65 65 rfl (.slice (some ⟨g, (i + 2) * 2, none⟩) (n - (i + 1)) (c - (i + 2))) (.slice (some ⟨g, (i + 1) * 2, none⟩) (n - (i + 1)) (c - (i + 1))) (by simp [Act.eval, Act.put]) (by simp [Act.eval, Act.put]) (HC1.out w.drew.drew rfl 3 (c - (i + 2)) (c - (i + 1))) ?_)
  have hcc := HC2.out w.drew.drew (w.drew.drew.setCells g ((i + 2) * 2) (f2 (l.drop (i + 1)))) rfl rfl
  go_wp2_with fail
  go_ret
  have hf := HFIN.out w.drew.drew _ rfl (gb_trans (gb_drew w _) (gb_drew _ _)) rfl (World.grownBy.refl _ _)
  exact ⟨_, rfl, hf.1, hf.2, .inl rfl⟩
end Idx
end Go.Proofs.Ytapdhelioecneaa
