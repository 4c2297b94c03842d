/- slices.Replace: there is no room. Condition: no more than three thousand blocks. -/
import Derived.Test.YtapdhelioecneaaW7
namespace Go.Proofs.Ytapdhelioecneaa
open Go.RowKit
namespace Idx
set_option maxHeartbeats 8000000 in
set_option maxRecDepth 100000 in
theorem rep2_grow {base2 : Nat} {l m : List Bkm} {g c vb vc : Nat} {w : World} (h : Row2 0 l (.slice (some ⟨g, 0, none⟩) l.length c) w) (hm : m.length = 2) (hv : Row2 base2 m (.slice (some ⟨vb, 0, none⟩) m.length vc) w) (_hne : vb ≠ g) (hl : l.length ≤ 3000) (i : Nat) (hi : i + 1 < l.length) (hroom : c < l.length + 1) :
    Calls Try.prog 50 #[.slice (some ⟨g, 0, none⟩) l.length c, .int .i64 (i : Nat), .int .i64 ((i : Int) + 1), .slice (some ⟨vb, 0, none⟩) 2 vc] w fun e w' => RepP l m i (i + 1) (.slice (some ⟨g, 0, none⟩) l.length c) w e w' := by
  obtain ⟨cur, hg, hsz, hnc, hc63, _, hcell, hsome, hfz⟩ := row_block h
  obtain ⟨vcur, hvg, hvsz, hvn, _, _, hvcell, _, _⟩ := row_block hv
  rw [hm] at hvn hvcell
  obtain ⟨n, hn⟩ : ∃ n, n = l.length := ⟨_, rfl⟩
  rw [← hn] at hnc hcell hl ⊢
  have hgl := lt_of_block hg
  have hvl := lt_of_block hvg
  obtain ⟨i0, hi0, hz0, hz1, hz2'⟩ := info_parts tyB_i
  have hinfo : (Try.prog.info? 91).map (·.size) = some 2 := by rw [hi0]; simp [hz1]
  have hdl : (f2 (l.drop (i + 1))).length = (n - (i + 1)) * 2 := by rw [f2_len, List.length_drop, hn]
  have hml : (f2 m).length = 2 * 2 := by rw [f2_len, hm]
  have hy3 : ∀ j u, (f2 m)[j]? = some u → w.cell? ⟨vb, j, none⟩ = some u := fun j u hj => by
    have hj3 : j < 2 * 2 := by rw [← hml]; exact (List.getElem?_eq_some_iff.1 hj).1
    rw [hvcell j hj3, hj]
  have hll : (l.take i ++ m ++ l.drop (i + 1)).length = n + 2 - 1 := by rw [List.length_append, List.length_append, List.length_take, List.length_drop, ← hn, hm]; omega
  have hjn : i + 1 < n := by omega
  have hl3 : ∀ j u, j < n * 2 → (f2 l)[j]? = some u → w.cell? ⟨g, j, none⟩ = some u := fun j u h9 hj => by rw [hcell j h9, hj]
  have htl : (f2 (l.take i)).length = i * 2 := by rw [f2_len, List.length_take]; omega
  have hkk : (n : Int) + 1 - (i : Int) = ((n + 1 - i : Nat) : Int) := by omega
  have hik : i + (n + 1 - i) = n + 1 := by omega
  have htk : ∀ j, j < i * 2 → (f2 (l.take i))[j]? = (f2 l)[j]? := fun j hj => by rw [f2_take, List.getElem?_take_of_lt hj]
  have hold : (Builtin.firstCells i0.size i (.slice (some ⟨g, 0, none⟩) i c)).run Try.prog w.drew.drew = .ok (f2 (l.take i)).toArray w.drew.drew := by
    rw [hz1]
    exact run_firstCells_some w.drew.drew 2 i ⟨g, 0, none⟩ i c (f2 (l.take i)) htl (fun j v hj => by
      have hj3 : j < i * 2 := by rw [← htl]; exact (List.getElem?_eq_some_iff.1 hj).1
      rw [htk j hj3] at hj
      rw [add_none, Nat.zero_add]
      exact hl3 j v (by omega) hj)
  obtain ⟨z, hz⟩ : ∃ z : Value, z = .agg #[.slice none 0 0, .int .i64 0] := ⟨_, rfl⟩
  rw [← hz] at hz0
  have hzc : z.cells.size = 2 := by rw [hz]; rfl
  have hrz : ∀ ty, (Builtin.append_ #[65, 3] ty #[.slice (some ⟨g, 0, none⟩) i c, .int .i64 ((n : Int) + 1 - (i : Int))]).run Try.prog w.drew =
      .ok (.slice (some ⟨w.heap.size, 0, none⟩) (n + 1) (grownCap w.drew (n + 1) c 91)) (w.drew.drew.alloc (.cells ((f2 (l.take i)).toArray ++ Builtin.zeroCells z.cells (n + 1 - i) ++ Builtin.zeroCells z.cells (grownCap w.drew (n + 1) c 91 - (n + 1))) 91)) := fun ty => by
    have h := Lib.run_append_grow_zeros w.drew 65 3 ty 91 i0 z .i64 .i64 tyB_u Try.underlying3 hi0 hz0 (some ⟨g, 0, none⟩) i c (f2 (l.take i)) hold (n + 1 - i) (by omega) (by omega) (by omega) (by omega) (by rw [hz2']; omega) (by rw [hz2', hik]; exact growslice_fits (by omega) (by omega))
    rw [hik] at h
    rw [hkk]
    exact h
  obtain ⟨G, hG⟩ : ∃ G, G = grownCap w.drew (n + 1) c 91 := ⟨_, rfl⟩
  obtain ⟨ROW, hROW⟩ : ∃ ROW : Array Value, ROW = (f2 (l.take i)).toArray ++ Builtin.zeroCells z.cells (n + 1 - i) ++ Builtin.zeroCells z.cells (G - (n + 1)) := ⟨_, rfl⟩
  rw [← hG] at hrz
  rw [← hROW] at hrz
  have hGn : n + 1 ≤ G := by rw [hG]; exact grownCap_ge w.drew _ _ _
  have hRz : ROW.size = G * 2 := by
    rw [hROW, Array.size_append, Array.size_append, size_zeroCells, size_zeroCells, hzc]
    simp only [List.size_toArray, htl]
    omega
  have hRt : ∀ j, j < i * 2 → ROW[j]? = (f2 l)[j]? := fun j hj => by
    rw [hROW, Array.append_assoc, Array.getElem?_append_left (by simp only [List.size_toArray, htl]; omega), List.getElem?_toArray, htk j hj]
  have hG63 : G ≤ 9223372036854775807 := by
    have := grownCap_le_maxLen w.drew (n + 1) c 91 (by unfold maxLen; omega)
    rw [← hG] at this
    unfold maxLen at this
    omega
  obtain ⟨N, hN⟩ : ∃ N, N = w.heap.size := ⟨_, rfl⟩
  obtain ⟨W1, hW1⟩ : ∃ W1, W1 = w.drew.drew.alloc (.cells ROW 91) := ⟨_, rfl⟩
  rw [← hW1, ← hN] at hrz
  have hNg : W1.heap[N]? = some (.cells ROW 91 (0, 0)) := by rw [hW1, hN]; exact heap_alloc_new w.drew.drew _
  have hNc : ∀ j, W1.cell? ⟨N, j, none⟩ = ROW[j]? := fun j => by rw [cell_of_row _ _ _ _ _ (0, 0) hNg]
  have hNs : ∀ j, j < G * 2 → (W1.cell? ⟨N, j, none⟩).isSome = true := fun j hj => by rw [hNc, Array.getElem?_eq_getElem (by omega)]; rfl
  have hNf : ∀ j, W1.frozen? ⟨N, j, none⟩ = false := fun j => frozen_of_row W1 N j ROW 91 hNg
  have hOld : ∀ b j, b < w.heap.size → W1.cell? ⟨b, j, none⟩ = w.cell? ⟨b, j, none⟩ := fun b j hb => by rw [hW1, World.cell?_alloc_past (w := w.drew.drew) _ b j hb]; rfl
  have hGW1 : w.grownBy W1 (some g) := by
    rw [hW1]
    exact gb_trans (gb_trans (gb_drew w _) (gb_drew _ _)) (World.grownBy_alloc _ _ _)
  have hc1 : ∀ ty dc, (Builtin.copy_ #[65, 65] ty #[.slice (some ⟨N, i * 2, none⟩) (n + 1 - i) dc, .slice (some ⟨vb, 0, none⟩) 2 vc]).run Try.prog W1 = .ok (goInt 2) (W1.setCells N (i * 2) (f2 m)) := fun ty dc =>
    run_copy_wide W1 65 65 ty 91 N (i * 2) (n + 1 - i) dc ⟨vb, 0, none⟩ 2 vc (f2 m) 2 2 tyB_u hinfo (by simp only [Nat.min_def]; split <;> omega) hml
      (fun j u hj => by rw [add_none, Nat.zero_add, hOld vb j hvl]; exact hy3 j u hj)
      (fun j hj => hNs _ (by rw [hml] at hj; omega)) (fun j hj => hNf _) (f2_one _)
  have hW2c : ∀ k, (W1.setCells N (i * 2) (f2 m)).cell? ⟨N, k, none⟩ = if i * 2 ≤ k ∧ k < i * 2 + 2 * 2 then (f2 m)[k - i * 2]? else ROW[k]? := fun k => by
    rw [setCells_get N _ _ _ (fun j hj => hNs _ (by rw [hml] at hj; omega)) k, hml, hNc]
  have hW2s : ∀ k, k < G * 2 → ((W1.setCells N (i * 2) (f2 m)).cell? ⟨N, k, none⟩).isSome = true := fun k hk => by
    rw [hW2c]
    split
    · rw [List.getElem?_eq_getElem (by rw [hml]; omega)]; rfl
    · rw [Array.getElem?_eq_getElem (by omega)]; rfl
  have hc2 : ∀ ty dc sc, (Builtin.copy_ #[65, 65] ty #[.slice (some ⟨N, (i + 2) * 2, none⟩) (n - (i + 1)) dc, .slice (some ⟨g, (i + 1) * 2, none⟩) (n - (i + 1)) sc]).run Try.prog (W1.setCells N (i * 2) (f2 m)).drew = .ok (goInt ((n - (i + 1) : Nat) : Int)) ((W1.setCells N (i * 2) (f2 m)).drew.setCells N ((i + 2) * 2) (f2 (l.drop (i + 1)))) := fun ty dc sc =>
    run_copy_wide _ 65 65 ty 91 N ((i + 2) * 2) (n - (i + 1)) dc ⟨g, (i + 1) * 2, none⟩ (n - (i + 1)) sc (f2 (l.drop (i + 1))) 2 (n - (i + 1)) tyB_u hinfo (by simp only [Nat.min_def]; split <;> omega) hdl
      (fun j u hj => by
        have hj9 : j < (n - (i + 1)) * 2 := by rw [← hdl]; exact (List.getElem?_eq_some_iff.1 hj).1
        rw [add_none]
        show (W1.setCells N (i * 2) (f2 m)).cell? _ = _
        rw [World.cell?_setCells_out N _ _ _ _ (fun h9 _ => by have h8 : g = N := h9; omega), hOld g _ hgl]
        rw [f2_dropAt] at hj
        exact hl3 _ u (by omega) hj)
      (fun j hj => by show ((W1.setCells N (i * 2) (f2 m)).cell? _).isSome = true; exact hW2s _ (by rw [hdl] at hj; omega)) (fun j hj => by show (W1.setCells N (i * 2) (f2 m)).frozen? _ = false; rw [World.frozen?_setCells]; exact hNf _) (f2_one _)
  have HFIN := hide (show Row2 0 (l.take i ++ m ++ l.drop (i + 1)) (.slice (some ⟨N, 0, none⟩) (n + 1) G) ((W1.setCells N (i * 2) (f2 m)).drew.setCells N ((i + 2) * 2) (f2 (l.drop (i + 1)))) ∧ w.grownBy ((W1.setCells N (i * 2) (f2 m)).drew.setCells N ((i + 2) * 2) (f2 (l.drop (i + 1)))) (some g) from by
    obtain ⟨cur1, h1, h1z⟩ := block_setCells N 91 (f2 m) (i * 2) W1 ROW hNg
    obtain ⟨cur2, h2, h2z⟩ := block_setCells N 91 (f2 (l.drop (i + 1))) ((i + 2) * 2) (W1.setCells N (i * 2) (f2 m)).drew cur1 h1
    refine ⟨?_, gb_new (gb_trans (gb_new hGW1 (grown_setCells N _ _ _) (by omega)) (gb_drew _ _)) (grown_setCells N _ _ _) (by omega)⟩
    show World.ownsRow _ 0 91 2 _ _ _
    rw [hll]
    refine row_of_cells h2 (by rw [h2z, h1z, hRz]) (by omega) (by unfold maxLen; omega) (Nat.zero_le _) (by rw [f2_len, hll]; omega) (fun j hj9 => ?_)
    rw [setCells_get N _ _ _ (fun k hk => by show ((W1.setCells N (i * 2) (f2 m)).cell? _).isSome = true; exact hW2s _ (by rw [hdl] at hk; omega)) j, hdl, f2_rep l m i (i + 1) (by omega) j, hm]
    have e9 : (W1.setCells N (i * 2) (f2 m)).drew.cell? ⟨N, j, none⟩ = (W1.setCells N (i * 2) (f2 m)).cell? ⟨N, j, none⟩ := rfl
    rw [e9, hW2c]
    by_cases h1 : j < i * 2
    · rw [if_neg (by omega), if_neg (by omega), if_pos h1, hRt j h1]
    · rw [if_neg h1]
      by_cases h2 : j < (i + 2) * 2
      · rw [if_neg (by omega), if_pos (by omega), if_pos h2]
      · rw [if_pos (by omega), if_neg h2])
  have mixed : Try.prog.follows Departure.mixedOrders = true := by kernel_rfl
  have hw1 : IntKind.i64.wrap ((i : Int) + 1) = (i : Int) + 1 := by rw [IntKind.wrap_i64]; omega
  have hw2 : IntKind.i64.wrap ((i : Int) + 2) = (i : Int) + 2 := by rw [IntKind.wrap_i64]; omega
  have ha1 : (0 : Int) ≤ (i : Int) + 1 := by omega
  have ha2 : (0 : Int) ≤ (i : Int) + 2 := by omega
  have ha3 : (i : Int) ≤ (i : Int) + 1 := by omega
  have ha4 : (i : Int) ≤ (i : Int) + 2 := by omega
  have ha5 : (i : Int) + 1 ≤ (n : Int) := by omega
  have ha6 : ((i : Int) == (i : Int) + 1) = false := by rw [beq_eq_false_iff_ne]; omega
  have ha7 : (i : Int) ≤ (n : Int) := by omega
  have ha8 : (i : Int) + 1 ≤ (c : Int) := by omega
  have ha9 : (i : Int) ≤ (c : Int) := by omega
  have hb1 : (n : Int) ≤ (c : Int) := by omega
  have htn1 : ((i : Int) + 1).toNat = i + 1 := by omega
  have htn2 : ((i : Int) + 2).toNat = i + 2 := by omega
  have hz2 : ((i : Int) + 1 == (n : Int)) = false := by rw [beq_eq_false_iff_ne]; omega
  have hs1 : (i : Int) + 2 + ((n - (i + 1) : Nat) : Int) = (n : Int) + 1 := by omega
  have hs2 : IntKind.i64.wrap ((n : Int) + 1) = (n : Int) + 1 := by rw [IntKind.wrap_i64]; omega
  have hs3 : ((n : Int) + 1).toNat = n + 1 := by omega
  have hz4 : (0 : Int) ≤ (n : Int) + 1 := by omega
  have hz7 : (i : Int) + 2 ≤ (n : Int) + 1 := by omega
  have hz8 : (i : Int) ≤ (n : Int) + 1 := by omega
  have hz9 : ¬ (c = i + 1) := by omega
  have hz11 : ¬ (c = i) := by omega
  have hz3 : (c : Int) < (n : Int) + 1 := by omega
  have hs4 : IntKind.i64.wrap ((n : Int) + 1 - (i : Int)) = (n : Int) + 1 - (i : Int) := by rw [IntKind.wrap_i64]; omega
  have hg1 : ¬ (G = i) := by omega
  have hg2 : ¬ (G = i + 2) := by omega
  have HC2 := hide hc2
  have HRZ := hide hrz
  have HN := hide hN
  unfold RepP
  simp only [Value.ownBlock]
  clear hrz hc2 hl3 htl hkk hik htk hold hz hzc hz0 hG hROW hGn hRz hRt hW1 hNg hNc hNs hNf hOld hGW1 hW2c hW2s hG63 hN hy3 hdl hml hll hinfo hi0 hz1 hz2' hvcell hvg hvsz hg hsz hcell hsome hfz h hv hn hm
  go_enter Try.func50, Try.ntmps50
  go_wp2_with fail
  refine wp_region_held_drew (S := fun _ => True) (by kernel_rfl) trivial (fun hHeld => ?_)
  refine Man.t1 0 trivial ?_
  (try simp only [Act.put, Mqa, Mqb, Mqc])
  refine Man.t1 1 trivial ?_
  (try simp only [Act.put, Mqa, Mqb, Mqc])
  refine Man.t1 2 trivial ?_
  (try simp only [Act.put, Mqa, Mqb, Mqc])
  refine Man.t1 3 trivial ?_
  (try simp only [Act.put, Mqa, Mqb, Mqc])
  refine Man.t1 4 trivial ?_
  (try simp only [Act.put, Mqa, Mqb, Mqc])
  refine Man.t1 5 trivial ?_
  (try simp only [Act.put, Mqa, Mqb, Mqc])
  refine Man.t1 6 trivial ?_
  (try simp only [Act.put, Mqa, Mqb, Mqc])
  refine Man.t1 7 trivial ?_
  (try simp only [Act.put, Mqa, Mqb, Mqc])
  refine Man.t1 8 trivial ?_
  (try simp only [Act.put, Mqa, Mqb, Mqc])
  refine Man.t1 9 trivial ?_
  (try simp only [Act.put, Mqa, Mqb, Mqc])
  refine Man.t1 10 trivial ?_
  (try simp only [Act.put, Mqa, Mqb, Mqc])
  refine Man.t1 11 trivial ?_
  (try simp only [Act.put, Mqa, Mqb, Mqc])
  refine Man.t1 12 trivial ?_
  (try simp only [Act.put, Mqa, Mqb, Mqc])
  refine wpAnyH_done (by kernel_rfl) ?_ _
  go_wp2_with (at_builtin; refine Lib.wpList_append_run _ rfl _ _ _ _ rfl _ _ rfl rfl _ _ (HRZ.out _) ?_)
  go_region_law_o (refine step_copy_runI rfl _ _ 65 65 rfl (.slice (some ⟨N, (i + 2) * 2, none⟩) (n - (i + 1)) (G - (i + 2))) (.slice (some ⟨g, (i + 1) * 2, none⟩) (n - (i + 1)) (c - (i + 1))) (by simp [Act.eval, Act.put]) (by simp [Act.eval, Act.put]) (HC2.out 3 (G - (i + 2)) (c - (i + 1))) ?_)
  go_wp2_with fail
  go_ret
  exact ⟨_, rfl, HFIN.out.1, HFIN.out.2, .inr (by show some N = some w.heap.size; rw [HN.out])⟩
end Idx
end Go.Proofs.Ytapdhelioecneaa
