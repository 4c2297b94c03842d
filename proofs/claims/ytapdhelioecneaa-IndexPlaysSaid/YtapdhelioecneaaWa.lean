/- slices.Replace: two by one, at the end. Condition: no more than three thousand blocks. -/
import Derived.Test.YtapdhelioecneaaW7
namespace Go.Proofs.Ytapdhelioecneaa
open Go.RowKit
namespace Idx
set_option maxHeartbeats 8000000 in
set_option maxRecDepth 100000 in
theorem rep1_end {base2 : Nat} {l m : List Bkm} {g c vb vc : Nat} {w : World} (h : Row2 0 l (.slice (some ⟨g, 0, none⟩) l.length c) w) (hm : m.length = 1) (hv : Row2 base2 m (.slice (some ⟨vb, 0, none⟩) m.length vc) w) (_hne : vb ≠ g) (hl : l.length ≤ 3000) (i : Nat) (hi : i + 2 = l.length) :
    Calls Try.prog 50 #[.slice (some ⟨g, 0, none⟩) l.length c, .int .i64 (i : Nat), .int .i64 ((i : Int) + 2), .slice (some ⟨vb, 0, none⟩) 1 vc] w fun e w' => RepP l m i (i + 2) (.slice (some ⟨g, 0, none⟩) l.length c) w e w' := by
  obtain ⟨cur, hg, hsz, hnc, hc63, _, hcell, hsome, hfz⟩ := row_block h
  obtain ⟨vcur, hvg, hvsz, hvn, _, _, hvcell, _, _⟩ := row_block hv
  rw [hm] at hvn hvcell
  obtain ⟨n, hn⟩ : ∃ n, n = l.length := ⟨_, rfl⟩
  rw [← hn] at hnc hcell hl ⊢
  have hgl := lt_of_block hg
  have hvl := lt_of_block hvg
  obtain ⟨i0, hi0, hz0, hz1, hz2'⟩ := info_parts tyB_i
  have hinfo : (Try.prog.info? 91).map (·.size) = some 2 := by rw [hi0]; simp [hz1]
  have hdl : (f2 (l.drop (i + 2))).length = (n - (i + 2)) * 2 := by rw [f2_len, List.length_drop, hn]
  have hml : (f2 m).length = 1 * 2 := by rw [f2_len, hm]
  have hy3 : ∀ j u, (f2 m)[j]? = some u → w.cell? ⟨vb, j, none⟩ = some u := fun j u hj => by
    have hj3 : j < 1 * 2 := by rw [← hml]; exact (List.getElem?_eq_some_iff.1 hj).1
    rw [hvcell j hj3, hj]
  have hll : (l.take i ++ m ++ l.drop (i + 2)).length = n + 1 - 2 := by rw [List.length_append, List.length_append, List.length_take, List.length_drop, ← hn, hm]; omega
  have hin : i + 2 = n := by omega
  have hap : ∀ ty, (Builtin.append_ #[65, 65] ty #[.slice (some ⟨g, 0, none⟩) i c, .slice (some ⟨vb, 0, none⟩) 1 vc]).run Try.prog w = .ok (.slice (some ⟨g, 0, none⟩) (i + 1) c) (w.setCells g (0 + i * 2) (f2 m)) := fun ty => by
    have h9 := run_append_room_cells (P := Try.prog) (w := w) 65 ty 91 i0 tyB_u hi0 g 0 i c ⟨vb, 0, none⟩ 1 vc (f2 m) (by rw [hml, hz1]) (fun j u hj => by rw [add_none, Nat.zero_add]; exact hy3 j u hj) (f2_one _) (by omega) (fun j hj => by rw [hz1, Nat.zero_add]; exact hsome _ (by rw [hml] at hj; omega)) (fun j hj => hfz _)
    rw [hz1] at h9
    exact h9
  obtain ⟨W1, hW1⟩ : ∃ W1, W1 = w.setCells g (0 + i * 2) (f2 m) := ⟨_, rfl⟩
  rw [← hW1] at hap
  obtain ⟨cur1, hg1, hz9⟩ : ∃ cur1, W1.heap[g]? = some (.cells cur1 91 (0, 0)) ∧ cur1.size = cur.size := by
    rw [hW1]; exact block_setCells g 91 _ _ w cur hg
  have hW1c : ∀ k, W1.cell? ⟨g, k, none⟩ = if 0 + i * 2 ≤ k ∧ k < 0 + i * 2 + 1 * 2 then (f2 m)[k - (0 + i * 2)]? else w.cell? ⟨g, k, none⟩ := fun k => by
    rw [hW1, setCells_get g _ _ _ (fun j hj => hsome _ (by rw [hml] at hj; omega)) k, hml]
  have hW1s : ∀ k, k < c * 2 → (W1.cell? ⟨g, k, none⟩).isSome = true := fun k hk => by
    rw [hW1c]
    split
    · rw [List.getElem?_eq_getElem (by rw [hml]; omega)]; rfl
    · exact hsome k hk
  have hW1f : ∀ k, W1.frozen? ⟨g, k, none⟩ = false := fun k => frozen_of_row W1 g k cur1 91 hg1
  have hcl : ∀ ty c9, (Builtin.clear_ #[65] ty #[.slice (some ⟨g, (i + 1) * 2, none⟩) 1 c9]).run Try.prog W1 = .ok (.tuple #[]) (W1.setCells g ((i + 1) * 2) [.slice none 0 0, .int .i64 0]) := fun ty c9 =>
    run_clear_wide W1 65 91 ty (.agg #[.slice none 0 0, .int .i64 0]) Try.underlying65 Try.zeroValue91 [.slice none 0 0, .int .i64 0] g ((i + 1) * 2) 1 c9 (by omega) (by kernel_rfl) (by intro v hv; simp at hv; rcases hv with rfl | rfl <;> rfl) (fun j hj => hW1s _ (by have : j < 2 := hj; omega)) (fun j hj => hW1f _)
  have HFIN := hide (show Row2 0 (l.take i ++ m ++ l.drop (i + 2)) (.slice (some ⟨g, 0, none⟩) (i + 1) c) (W1.setCells g ((i + 1) * 2) [.slice none 0 0, .int .i64 0]) ∧ w.grownBy (W1.setCells g ((i + 1) * 2) [.slice none 0 0, .int .i64 0]) (some g) from by
    obtain ⟨cur2, hg2, hz8⟩ := block_setCells g 91 [.slice none 0 0, .int .i64 0] ((i + 1) * 2) W1 cur1 hg1
    have hll2 : (l.take i ++ m ++ l.drop (i + 2)).length = i + 1 := by rw [hll]; omega
    refine ⟨?_, gb_trans (by rw [hW1]; exact grown_setCells g _ _ _) (grown_setCells g _ _ _)⟩
    show World.ownsRow _ 0 91 2 _ _ _
    rw [hll2]
    refine row_of_cells hg2 (by rw [hz8, hz9, hsz]) (by omega) (by unfold maxLen; omega) (Nat.zero_le _) (by rw [f2_len, hll2]) (fun j hj => ?_)
    rw [World.cell?_setCells_out g _ _ _ ⟨g, j, none⟩ (fun _ _ => .inl hj), hW1c, f2_rep l m i (i + 2) (by omega) j, hm]
    by_cases h1 : j < i * 2
    · rw [if_neg (by omega), if_pos h1, hcell j (by omega)]
    · rw [if_neg h1, if_pos (by omega), if_pos (by omega), Nat.zero_add])
  have mixed : Try.prog.follows Departure.mixedOrders = true := by kernel_rfl
  have hw1 : IntKind.i64.wrap ((i : Int) + 1) = (i : Int) + 1 := by rw [IntKind.wrap_i64]; omega
  have hw2 : IntKind.i64.wrap ((i : Int) + 2) = (i : Int) + 2 := by rw [IntKind.wrap_i64]; omega
  have ha1 : (0 : Int) ≤ (i : Int) + 1 := by omega
  have ha2 : (0 : Int) ≤ (i : Int) + 2 := by omega
  have ha3 : (i : Int) ≤ (i : Int) + 1 := by omega
  have ha4 : (i : Int) ≤ (i : Int) + 2 := by omega
  have ha5 : (i : Int) + 2 ≤ (n : Int) := by omega
  have ha6 : ((i : Int) == (i : Int) + 2) = false := by rw [beq_eq_false_iff_ne]; omega
  have ha7 : (i : Int) ≤ (n : Int) := by omega
  have ha8 : (i : Int) + 2 ≤ (c : Int) := by omega
  have ha9 : (i : Int) ≤ (c : Int) := by omega
  have hb1 : (n : Int) ≤ (c : Int) := by omega
  have htn1 : ((i : Int) + 1).toNat = i + 1 := by omega
  have htn2 : ((i : Int) + 2).toNat = i + 2 := by omega
  have hz2 : ((i : Int) + 2 == (n : Int)) = true := by rw [beq_iff_eq]; omega
  have hz3 : (i : Int) + 1 < (n : Int) := by omega
  have hz4 : n - (i + 1) = 1 := by omega
  have hz5 : ¬ (c = i + 1) := by omega
  have hz6 : (i : Int) + 1 ≤ (n : Int) := by omega
  have HAP := hide hap
  unfold RepP
  simp only [Value.ownBlock]
  clear hap hW1 hg1 hz9 hW1c hW1s hW1f hy3 hdl hml hll hinfo hi0 hz0 hz1 hz2' hvcell hvg hvsz hg hsz hcell hsome hfz h hv hn hm
  go_enter Try.func50, Try.ntmps50
  go_wp2_with (at_builtin; refine Lib.wpList_append_run _ rfl _ _ _ _ rfl _ _ rfl rfl _ _ (HAP.out _) ?_)
  go_ret
  exact ⟨_, rfl, HFIN.out.1, HFIN.out.2, .inl rfl⟩
end Idx
end Go.Proofs.Ytapdhelioecneaa
