/- slices.Replace: two by one. Condition: no more than three thousand blocks. -/
import Derived.Test.YtapdhelioecneaaW7
namespace Go.Proofs.Ytapdhelioecneaa
open Go.RowKit
namespace Idx
set_option maxHeartbeats 8000000 in
set_option maxRecDepth 100000 in
theorem rep1_mid {base2 : Nat} {l m : List Bkm} {g c vb vc : Nat} {w : World} (h : Row2 0 l (.slice (some ⟨g, 0, none⟩) l.length c) w) (hm : m.length = 1) (hv : Row2 base2 m (.slice (some ⟨vb, 0, none⟩) m.length vc) w) (_hne : vb ≠ g) (hl : l.length ≤ 3000) (i : Nat) (hi : i + 2 < l.length) :
    Calls Try.prog 50 #[.slice (some ⟨g, 0, none⟩) l.length c, .int .i64 (i : Nat), .int .i64 ((i : Int) + 2), .slice (some ⟨vb, 0, none⟩) 1 vc] w fun e w' => RepP l m i (i + 2) (.slice (some ⟨g, 0, none⟩) l.length c) w e w' := by
  obtain ⟨cur, hg, hsz, hnc, hc63, _, hcell, hsome, hfz⟩ := row_block h
  obtain ⟨vcur, hvg, hvsz, hvn, _, _, hvcell, _, _⟩ := row_block hv
  rw [hm] at hvn hvcell
  obtain ⟨n, hn⟩ : ∃ n, n = l.length := ⟨_, rfl⟩
  rw [← hn] at hnc hcell hl ⊢
  have hgl := lt_of_block hg
  have hvl := lt_of_block hvg
  obtain ⟨i0, hi0, hz0, hz1, hz2'⟩ := info_parts tyB_i
  have hinfo : (Try.prog.info? 91).map (·.size) = some 2 := by rw [hi0]; simp [hz1]
  have hdl : (f2 (l.drop (i + 2))).length = (n - (i + 2)) * 2 := by rw [f2_len, List.length_drop, hn]
  have hml : (f2 m).length = 1 * 2 := by rw [f2_len, hm]
  have hy3 : ∀ j u, (f2 m)[j]? = some u → w.cell? ⟨vb, j, none⟩ = some u := fun j u hj => by
    have hj3 : j < 1 * 2 := by rw [← hml]; exact (List.getElem?_eq_some_iff.1 hj).1
    rw [hvcell j hj3, hj]
  have hll : (l.take i ++ m ++ l.drop (i + 2)).length = n + 1 - 2 := by rw [List.length_append, List.length_append, List.length_take, List.length_drop, ← hn, hm]; omega
  have hjn : i + 2 < n := by omega
  obtain ⟨q, hq⟩ : ∃ q, q = n - 1 := ⟨_, rfl⟩
  have hc1 : ∀ ty dc, (Builtin.copy_ #[65, 65] ty #[.slice (some ⟨g, i * 2, none⟩) (q - i) dc, .slice (some ⟨vb, 0, none⟩) 1 vc]).run Try.prog w.drew = .ok (goInt 1) (w.drew.setCells g (i * 2) (f2 m)) := fun ty dc =>
    run_copy_wide w.drew 65 65 ty 91 g (i * 2) (q - i) dc ⟨vb, 0, none⟩ 1 vc (f2 m) 2 1 tyB_u hinfo (by simp only [Nat.min_def]; split <;> omega) hml
      (fun j u hj => by rw [add_none, Nat.zero_add]; exact hy3 j u hj)
      (fun j hj => by show (w.cell? _).isSome = true; exact hsome _ (by rw [hml] at hj; omega)) (fun j hj => hfz _) (f2_one _)
  obtain ⟨W1, hW1⟩ : ∃ W1, W1 = w.drew.setCells g (i * 2) (f2 m) := ⟨_, rfl⟩
  rw [← hW1] at hc1
  obtain ⟨cur1, hg1, hz9⟩ : ∃ cur1, W1.heap[g]? = some (.cells cur1 91 (0, 0)) ∧ cur1.size = cur.size := by
    rw [hW1]; exact block_setCells g 91 _ _ w.drew cur hg
  have hW1c : ∀ k, W1.cell? ⟨g, k, none⟩ = if i * 2 ≤ k ∧ k < i * 2 + 1 * 2 then (f2 m)[k - i * 2]? else w.cell? ⟨g, k, none⟩ := fun k => by
    rw [hW1, setCells_get g _ _ _ (fun j hj => by show (w.cell? _).isSome = true; exact hsome _ (by rw [hml] at hj; omega)) k, hml]
    rfl
  have hW1s : ∀ k, k < c * 2 → (W1.cell? ⟨g, k, none⟩).isSome = true := fun k hk => by
    rw [hW1c]
    split
    · rw [List.getElem?_eq_getElem (by rw [hml]; omega)]; rfl
    · exact hsome k hk
  have hW1f : ∀ k, W1.frozen? ⟨g, k, none⟩ = false := fun k => frozen_of_row W1 g k cur1 91 hg1
  have hc2 : ∀ ty dc sc, (Builtin.copy_ #[65, 65] ty #[.slice (some ⟨g, (i + 1) * 2, none⟩) (q - (i + 1)) dc, .slice (some ⟨g, (i + 2) * 2, none⟩) (n - (i + 2)) sc]).run Try.prog W1.drew = .ok (goInt ((n - (i + 2) : Nat) : Int)) (W1.drew.setCells g ((i + 1) * 2) (f2 (l.drop (i + 2)))) := fun ty dc sc =>
    run_copy_wide W1.drew 65 65 ty 91 g ((i + 1) * 2) (q - (i + 1)) dc ⟨g, (i + 2) * 2, none⟩ (n - (i + 2)) sc (f2 (l.drop (i + 2))) 2 (n - (i + 2)) tyB_u hinfo (by simp only [Nat.min_def]; split <;> omega) hdl
      (fun j u hj => by
        have hj9 : j < (n - (i + 2)) * 2 := by rw [← hdl]; exact (List.getElem?_eq_some_iff.1 hj).1
        rw [add_none]
        show W1.cell? _ = _
        rw [hW1c, if_neg (by omega), hcell _ (by omega), ← f2_dropAt]; exact hj)
      (fun j hj => by show (W1.cell? _).isSome = true; exact hW1s _ (by rw [hdl] at hj; omega)) (fun j hj => hW1f _) (f2_one _)
  obtain ⟨W2, hW2⟩ : ∃ W2, W2 = W1.drew.setCells g ((i + 1) * 2) (f2 (l.drop (i + 2))) := ⟨_, rfl⟩
  rw [← hW2] at hc2
  obtain ⟨cur2, hg2, hz8⟩ : ∃ cur2, W2.heap[g]? = some (.cells cur2 91 (0, 0)) ∧ cur2.size = cur1.size := by
    rw [hW2]; exact block_setCells g 91 _ _ W1.drew cur1 hg1
  have hW2c : ∀ k, W2.cell? ⟨g, k, none⟩ = if (i + 1) * 2 ≤ k ∧ k < (i + 1) * 2 + (n - (i + 2)) * 2 then (f2 (l.drop (i + 2)))[k - (i + 1) * 2]? else W1.cell? ⟨g, k, none⟩ := fun k => by
    rw [hW2, setCells_get g _ _ _ (fun j hj => by show (W1.cell? _).isSome = true; exact hW1s _ (by rw [hdl] at hj; omega)) k, hdl]
    rfl
  have hW2s : ∀ k, k < c * 2 → (W2.cell? ⟨g, k, none⟩).isSome = true := fun k hk => by
    rw [hW2c]
    split
    · rw [List.getElem?_eq_getElem (by rw [hdl]; omega)]; rfl
    · exact hW1s k hk
  have hW2f : ∀ k, W2.frozen? ⟨g, k, none⟩ = false := fun k => frozen_of_row W2 g k cur2 91 hg2
  have hcl : ∀ ty c9, (Builtin.clear_ #[65] ty #[.slice (some ⟨g, q * 2, none⟩) 1 c9]).run Try.prog W2 = .ok (.tuple #[]) (W2.setCells g (q * 2) [.slice none 0 0, .int .i64 0]) := fun ty c9 =>
    run_clear_wide W2 65 91 ty (.agg #[.slice none 0 0, .int .i64 0]) Try.underlying65 Try.zeroValue91 [.slice none 0 0, .int .i64 0] g (q * 2) 1 c9 (by omega) (by kernel_rfl) (by intro v hv; simp at hv; rcases hv with rfl | rfl <;> rfl) (fun j hj => hW2s _ (by have : j < 2 := hj; omega)) (fun j hj => hW2f _)
  have HFIN := hide (show Row2 0 (l.take i ++ m ++ l.drop (i + 2)) (.slice (some ⟨g, 0, none⟩) q c) (W2.setCells g (q * 2) [.slice none 0 0, .int .i64 0]) ∧ w.grownBy (W2.setCells g (q * 2) [.slice none 0 0, .int .i64 0]) (some g) from by
    obtain ⟨cur3, hg3, hz7⟩ := block_setCells g 91 [.slice none 0 0, .int .i64 0] (q * 2) W2 cur2 hg2
    have hll2 : (l.take i ++ m ++ l.drop (i + 2)).length = q := by rw [hll]; omega
    refine ⟨?_, gb_trans (gb_trans (gb_trans (gb_trans (gb_drew w _) (by rw [hW1]; exact grown_setCells g _ _ _)) (gb_drew W1 _)) (by rw [hW2]; exact grown_setCells g _ _ _)) (grown_setCells g _ _ _)⟩
    show World.ownsRow _ 0 91 2 _ _ _
    rw [hll2]
    refine row_of_cells hg3 (by rw [hz7, hz8, hz9, hsz]) (by omega) (by unfold maxLen; omega) (Nat.zero_le _) (by rw [f2_len, hll2]) (fun j hj => ?_)
    rw [World.cell?_setCells_out g _ _ _ ⟨g, j, none⟩ (fun _ _ => .inl hj), hW2c, hW1c, f2_rep l m i (i + 2) (by omega) j, hm]
    by_cases h1 : j < i * 2
    · rw [if_neg (by omega), if_neg (by omega), if_pos h1, hcell j (by omega)]
    · rw [if_neg h1]
      by_cases h2 : j < (i + 1) * 2
      · rw [if_neg (by omega), if_pos (by omega), if_pos h2]
      · rw [if_pos (by omega), if_neg h2])
  have mixed : Try.prog.follows Departure.mixedOrders = true := by kernel_rfl
  have hw1 : IntKind.i64.wrap ((i : Int) + 1) = (i : Int) + 1 := by rw [IntKind.wrap_i64]; omega
  have hw2 : IntKind.i64.wrap ((i : Int) + 2) = (i : Int) + 2 := by rw [IntKind.wrap_i64]; omega
  have ha1 : (0 : Int) ≤ (i : Int) + 1 := by omega
  have ha2 : (0 : Int) ≤ (i : Int) + 2 := by omega
  have ha3 : (i : Int) ≤ (i : Int) + 1 := by omega
  have ha4 : (i : Int) ≤ (i : Int) + 2 := by omega
  have ha5 : (i : Int) + 2 ≤ (n : Int) := by omega
  have ha6 : ((i : Int) == (i : Int) + 2) = false := by rw [beq_eq_false_iff_ne]; omega
  have ha7 : (i : Int) ≤ (n : Int) := by omega
  have ha8 : (i : Int) + 2 ≤ (c : Int) := by omega
  have ha9 : (i : Int) ≤ (c : Int) := by omega
  have hb1 : (n : Int) ≤ (c : Int) := by omega
  have htn1 : ((i : Int) + 1).toNat = i + 1 := by omega
  have htn2 : ((i : Int) + 2).toNat = i + 2 := by omega
  have hz2 : ((i : Int) + 2 == (n : Int)) = false := by rw [beq_eq_false_iff_ne]; omega
  have hs1 : (i : Int) + 1 + ((n - (i + 2) : Nat) : Int) = (q : Int) := by omega
  have hs2 : IntKind.i64.wrap (q : Int) = (q : Int) := by rw [IntKind.wrap_i64]; omega
  have hz3 : ¬ ((c : Int) < (q : Int)) := by omega
  have hz5 : (q : Int) ≤ (c : Int) := by omega
  have hz6 : (i : Int) + 1 ≤ (i : Int) + 2 := by omega
  have hz7 : (i : Int) + 1 ≤ (q : Int) := by omega
  have hz8' : (i : Int) ≤ (q : Int) := by omega
  have hz9' : ¬ (c = i + 1) := by omega
  have hz10 : ¬ (c = i + 2) := by omega
  have hz11 : ¬ (c = i) := by omega
  have hz12 : ¬ (c = q) := by omega
  have hz13 : n - q = 1 := by omega
  have hz14 : (q : Int) ≤ (n : Int) := by omega
  have HC2 := hide hc2
  unfold RepP
  simp only [Value.ownBlock]
  clear hc2 hq hW1 hg1 hz9 hW1c hW1s hW1f hW2 hg2 hz8 hW2c hW2s hW2f hy3 hdl hml hll hinfo hi0 hz0 hz1 hz2' hvcell hvg hvsz hg hsz hcell hsome hfz h hv hn hm
  go_enter Try.func50, Try.ntmps50
  go_wp2_with fail
  refine wp_region_held_drew (S := fun _ => True) (by kernel_rfl) trivial (fun hHeld => ?_)
  refine Man.t1 0 trivial ?_
  (try simp only [Act.put, Mqa, Mqb, Mqc])
  refine Man.t1 1 trivial ?_
  (try simp only [Act.put, Mqa, Mqb, Mqc])
  refine Man.t1 2 trivial ?_
  (try simp only [Act.put, Mqa, Mqb, Mqc])
  refine Man.t1 3 trivial ?_
  (try simp only [Act.put, Mqa, Mqb, Mqc])
  refine Man.t1 4 trivial ?_
  (try simp only [Act.put, Mqa, Mqb, Mqc])
  refine Man.t1 5 trivial ?_
  (try simp only [Act.put, Mqa, Mqb, Mqc])
  refine Man.t1 6 trivial ?_
  (try simp only [Act.put, Mqa, Mqb, Mqc])
  refine Man.t1 7 trivial ?_
  (try simp only [Act.put, Mqa, Mqb, Mqc])
  refine Man.t1 8 trivial ?_
  (try simp only [Act.put, Mqa, Mqb, Mqc])
  refine Man.t1 9 trivial ?_
  (try simp only [Act.put, Mqa, Mqb, Mqc])
  refine Man.t1 10 trivial ?_
  (try simp only [Act.put, Mqa, Mqb, Mqc])
  refine Man.t1 11 trivial ?_
  (try simp only [Act.put, Mqa, Mqb, Mqc])
  refine Man.t1 12 trivial ?_
  (try simp only [Act.put, Mqa, Mqb, Mqc])
  refine wpAnyH_done (by kernel_rfl) ?_ _
  go_wp2_with fail
  go_region_law_o (refine step_copy_runI rfl _ _ 65 65 rfl (.slice (some ⟨g, (i + 1) * 2, none⟩) (q - (i + 1)) (c - (i + 1))) (.slice (some ⟨g, (i + 2) * 2, none⟩) (n - (i + 2)) (c - (i + 2))) (by simp [Act.eval, Act.put]) (by simp [Act.eval, Act.put]) (HC2.out 3 (c - (i + 1)) (c - (i + 2))) ?_)
  go_wp2_with fail
  go_ret
  exact ⟨_, rfl, HFIN.out.1, HFIN.out.2, .inl rfl⟩
end Idx
end Go.Proofs.Ytapdhelioecneaa
