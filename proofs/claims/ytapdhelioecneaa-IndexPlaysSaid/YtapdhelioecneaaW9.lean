/- slices.Replace: at the end. Condition: no more than three thousand blocks. -/
import Derived.Test.YtapdhelioecneaaW7
namespace Go.Proofs.Ytapdhelioecneaa
open Go.RowKit
namespace Idx
theorem row2_append {base : Nat} {l m : List Bkm} {v : Value} {vb vc : Nat} {ty : TypeId} {w : World} (h : Row2 base l v w) (hc : ∀ j u, (f2 m)[j]? = some u → w.cell? ⟨vb, j, none⟩ = some u) (hn : l.length + m.length ≤ 100000) (hb : base ≤ w.heap.size) :
    ∃ u w', (Builtin.append_ #[65, 65] ty #[v, .slice (some ⟨vb, 0, none⟩) m.length vc]).run Try.prog w = .ok u w' ∧ Row2 base (l ++ m) u w' ∧ w.grownBy w' v.ownBlock ∧ (u.ownBlock = v.ownBlock ∨ u.ownBlock = some w.heap.size) := by
  obtain ⟨i0, hi0, hz0, hz2, hz3⟩ := info_parts tyB_i
  obtain ⟨u, w', hr, hown, hgr, _, hob⟩ := run_append_own_at (P := Try.prog) (w := w) base 65 ty 91 i0 (.agg #[.slice none 0 0, .int .i64 0]) 2 32 tyB_u hi0 hz0 hz2 hz3 rfl (by decide) v l.length (f2 l) h ⟨vb, 0, none⟩ m.length vc (f2 m) (f2_len m) (fun j u hj => by rw [add_none, Nat.zero_add]; exact hc j u hj) (f2_one m) (by unfold maxLen; omega) (by omega) hb
  refine ⟨u, w', hr, ?_, hgr, hob⟩
  unfold Row2
  rw [List.length_append, f2_app]
  exact hown
set_option maxHeartbeats 8000000 in
set_option maxRecDepth 100000 in
theorem rep2_end {base2 : Nat} {l m : List Bkm} {g c vb vc : Nat} {w : World} (h : Row2 0 l (.slice (some ⟨g, 0, none⟩) l.length c) w) (hm : m.length = 2) (hv : Row2 base2 m (.slice (some ⟨vb, 0, none⟩) m.length vc) w) (_hne : vb ≠ g) (hl : l.length ≤ 3000) (i : Nat) (hi : i + 1 = l.length) :
    Calls Try.prog 50 #[.slice (some ⟨g, 0, none⟩) l.length c, .int .i64 (i : Nat), .int .i64 ((i : Int) + 1), .slice (some ⟨vb, 0, none⟩) 2 vc] w fun e w' => RepP l m i (i + 1) (.slice (some ⟨g, 0, none⟩) l.length c) w e w' := by
  obtain ⟨cur, hg, hsz, hnc, hc63, _, hcell, hsome, hfz⟩ := row_block h
  obtain ⟨vcur, hvg, hvsz, hvn, _, _, hvcell, _, _⟩ := row_block hv
  rw [hm] at hvn hvcell
  obtain ⟨n, hn⟩ : ∃ n, n = l.length := ⟨_, rfl⟩
  rw [← hn] at hnc hcell hl ⊢
  have hgl := lt_of_block hg
  have hvl := lt_of_block hvg
  obtain ⟨i0, hi0, hz0, hz1, hz2'⟩ := info_parts tyB_i
  have hinfo : (Try.prog.info? 91).map (·.size) = some 2 := by rw [hi0]; simp [hz1]
  have hdl : (f2 (l.drop (i + 1))).length = (n - (i + 1)) * 2 := by rw [f2_len, List.length_drop, hn]
  have hml : (f2 m).length = 2 * 2 := by rw [f2_len, hm]
  have hy3 : ∀ j u, (f2 m)[j]? = some u → w.cell? ⟨vb, j, none⟩ = some u := fun j u hj => by
    have hj3 : j < 2 * 2 := by rw [← hml]; exact (List.getElem?_eq_some_iff.1 hj).1
    rw [hvcell j hj3, hj]
  have hll : (l.take i ++ m ++ l.drop (i + 1)).length = n + 2 - 1 := by rw [List.length_append, List.length_append, List.length_take, List.length_drop, ← hn, hm]; omega
  have hin : i + 1 = n := by omega
  have hrow : Row2 0 (l.take i) (.slice (some ⟨g, 0, none⟩) i c) w := by
    have e : (l.take i).length = i := by rw [List.length_take]; omega
    show World.ownsRow _ 0 91 2 _ _ _
    rw [e]
    exact row_of_cells hg hsz (by omega) (by unfold maxLen; omega) (Nat.zero_le _) (by rw [f2_len, e]) (fun j hj => by rw [hcell j (by omega), f2_take, List.getElem?_take_of_lt hj])
  obtain ⟨u, w2, hr, hp, hgb, hob⟩ := row2_append (ty := 65) hrow (m := m) (vb := vb) (vc := vc) hy3 (by rw [List.length_take]; omega) (Nat.zero_le _)
  have e1 : (l.take i).length = i := by rw [List.length_take]; omega
  have e2 : (l.take i ++ m).length = n + 1 := by rw [List.length_append, e1, hm]; omega
  obtain ⟨uo, uc, rfl, _, _⟩ := hp.form
  rw [e2] at hr hp
  rw [hm] at hr
  have HP := hide (show Row2 0 (l.take i ++ m ++ l.drop (i + 1)) (.slice uo (n + 1) uc) w2 from by rw [List.drop_eq_nil_of_le (by omega), List.append_nil]; exact hp)
  have HP0 := hide (show Row2 0 (l.take i ++ m) (.slice uo (n + 1) uc) w2 from hp)
  have HG := hide hgb
  have HO := hide hob
  have HR := hide hr
  have mixed : Try.prog.follows Departure.mixedOrders = true := by kernel_rfl
  have hw1 : IntKind.i64.wrap ((i : Int) + 1) = (i : Int) + 1 := by rw [IntKind.wrap_i64]; omega
  have hw2 : IntKind.i64.wrap ((i : Int) + 2) = (i : Int) + 2 := by rw [IntKind.wrap_i64]; omega
  have ha1 : (0 : Int) ≤ (i : Int) + 1 := by omega
  have ha2 : (0 : Int) ≤ (i : Int) + 2 := by omega
  have ha3 : (i : Int) ≤ (i : Int) + 1 := by omega
  have ha4 : (i : Int) ≤ (i : Int) + 2 := by omega
  have ha5 : (i : Int) + 1 ≤ (n : Int) := by omega
  have ha6 : ((i : Int) == (i : Int) + 1) = false := by rw [beq_eq_false_iff_ne]; omega
  have ha7 : (i : Int) ≤ (n : Int) := by omega
  have ha8 : (i : Int) + 1 ≤ (c : Int) := by omega
  have ha9 : (i : Int) ≤ (c : Int) := by omega
  have hb1 : (n : Int) ≤ (c : Int) := by omega
  have htn1 : ((i : Int) + 1).toNat = i + 1 := by omega
  have htn2 : ((i : Int) + 2).toNat = i + 2 := by omega
  have hz2 : ((i : Int) + 1 == (n : Int)) = true := by rw [beq_iff_eq]; omega
  have hz3 : ¬ ((n : Int) + 1 < (n : Int)) := by omega
  unfold RepP
  rw [e2] at HO
  clear hr hrow hp hgb hob e1 e2 hy3 hdl hml hll hinfo hi0 hz0 hz1 hz2' hvcell hvg hvsz hg hsz hcell hsome hfz h hv hn hm
  go_enter Try.func50, Try.ntmps50
  go_wp2_with (at_builtin; refine Lib.wpList_append_run _ rfl _ _ _ _ rfl _ _ rfl rfl _ _ (HR.out) ?_)
  go_ret
  exact ⟨_, rfl, by first | exact HP.out | exact HP0.out, HG.out, HO.out⟩
end Idx
end Go.Proofs.Ytapdhelioecneaa
