/- The iterator over the blocks. Condition: less than a thousand of them. -/
import Derived.Test.YtapdhelioecneaaWg
import Derived.RangeFuncNested
import Derived.RangeFuncBound
import Derived.RangeFuncCalls
import Derived.RangeFuncLeaves
import Derived.RangeFuncBox
import Derived.OwnWalkIn
import Derived.TacticsInMore
import Derived.LoopNIn
import Derived.LoopIn
namespace Go.Proofs.Ytapdhelioecneaa
open Go.RowKit
attribute [local go_sem] Oper.semAt_some
namespace Idx
set_option maxHeartbeats 1000000 in
set_option maxRecDepth 100000 in
theorem from_any (R f : Nat) (w : World) : Calls Try.prog 44 #[.pointer (some ⟨R, 1, none⟩), .int .i64 f] w fun e w' => e = .returned (.func (.func 58) #[] #[.pointer (some ⟨w.heap.size, 0, none⟩), .pointer (some ⟨w.heap.size + 1, 0, none⟩)]) ∧ w' = (w.alloc (.cells #[.pointer (some ⟨R, 1, none⟩)] 92)).alloc (.cells #[.int .i64 f] 3) := by
  go_enter Try.func44, Try.ntmps44
  go_wp2_with fail
  go_ret
  exact ⟨rfl, rfl⟩
def encB (x : Bkm) : Array Value := #[.agg #[.slice x.ao x.xs.length x.cap, .int .i64 (maxE x.xs)]]
theorem getElem_drop_take {l : List Bkm} {f k : Nat} (h : f + k < l.length) : (l.drop f).take (k + 1) = (l.drop f).take k ++ [l[f + k]] := by
  have h1 : k < (l.drop f).length := by rw [List.length_drop]; omega
  rw [List.take_succ_eq_append_getElem h1, List.getElem_drop]
set_option maxHeartbeats 4000000 in
set_option maxRecDepth 100000 in
/-- The iterator: the blocks from a place on, for every loop body that keeps what lay below n₀. -/
theorem from1_in (n : Nat) (hn : 1 ≤ n) (l B1 B2 n₀ R f : Nat) (Bs : List Bkm) (ao : Option Addr) (cap : Nat) (J Jx : List Bkm → World → Prop)
    (hY : ∀ pre x W, J pre W → pre ++ [x] <+: Bs.drop f → YieldAt Fence.wide (n - 1) Try.prog l (encB x) W fun e W' =>
      (e = .returned (.bool true) ∧ J (pre ++ [x]) W' ∧ Below n₀ W W') ∨ (e = .returned (.bool false) ∧ Jx (pre ++ [x]) W'))
    (W : World) (hJ : AbidesFrom W.heap.size J) (hB1 : W.cell? ⟨B1, 0, none⟩ = some (.pointer (some ⟨R, 1, none⟩))) (hB2 : W.cell? ⟨B2, 0, none⟩ = some (.int .i64 f))
    (hR : W.cell? ⟨R, 2, none⟩ = some (.slice ao Bs.length cap)) (hA : BksAt Bs (.slice ao Bs.length cap) W) (hbl : ∀ p, ao = some p → p.block < n₀) (hnW : n₀ ≤ W.heap.size) (hf : f < Bs.length) (hlen : Bs.length ≤ 1000) (h0 : J [] W) :
    CallsIn Fence.wide n Try.prog 58 #[.func (.yield l) #[] #[], .pointer (some ⟨B1, 0, none⟩), .pointer (some ⟨B2, 0, none⟩)] W fun e W' => (∃ v, e = .returned v) ∧
      ((∃ ys, ys = Bs.drop f ∧ J ys W') ∨ (∃ pre, pre <+: Bs.drop f ∧ Jx pre W')) := by
  have HA := hide hA
  have HJ := hide hJ
  have HY := hide hY
  obtain ⟨g, off, cap', he, hg, _, _⟩ := hA.at f hf
  simp only [Value.slice.injEq, true_and] at he
  obtain ⟨rfl, rfl⟩ := he
  have hgn := hbl _ rfl
  have hcap : Bs.length ≤ cap := by obtain ⟨_, cp, e, h9, _⟩ := hA.form; simp only [Value.slice.injEq, true_and] at e; omega
  obtain ⟨m, hm⟩ : ∃ m, m = Bs.length := ⟨_, rfl⟩
  have HM := hide hm
  rw [← hm] at hR hf hlen hcap
  obtain ⟨k, hk⟩ : ∃ k, k = m - f := ⟨_, rfl⟩
  have HK := hide hk
  have h00 : Hid (J [] W.drew) := hide (hJ [] W W.drew none h0 (gb_drew W none) (fun r e => by cases e))
  have HS := hide (show W.drew.cell? ⟨B1, 0, none⟩ = some (.pointer (some ⟨R, 1, none⟩)) ∧ W.drew.cell? ⟨B2, 0, none⟩ = some (.int .i64 f) ∧ W.drew.cell? ⟨R, 2, none⟩ = some (.slice (some ⟨g, off, none⟩) m cap) from ⟨hB1, hB2, hR⟩)
  have b1 : (f : Int) ≤ (m : Int) := by omega
  have b2 : (m : Int) ≤ (cap : Int) := by omega
  have b3 : ¬ cap = f := by omega
  have HNW := hide hnW
  clear hA hJ hY hm hk hB1 hB2 hR hbl h0
  refine callsIn_of_wp Try.func58 rfl trivial (wpIn_wide.2 ?_) rfl
  simp only [Try.ntmps58, List.size_toArray, List.length_cons, List.length_nil, Nat.reduceAdd, Nat.reduceSub, Array.replicate_succ, Array.replicate_zero, List.push_toArray, List.append_toArray, List.nil_append, List.cons_append]
  go_wp2_with fail
  refine wp_region_held_drew (S := fun u => u.cell? ⟨B1, 0, none⟩ = some (.pointer (some ⟨R, 1, none⟩)) ∧ u.cell? ⟨B2, 0, none⟩ = some (.int .i64 f) ∧ u.cell? ⟨R, 2, none⟩ = some (.slice (some ⟨g, off, none⟩) m cap)) (by kernel_rfl) HS.out (fun hHeld => ?_)
  refine Man.t1 0 hHeld ?_
  (try simp only [Act.put, Mqa, Mqb, Mqc])
  refine Man.t1 1 hHeld ?_
  (try simp only [Act.put, Mqa, Mqb, Mqc])
  refine Man.t1 2 hHeld ?_
  (try simp only [Act.put, Mqa, Mqb, Mqc])
  refine Man.t1 3 hHeld ?_
  (try simp only [Act.put, Mqa, Mqb, Mqc])
  refine Man.t1 4 hHeld ?_
  (try simp only [Act.put, Mqa, Mqb, Mqc])
  refine Man.t1 5 hHeld ?_
  (try simp only [Act.put, Mqa, Mqb, Mqc])
  refine Man.t1 6 hHeld ?_
  (try simp only [Act.put, Mqa, Mqb, Mqc])
  refine Man.t1 7 hHeld ?_
  (try simp only [Act.put, Mqa, Mqb, Mqc])
  refine wpAnyH_done (by kernel_rfl) ?_ _
  go_wp2_with fail
  rw [show m - f = k from HK.out.symm]
  refine (wpIn_wide (n := n)).1 ?_
  gi_loopw [13] (fun i wr => ∃ j : Nat, j ≤ k ∧ i = .int .i64 j ∧ Hid (J ((Bs.drop f).take j) wr) ∧ Hid (Below n₀ W wr)) (fun i _ => k - (intOf i).toNat)
  case atStart => exact ⟨0, Nat.zero_le _, rfl, hide (by rw [List.take_zero]; exact h00.out), hide ((Below.refl _ _).drew)⟩
  case round =>
    rename World => wr
    obtain ⟨j, hj, rfl, HJs, HB⟩ := hrel
    by_cases hlt : j < k
    · have hfj : f + j < Bs.length := by have := HK.out; have := HM.out; omega
      have g1 : (j : Int) < (k : Int) := by omega
      have HW := hide (show wrap64 ((j : Int) + 1) = (j : Int) + 1 from by have := HK.out; unfold wrap64; omega)
      have hq := (HA.out.keep (w' := wr) (Nat.le_trans (by exact Nat.le_refl _) HB.out.size) (fun g9 h9 => by have e9 : g = g9 := Option.some.inj h9; subst e9; exact HB.out.block g hgn)).at (f + j) hfj
      obtain ⟨g9, off9, c9, he9, _, k0, k1⟩ := hq
      simp only [Value.slice.injEq, Option.some.injEq, Addr.mk.injEq, and_true, true_and] at he9
      obtain ⟨⟨rfl, rfl⟩, rfl⟩ := he9
      have HTK := hide (getElem_drop_take hfj)
      obtain ⟨x, hx⟩ : ∃ x, x = Bs[f + j] := ⟨_, rfl⟩
      rw [← hx] at k0 k1 HTK
      rw [show off + (f + j) * 2 = off + f * 2 + j * 2 by omega] at k0 k1
      have hJA := HJ.out _ wr (wr.alloc (.cells #[.slice x.ao x.xs.length x.cap, .int .i64 (maxE x.xs)] 91)) none HJs.out (World.grownBy_alloc _ _ none) (fun r e => by cases e)
      have HBA := hide ((below_alloc wr (.cells #[.slice x.ao x.xs.length x.cap, .int .i64 (maxE x.xs)] 91)).mono (show n₀ ≤ wr.heap.size from Nat.le_trans HNW.out HB.out.size))
      obtain ⟨fn, tmps, assign, body, hy, hRd⟩ := HY.out _ x _ hJA (by rw [← HTK.out]; exact List.take_prefix _ _)
      unfold encB at hy
      clear hx hJA
      gi_wp2
      refine hRd.mono ?_
      rintro e W3 (⟨rfl, hJ3, hk3⟩ | ⟨rfl, hJx3⟩)
      · have HJ3 := hide (show J ((Bs.drop f).take (j + 1)) W3 from by rw [HTK.out]; exact hJ3)
        have HB3 := hide ((HB.out.trans HBA.out).trans hk3)
        clear hJ3 hk3 hy hRd
        gi_wp2
        go_roundw
        case rel => exact ⟨j + 1, by omega, by rw [HW.out]; rfl, HJ3, HB3⟩
        case measure => rw [HW.out]; simp only [intOf]; omega
      · have HX3 := hide (show Jx ((Bs.drop f).take (j + 1)) W3 from by rw [HTK.out]; exact hJx3)
        clear hJx3 hy hRd
        gi_wp2
        refine bodyPost_ret (results_none rfl _ _ _) rfl ?_
        exact ⟨⟨_, rfl⟩, .inr ⟨_, List.take_prefix _ _, HX3.out⟩⟩
    · obtain rfl : j = k := by omega
      have g1 : ¬ (j : Int) < (j : Int) := by omega
      have HJ3 := hide (show J (Bs.drop f) wr from by have h9 := HJs.out; rwa [List.take_of_length_le (by rw [List.length_drop]; have := HK.out; have := HM.out; omega)] at h9)
      gi_wp2
      go_end0
      first
        | exact ⟨⟨_, rfl⟩, .inl ⟨_, rfl, HJ3.out⟩⟩
        | exact ⟨⟨_, rfl⟩, .inl HJ3.out⟩
end Idx
end Go.Proofs.Ytapdhelioecneaa
