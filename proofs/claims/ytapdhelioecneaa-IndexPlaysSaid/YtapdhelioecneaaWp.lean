/- Max, Blocks, Len. Condition: less than a thousand items. -/
import Derived.Test.YtapdhelioecneaaWo
namespace Go.Proofs.Ytapdhelioecneaa
open Go.RowKit
attribute [local go_sem] Oper.semAt_some
namespace Idx
set_option maxHeartbeats 2000000 in
set_option maxRecDepth 100000 in
theorem from1_nil (n : Nat) (l B1 B2 R : Nat) (ao : Option Addr) (cap : Nat) (J Jx : List Bkm → World → Prop) (W : World) (hJ : AbidesFrom W.heap.size J) (hB1 : W.cell? ⟨B1, 0, none⟩ = some (.pointer (some ⟨R, 1, none⟩))) (hB2 : W.cell? ⟨B2, 0, none⟩ = some (.int .i64 (0 : Nat)))
    (hR : W.cell? ⟨R, 2, none⟩ = some (.slice ao 0 cap)) (hao : ao = none ∨ ∃ g, ao = some ⟨g, 0, none⟩) (h0 : J [] W) :
    CallsIn Fence.wide n Try.prog 58 #[.func (.yield l) #[] #[], .pointer (some ⟨B1, 0, none⟩), .pointer (some ⟨B2, 0, none⟩)] W fun e W' => (∃ v, e = .returned v) ∧
      ((∃ ys, ys = ([] : List Bkm) ∧ J ys W') ∨ (∃ pre, pre <+: ([] : List Bkm) ∧ Jx pre W')) := by
  have h00 : Hid (J [] W.drew) := hide (hJ [] W W.drew none h0 (gb_drew W none) (fun r e => by cases e))
  rcases hao with rfl | ⟨g, rfl⟩
  · have HS := hide (show W.drew.cell? ⟨B1, 0, none⟩ = some (.pointer (some ⟨R, 1, none⟩)) ∧ W.drew.cell? ⟨B2, 0, none⟩ = some (.int .i64 0) ∧ W.drew.cell? ⟨R, 2, none⟩ = some (.slice none 0 cap) from ⟨hB1, hB2, hR⟩)
    have hc : (0 : Int) ≤ (cap : Int) := by omega
    clear hJ hB1 hB2 hR h0
    refine callsIn_of_wp Try.func58 rfl trivial (wpIn_wide.2 ?_) rfl
    simp only [Try.ntmps58, List.size_toArray, List.length_cons, List.length_nil, Nat.reduceAdd, Nat.reduceSub, Array.replicate_succ, Array.replicate_zero, List.push_toArray, List.append_toArray, List.nil_append, List.cons_append]
    go_wp2_with fail
    refine wp_region_held_drew (S := fun u => u.cell? ⟨B1, 0, none⟩ = some (.pointer (some ⟨R, 1, none⟩)) ∧ u.cell? ⟨B2, 0, none⟩ = some (.int .i64 0) ∧ u.cell? ⟨R, 2, none⟩ = some (.slice none 0 cap)) (by kernel_rfl) HS.out (fun hHeld => ?_)
    refine Man.t1 0 hHeld ?_
    (try simp only [Act.put, Mqa, Mqb, Mqc])
    refine Man.t1 1 hHeld ?_
    (try simp only [Act.put, Mqa, Mqb, Mqc])
    refine Man.t1 2 hHeld ?_
    (try simp only [Act.put, Mqa, Mqb, Mqc])
    refine Man.t1 3 hHeld ?_
    (try simp only [Act.put, Mqa, Mqb, Mqc])
    refine Man.t1 4 hHeld ?_
    (try simp only [Act.put, Mqa, Mqb, Mqc])
    refine Man.t1 5 hHeld ?_
    (try simp only [Act.put, Mqa, Mqb, Mqc])
    refine Man.t1 6 hHeld ?_
    (try simp only [Act.put, Mqa, Mqb, Mqc])
    refine Man.t1 7 hHeld ?_
    (try simp only [Act.put, Mqa, Mqb, Mqc])
    refine wpAnyH_done (by kernel_rfl) ?_ _
    go_wp2_with fail
    go_loopw [13] (fun i wr => i = .int .i64 0 ∧ wr = W.drew) (fun _ _ => 0)
    case atStart => exact ⟨rfl, rfl⟩
    case round =>
      obtain ⟨rfl, rfl⟩ := hrel
      go_wp2_with fail
      go_end0
      first
        | exact ⟨⟨_, rfl⟩, .inl ⟨_, rfl, h00.out⟩⟩
        | exact ⟨⟨_, rfl⟩, .inl h00.out⟩
  · have HS := hide (show W.drew.cell? ⟨B1, 0, none⟩ = some (.pointer (some ⟨R, 1, none⟩)) ∧ W.drew.cell? ⟨B2, 0, none⟩ = some (.int .i64 0) ∧ W.drew.cell? ⟨R, 2, none⟩ = some (.slice (some ⟨g, 0, none⟩) 0 cap) from ⟨hB1, hB2, hR⟩)
    have hc : (0 : Int) ≤ (cap : Int) := by omega
    clear hJ hB1 hB2 hR h0
    refine callsIn_of_wp Try.func58 rfl trivial (wpIn_wide.2 ?_) rfl
    simp only [Try.ntmps58, List.size_toArray, List.length_cons, List.length_nil, Nat.reduceAdd, Nat.reduceSub, Array.replicate_succ, Array.replicate_zero, List.push_toArray, List.append_toArray, List.nil_append, List.cons_append]
    go_wp2_with fail
    refine wp_region_held_drew (S := fun u => u.cell? ⟨B1, 0, none⟩ = some (.pointer (some ⟨R, 1, none⟩)) ∧ u.cell? ⟨B2, 0, none⟩ = some (.int .i64 0) ∧ u.cell? ⟨R, 2, none⟩ = some (.slice (some ⟨g, 0, none⟩) 0 cap)) (by kernel_rfl) HS.out (fun hHeld => ?_)
    refine Man.t1 0 hHeld ?_
    (try simp only [Act.put, Mqa, Mqb, Mqc])
    refine Man.t1 1 hHeld ?_
    (try simp only [Act.put, Mqa, Mqb, Mqc])
    refine Man.t1 2 hHeld ?_
    (try simp only [Act.put, Mqa, Mqb, Mqc])
    refine Man.t1 3 hHeld ?_
    (try simp only [Act.put, Mqa, Mqb, Mqc])
    refine Man.t1 4 hHeld ?_
    (try simp only [Act.put, Mqa, Mqb, Mqc])
    refine Man.t1 5 hHeld ?_
    (try simp only [Act.put, Mqa, Mqb, Mqc])
    refine Man.t1 6 hHeld ?_
    (try simp only [Act.put, Mqa, Mqb, Mqc])
    refine Man.t1 7 hHeld ?_
    (try simp only [Act.put, Mqa, Mqb, Mqc])
    refine wpAnyH_done (by kernel_rfl) ?_ _
    go_wp2_with fail
    go_loopw [13] (fun i wr => i = .int .i64 0 ∧ wr = W.drew) (fun _ _ => 0)
    case atStart => exact ⟨rfl, rfl⟩
    case round =>
      obtain ⟨rfl, rfl⟩ := hrel
      go_wp2_with fail
      go_end0
      first
        | exact ⟨⟨_, rfl⟩, .inl ⟨_, rfl, h00.out⟩⟩
        | exact ⟨⟨_, rfl⟩, .inl h00.out⟩
/-- The iterator, for a loop over it. -/
theorem from_stops {R f : Nat} {n₀ : Nat} {wn : Int} {Bs : List Bkm} {v : Value} {w0 w : World} (h : St R wn Bs v w0) (hb0 : Below w0.heap.size w0 w) (hn : n₀ = w0.heap.size) (n : Nat) (h1 : 1 ≤ n) (B1 B2 : Nat) (hB1 : w.cell? ⟨B1, 0, none⟩ = some (.pointer (some ⟨R, 1, none⟩))) (hB2 : w.cell? ⟨B2, 0, none⟩ = some (.int .i64 f)) (hf : f < Bs.length ∨ (Bs = [] ∧ f = 0)) (hl : Bs.length ≤ 1000) :
    SeqStopsK Fence.wide n Try.prog 58 #[.pointer (some ⟨B1, 0, none⟩), .pointer (some ⟨B2, 0, none⟩)] encB (Below n₀) (fun ys => ys = Bs.drop f) (fun pre => pre <+: Bs.drop f) (Bs.drop f).length w := fun l J Jx W hW hJ hJx hY h0 => by
  have hb1 := cell_later hW hB1
  have hb2 := cell_later hW hB2
  have hbw : Below w0.heap.size w0 W := hb0.trans (hW.mono hb0.size)
  have hc2 := cell_later hbw h.c2
  obtain ⟨ao, cap, hv, _, _⟩ := h.row.form
  rw [hv] at hc2
  have hA := h.row.blocks.later hbw (Nat.le_refl _)
  rw [hv] at hA
  rcases hf with hf | ⟨rfl, rfl⟩
  · refine from1_in n h1 l B1 B2 n₀ R f Bs ao cap J Jx (fun pre x W9 h9 hp => hY pre x W9 h9 (by have h8 := hp.length_le; rw [List.length_append, List.length_singleton] at h8; exact h8)) W hJ hb1 hb2 hc2 hA (fun p hp => ?_) (by rw [hn]; exact hbw.size) hf hl h0
    rw [hn]
    refine (h.row.lt p.block ?_).2
    rw [hv, hp]; rfl
  · simp only [List.drop_nil, List.length_nil] at hc2 ⊢
    refine from1_nil n l B1 B2 R ao cap J Jx W hJ hb1 hb2 hc2 ?_ h0
    rcases h.row.2 with ⟨h9, _⟩ | ⟨g, c9, cur, h9, _⟩
    · rw [hv] at h9; simp only [Value.slice.injEq] at h9; exact .inl h9.1
    · rw [hv] at h9; simp only [Value.slice.injEq] at h9; exact .inr ⟨g, h9.1⟩
theorem maxE_app (a b : List It) : maxE (a ++ b) = max (maxE a) (maxE b) := by
  have key : ∀ (l : List It) (m : Int), 0 ≤ m → l.foldl (fun m i => max m i.e) m = max m (maxE l) := by
    intro l
    induction l with
    | nil => intro m h; show m = max m 0; omega
    | cons x l ih => intro m h; show l.foldl _ (max m x.e) = max m (l.foldl _ (max 0 x.e)); rw [ih _ (by omega), ih _ (by omega)]; omega
  have h := key b (maxE a) (maxE_pos a)
  unfold maxE at h ⊢
  rw [List.foldl_append]; exact h
def noPanic (Q : Exit → Act → World → Prop) : Exit → Act → World → Prop
  | .panic _, _, _ => False
  | e, a, w => Q e a w
theorem noPanic_of {Q : Exit → Act → World → Prop} {e : Exit} {a : Act} {w : World} (h : noPanic Q e a w) : Q e a w := by
  cases e <;> first | exact h | exact h.elim
set_option maxHeartbeats 4000000 in
set_option maxRecDepth 100000 in
theorem max_any {R : Nat} {wn : Int} {Bs : List Bkm} {v : Value} {w : World} (h : St R wn Bs v w) (hl : (its Bs).length ≤ 999) :
    Calls Try.prog 27 #[.pointer (some ⟨R, 0, none⟩)] w fun e w' => e = .returned (.int .i64 (maxE (its Bs))) ∧ Below w.heap.size w w' := by
  have HST := hide h
  have CG := hide (given_yes R w h.c0)
  have HBL := hide (h.all hl).2
  clear h hl
  refine (callsIn_wide (n := 3)).1 (callsIn_of_wp_marks Try.func27 rfl trivial (wpIn_wide.2 (wp_mono ?_ (fun e a w h => noPanic_of h))) rfl)
  simp only [Try.ntmps27, List.size_toArray, List.length_cons, List.length_nil, Nat.reduceAdd, Nat.reduceSub, Array.replicate_succ, Array.replicate_zero, List.push_toArray, List.append_toArray, List.nil_append, List.cons_append]
  go_wp2_with fail
  refine CG.out.mono ?_
  rintro e w1 ⟨rfl, e9⟩
  obtain rfl : w = w1 := e9.symm
  clear e9 CG
  go_wp2_with fail
  refine (from_any R 0 _).mono ?_
  rintro e w2 ⟨rfl, rfl⟩
  go_wp2_with fail
  have hszW : ((((w.alloc (.cells #[.int .i64 0] 3)).alloc (.cells #[.pointer (some ⟨R, 1, none⟩)] 92)).alloc (.cells #[.int .i64 (0 : Nat)] 3))).heap.size = w.heap.size + 3 := by simp
  have hbW : Below w.heap.size w (((w.alloc (.cells #[.int .i64 0] 3)).alloc (.cells #[.pointer (some ⟨R, 1, none⟩)] 92)).alloc (.cells #[.int .i64 (0 : Nat)] 3)) := ((below_alloc w _).trans ((below_alloc _ _).mono (below_alloc w _).size)).trans ((below_alloc _ _).mono (by simp; omega))
  have hg0 : ((((w.alloc (.cells #[.int .i64 0] 3)).alloc (.cells #[.pointer (some ⟨R, 1, none⟩)] 92)).alloc (.cells #[.int .i64 (0 : Nat)] 3))).cell? ⟨w.heap.size, 0, none⟩ = some (.int .i64 0) ∧ ((((w.alloc (.cells #[.int .i64 0] 3)).alloc (.cells #[.pointer (some ⟨R, 1, none⟩)] 92)).alloc (.cells #[.int .i64 (0 : Nat)] 3))).frozen? ⟨w.heap.size, 0, none⟩ = false := by
    have e : ((((w.alloc (.cells #[.int .i64 0] 3)).alloc (.cells #[.pointer (some ⟨R, 1, none⟩)] 92)).alloc (.cells #[.int .i64 (0 : Nat)] 3))).heap[w.heap.size]? = (w.alloc (.cells #[.int .i64 0] 3)).heap[w.heap.size]? := by
      rw [Below.heap_alloc _ _ _ (by simp; omega), Below.heap_alloc _ _ _ (by simp)]
    rw [World.cell?_of_block (a := ⟨w.heap.size, 0, none⟩) e, World.frozen?_of_block (a := ⟨w.heap.size, 0, none⟩) e]
    exact ⟨by go_keep, by go_keep⟩
  have hb1 : ((((w.alloc (.cells #[.int .i64 0] 3)).alloc (.cells #[.pointer (some ⟨R, 1, none⟩)] 92)).alloc (.cells #[.int .i64 (0 : Nat)] 3))).cell? ⟨w.heap.size + 1, 0, none⟩ = some (.pointer (some ⟨R, 1, none⟩)) := by
    have e : ((((w.alloc (.cells #[.int .i64 0] 3)).alloc (.cells #[.pointer (some ⟨R, 1, none⟩)] 92)).alloc (.cells #[.int .i64 (0 : Nat)] 3))).heap[w.heap.size + 1]? = ((w.alloc (.cells #[.int .i64 0] 3)).alloc (.cells #[.pointer (some ⟨R, 1, none⟩)] 92)).heap[w.heap.size + 1]? := by
      rw [Below.heap_alloc _ _ _ (by simp)]
    rw [World.cell?_of_block (a := ⟨w.heap.size + 1, 0, none⟩) e]
    have h9 := heap_alloc_new (w.alloc (.cells #[.int .i64 0] 3)) (.cells #[.pointer (some ⟨R, 1, none⟩)] 92)
    rw [World.size_alloc] at h9
    rw [cell_of_row _ _ _ _ _ (0, 0) h9]; rfl
  have hb2 : ((((w.alloc (.cells #[.int .i64 0] 3)).alloc (.cells #[.pointer (some ⟨R, 1, none⟩)] 92)).alloc (.cells #[.int .i64 (0 : Nat)] 3))).cell? ⟨w.heap.size + 1 + 1, 0, none⟩ = some (.int .i64 (0 : Nat)) := by
    have h9 := heap_alloc_new ((w.alloc (.cells #[.int .i64 0] 3)).alloc (.cells #[.pointer (some ⟨R, 1, none⟩)] 92)) (.cells #[.int .i64 (0 : Nat)] 3)
    rw [World.size_alloc, World.size_alloc] at h9
    rw [cell_of_row _ _ _ _ _ (0, 0) h9]; rfl
  obtain ⟨Ws, hWs⟩ : ∃ Ws, Ws = (((w.alloc (.cells #[.int .i64 0] 3)).alloc (.cells #[.pointer (some ⟨R, 1, none⟩)] 92)).alloc (.cells #[.int .i64 (0 : Nat)] 3)) := ⟨_, rfl⟩
  rw [← hWs] at hszW hbW hg0 hb1 hb2
  change Code.wp _ _ _ _ (((w.alloc (.cells #[.int .i64 0] 3)).alloc (.cells #[.pointer (some ⟨R, 1, none⟩)] 92)).alloc (.cells #[.int .i64 (0 : Nat)] 3))
  rw [← hWs]
  clear hWs
  refine wpIn_wide.1 (wpIn_rangeFunc_ownH (F := Fence.wide) (n := 3) rfl (by decide) (gf := 58) (lb := #[.pointer (some ⟨w.heap.size + 1, 0, none⟩), .pointer (some ⟨w.heap.size + 1 + 1, 0, none⟩)]) rfl trivial (enters_of Try.func58 (by kernel_rfl) rfl)
    (from_stops HST.out hbW rfl 2 (by decide) (w.heap.size + 1) (w.heap.size + 1 + 1) hb1 hb2 (by cases Bs with | nil => exact .inr ⟨rfl, rfl⟩ | cons b B => exact .inl (by simp)) HBL.out)
    belowK_t (belowK_b (by omega)) (Below.refl _ _) (fun _ => rfl)
    (fun pre W => (W.cell? ⟨w.heap.size, 0, none⟩ = some (.int .i64 (maxE (its pre))) ∧ W.frozen? ⟨w.heap.size, 0, none⟩ = false) ∧ Below w.heap.size w W ∧ w.heap.size + 3 ≤ W.heap.size)
    (fun _ _ _ => False)
    (fun pre A B row hs hg hr => by
      have e : B.heap[w.heap.size]? = A.heap[w.heap.size]? := hg.block _ (World.block_lt_of_cell? A _ hs.1.1) (fun e => by have := (hr _ e.symm).1; omega)
      exact ⟨⟨by rw [World.cell?_of_block (a := ⟨w.heap.size, 0, none⟩) e]; exact hs.1.1, by rw [World.frozen?_of_block (a := ⟨w.heap.size, 0, none⟩) e]; exact hs.1.2⟩, hs.2.1.grown hg hs.2.1.size (fun k e9 => by have := (hr k e9).1; omega), Nat.le_trans hs.2.2 hg.size⟩)
    (fun _ _ _ _ _ hs _ _ => hs.elim)
    ⟨hg0, hbW, by omega⟩
    (fun x a' W => ∃ Bx, w.heap.size + 3 ≤ Bx ∧ W.heap[Bx]? = some (.cells #[.slice x.ao x.xs.length x.cap, .int .i64 (maxE x.xs)] 91 (0, 0)) ∧ a' = { tmps := #[.pointer (some ⟨R, 0, none⟩), undef, .int .i64 0, .pointer (some ⟨w.heap.size, 0, none⟩), .pointer (some ⟨Bx, 0, none⟩), .pointer (some ⟨R, 0, none⟩), .bool true, .bool false, .pointer (some ⟨R, 0, none⟩), .pointer (some ⟨R, 0, none⟩), .pointer (some ⟨R, 1, none⟩), .func (.func 58) #[] #[.pointer (some ⟨w.heap.size + 1, 0, none⟩), .pointer (some ⟨w.heap.size + 1 + 1, 0, none⟩)], .agg #[.slice x.ao x.xs.length x.cap, .int .i64 (maxE x.xs)], undef, undef, undef, undef, undef], defers := [] })
    (fun x a' s A B row hs hg hr => by
      obtain ⟨Bx, h1, h2, h3⟩ := hs
      exact ⟨Bx, h1, (hg.block Bx (lt_of_block h2) (fun e => by
        obtain ⟨_, o, ho, hc⟩ := hr Bx e.symm
        rw [h2] at ho
        cases ho
        cases hc)).trans h2, h3⟩)
    ?assign ?body ?done ?stop)
  case assign =>
    intro l pre x W K hI hK
    have HK := hide hK
    have HIa := hide hI
    clear hI hK
    unfold encB
    gi_wp2
    have hsz := HIa.out.2.2
    refine HK.out _ _ ((KeepsOthers.alloc _ _).from _) ((below_alloc _ _).mono (by omega)) ?_ ⟨W.heap.size, hsz, heap_alloc_new W _, rfl⟩
    have e : (W.alloc (.cells #[.slice x.ao x.xs.length x.cap, .int .i64 (maxE x.xs)] 91)).heap[w.heap.size]? = W.heap[w.heap.size]? := Below.heap_alloc _ _ _ (by omega)
    exact ⟨⟨by rw [World.cell?_of_block (a := ⟨w.heap.size, 0, none⟩) e]; exact HIa.out.1.1, by rw [World.frozen?_of_block (a := ⟨w.heap.size, 0, none⟩) e]; exact HIa.out.1.2⟩, HIa.out.2.1.trans ((below_alloc _ _).mono (by omega)), by simp; omega⟩
  case body =>
    rintro l pre x a' W hl ⟨r, hr⟩ ⟨⟨hc, hf⟩, hB, hsz⟩ ⟨Bx, hBx, hbx, rfl⟩ hlt
    have hbx1 : W.cell? ⟨Bx, 1, none⟩ = some (.int .i64 (maxE x.xs)) := by simp [World.cell?, hbx]
    have HBW := hide hB
    have HAP := hide (show maxE (its (pre ++ [x])) = max (maxE (its pre)) (maxE x.xs) from by rw [its_app, its_one, maxE_app])
    have HC := hide hc
    clear hl hr hB hbx hlt
    gi_wp2
    refine ⟨(KeepsOthers.setCell _ _ _).from _, (Below.refl w.heap.size W).setCell (p := ⟨w.heap.size, 0, none⟩) (Nat.le_refl _) _, ⟨?_, ?_⟩, HBW.out.setCell (p := ⟨w.heap.size, 0, none⟩) (Nat.le_refl _) _, by simpa using hsz⟩
    · rw [HAP.out]; exact cell_set_same HC.out
    · rw [World.frozen?_setCell]; exact hf
  case stop =>
    rintro D' c pre W _ _ h _
    exact h.elim
  case done =>
    rintro D ys W hD hys ⟨⟨hc, hf⟩, hB, hsz⟩ hK
    have HB := hide hB
    have HK := hide hK
    rw [show ys = Bs from hys] at hc
    clear hys
    clear hB hK
    go_wp2_with fail
    show bodyPostM _ _ _ _ _ Exit.ret _ _
    refine ⟨by simp, .inl ⟨_, _, rfl, run_takeDeferred HK.out, ?_⟩⟩
    refine ⟨_, results_tmp rfl _ _ _, rfl, ?_⟩
    exact HB.out.trans (belowK_b (w := w) (Nat.le_refl _) W D _ _ (by omega) HK.out rfl rfl)
end Idx
end Go.Proofs.Ytapdhelioecneaa
