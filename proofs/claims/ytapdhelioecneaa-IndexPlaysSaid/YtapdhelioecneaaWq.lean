/- Blocks, Len. Condition: less than a thousand items. -/
import Derived.Test.YtapdhelioecneaaWp
import Derived.Test.YtapdhelioecneaaWl
import Derived.Maps.AppendAt
namespace Go.Proofs.Ytapdhelioecneaa
open Go.RowKit
attribute [local go_sem] Oper.semAt_some
namespace Idx
theorem infoN : (Try.prog.info? 3).map (fun i => (i.zero, i.size, i.bytes)) = some (some (.int .i64 0), 1, 8) := by kernel_rfl
def lens (Bs : List Bkm) : List Value := Bs.map fun b => .int .i64 (b.xs.length : Int)
set_option maxHeartbeats 4000000 in
set_option maxRecDepth 100000 in
theorem blocks_any {R : Nat} {wn : Int} {Bs : List Bkm} {v : Value} {w : World} (h : St R wn Bs v w) (hl : (its Bs).length ≤ 999) :
    Calls Try.prog 32 #[.pointer (some ⟨R, 0, none⟩)] w fun e w' => ∃ u, e = .returned u ∧ w'.ownsRow w.heap.size 3 1 u Bs.length (lens Bs) ∧ Below w.heap.size w w' := by
  have HST := hide h
  have CG := hide (given_yes R w h.c0)
  have HBL := hide (h.all hl).2
  obtain ⟨i0, hi, hz0, hz1, hz2⟩ := info_parts infoN
  clear h hl
  refine (callsIn_wide (n := 3)).1 (callsIn_of_wp_marks Try.func32 rfl trivial (wpIn_wide.2 (wp_mono ?_ (fun e a w h => noPanic_of h))) rfl)
  simp only [Try.ntmps32, List.size_toArray, List.length_cons, List.length_nil, Nat.reduceAdd, Nat.reduceSub, Array.replicate_succ, Array.replicate_zero, List.push_toArray, List.append_toArray, List.nil_append, List.cons_append]
  go_wp2_with fail
  refine CG.out.mono ?_
  rintro e w1 ⟨rfl, e9⟩
  obtain rfl : w = w1 := e9.symm
  clear e9 CG
  go_wp2_with fail
  refine (from_any R 0 _).mono ?_
  rintro e w2 ⟨rfl, rfl⟩
  go_wp2_with fail
  have hszW : ((((w.alloc (.cells #[.slice none 0 0] 60)).alloc (.cells #[.pointer (some ⟨R, 1, none⟩)] 92)).alloc (.cells #[.int .i64 (0 : Nat)] 3))).heap.size = w.heap.size + 3 := by simp
  have hbW : Below w.heap.size w (((w.alloc (.cells #[.slice none 0 0] 60)).alloc (.cells #[.pointer (some ⟨R, 1, none⟩)] 92)).alloc (.cells #[.int .i64 (0 : Nat)] 3)) := ((below_alloc w _).trans ((below_alloc _ _).mono (below_alloc w _).size)).trans ((below_alloc _ _).mono (by simp; omega))
  have hg0 : Boxed (((w.alloc (.cells #[.slice none 0 0] 60)).alloc (.cells #[.pointer (some ⟨R, 1, none⟩)] 92)).alloc (.cells #[.int .i64 (0 : Nat)] 3)) w.heap.size 60 (.slice none 0 0) := ((Boxed.new w 60 (.slice none 0 0)).alloc _).alloc _
  have hb1 : ((((w.alloc (.cells #[.slice none 0 0] 60)).alloc (.cells #[.pointer (some ⟨R, 1, none⟩)] 92)).alloc (.cells #[.int .i64 (0 : Nat)] 3))).cell? ⟨w.heap.size + 1, 0, none⟩ = some (.pointer (some ⟨R, 1, none⟩)) := by
    have e : ((((w.alloc (.cells #[.slice none 0 0] 60)).alloc (.cells #[.pointer (some ⟨R, 1, none⟩)] 92)).alloc (.cells #[.int .i64 (0 : Nat)] 3))).heap[w.heap.size + 1]? = ((w.alloc (.cells #[.slice none 0 0] 60)).alloc (.cells #[.pointer (some ⟨R, 1, none⟩)] 92)).heap[w.heap.size + 1]? := by
      rw [Below.heap_alloc _ _ _ (by simp)]
    rw [World.cell?_of_block (a := ⟨w.heap.size + 1, 0, none⟩) e]
    have h9 := heap_alloc_new (w.alloc (.cells #[.slice none 0 0] 60)) (.cells #[.pointer (some ⟨R, 1, none⟩)] 92)
    rw [World.size_alloc] at h9
    rw [cell_of_row _ _ _ _ _ (0, 0) h9]; rfl
  have hb2 : ((((w.alloc (.cells #[.slice none 0 0] 60)).alloc (.cells #[.pointer (some ⟨R, 1, none⟩)] 92)).alloc (.cells #[.int .i64 (0 : Nat)] 3))).cell? ⟨w.heap.size + 1 + 1, 0, none⟩ = some (.int .i64 (0 : Nat)) := by
    have h9 := heap_alloc_new ((w.alloc (.cells #[.slice none 0 0] 60)).alloc (.cells #[.pointer (some ⟨R, 1, none⟩)] 92)) (.cells #[.int .i64 (0 : Nat)] 3)
    rw [World.size_alloc, World.size_alloc] at h9
    rw [cell_of_row _ _ _ _ _ (0, 0) h9]; rfl
  obtain ⟨Ws, hWs⟩ : ∃ Ws, Ws = (((w.alloc (.cells #[.slice none 0 0] 60)).alloc (.cells #[.pointer (some ⟨R, 1, none⟩)] 92)).alloc (.cells #[.int .i64 (0 : Nat)] 3)) := ⟨_, rfl⟩
  rw [← hWs] at hszW hbW hg0 hb1 hb2
  change Code.wp _ _ _ _ (((w.alloc (.cells #[.slice none 0 0] 60)).alloc (.cells #[.pointer (some ⟨R, 1, none⟩)] 92)).alloc (.cells #[.int .i64 (0 : Nat)] 3))
  rw [← hWs]
  clear hWs
  have hOwn : OwnFrom Ws.heap.size (fun (pre : List Bkm) W => (∃ u, Boxed W w.heap.size 60 u ∧ W.ownsRow w.heap.size 3 1 u pre.length (lens pre) ∧ True) ∧ Below w.heap.size w W ∧ w.heap.size + 3 ≤ W.heap.size) :=
    OwnFrom.and (Own.from (holdsRow_own w.heap.size w.heap.size 60 3 1 (fun pre : List Bkm => pre.length) (fun pre => lens pre) (fun _ _ => True)) _) (OwnFrom.and (ownFrom_below (Nat.le_refl _) (by omega)) (fun pre A B row hs hg hr => Nat.le_trans hs hg.size))
  have HOW := hide hOwn
  refine wpIn_wide.1 (wpIn_rangeFunc_ownH (F := Fence.wide) (n := 3) rfl (by decide) (gf := 58) (lb := #[.pointer (some ⟨w.heap.size + 1, 0, none⟩), .pointer (some ⟨w.heap.size + 1 + 1, 0, none⟩)]) rfl trivial (enters_of Try.func58 (by kernel_rfl) rfl)
    (from_stops HST.out hbW rfl 2 (by decide) (w.heap.size + 1) (w.heap.size + 1 + 1) hb1 hb2 (by cases Bs with | nil => exact .inr ⟨rfl, rfl⟩ | cons b B => exact .inl (by simp)) HBL.out)
    belowK_t (belowK_b (by omega)) (Below.refl _ _) (fun _ => rfl)
    (fun pre W => (∃ u, Boxed W w.heap.size 60 u ∧ W.ownsRow w.heap.size 3 1 u pre.length (lens pre) ∧ True) ∧ Below w.heap.size w W ∧ w.heap.size + 3 ≤ W.heap.size)
    (fun _ _ _ => False)
    hOwn
    (fun _ _ _ _ _ hs _ _ => hs.elim)
    ⟨⟨_, hg0, World.ownsRow_nil _ _ _ _, trivial⟩, hbW, by omega⟩
    (fun x a' W => ∃ Bx, w.heap.size + 3 ≤ Bx ∧ W.heap[Bx]? = some (.cells #[.slice x.ao x.xs.length x.cap, .int .i64 (maxE x.xs)] 91 (0, 0)) ∧ a' = { tmps := #[.pointer (some ⟨R, 0, none⟩), undef, .slice none 0 0, .pointer (some ⟨w.heap.size, 0, none⟩), .pointer (some ⟨Bx, 0, none⟩), .pointer (some ⟨R, 0, none⟩), .bool true, .bool false, .pointer (some ⟨R, 0, none⟩), .pointer (some ⟨R, 0, none⟩), .pointer (some ⟨R, 1, none⟩), .func (.func 58) #[] #[.pointer (some ⟨w.heap.size + 1, 0, none⟩), .pointer (some ⟨w.heap.size + 1 + 1, 0, none⟩)], .agg #[.slice x.ao x.xs.length x.cap, .int .i64 (maxE x.xs)], undef, undef, undef, undef, undef, undef, undef], defers := [] })
    (fun x a' s A B row hs hg hr => by
      obtain ⟨Bx, h1, h2, h3⟩ := hs
      exact ⟨Bx, h1, (hg.block Bx (lt_of_block h2) (fun e => by
        obtain ⟨_, o, ho, hc⟩ := hr Bx e.symm
        rw [h2] at ho
        cases ho
        cases hc)).trans h2, h3⟩)
    ?assign ?body ?done ?stop)
  case assign =>
    intro l pre x W K hI hK
    have HK := hide hK
    have HIa := hide hI
    clear hI hK
    unfold encB
    gi_wp2
    exact HK.out _ _ ((KeepsOthers.alloc _ _).from _) ((below_alloc _ _).mono (by have := HIa.out.2.2; omega)) (HOW.out.alloc _ HIa.out) ⟨W.heap.size, HIa.out.2.2, heap_alloc_new W _, rfl⟩
  case body =>
    rintro l pre x a' W hl ⟨r, hr⟩ ⟨⟨u, hv, hrow, _⟩, hB, hsz⟩ ⟨Bx, hBx, hbx, rfl⟩ hlt
    have hbx0 : W.cell? ⟨Bx, 0, none⟩ = some (.slice x.ao x.xs.length x.cap) := by rw [cell_of_row _ _ _ _ _ (0, 0) hbx]; rfl
    have HBW := hide hB
    have HSZ := hide hsz
    have HPL := hide (show pre.length ≤ 1000 from by have h9 : pre.length < (Bs.drop 0).length := hlt; rw [List.drop_zero] at h9; have := HBL.out; omega)
    have HLA := hide (show lens (pre ++ [x]) = lens pre ++ [.int .i64 (x.xs.length : Int)] from by simp [lens])
    have hc := hv.cell
    have HV := hide hv
    have HROW := hide hrow
    clear hl hr hB hbx hlt hsz hv hrow
    gi_wp2_with (gi_at_builtin; refine wpListIn_append_own _ rfl _ _ 60 rfl w.heap.size 3 i0 (.int .i64 0) 1 8 Try.underlying60 hi hz0 hz1 hz2 rfl (by decide) _ _ _ rfl (HROW.out.alloc _) ⟨W.heap.size, 0, none⟩ 1 1 [.int .i64 (x.xs.length : Int)] rfl rfl (cell_one_new _ _ _) (by simp [Value.oneCell']) (by have := HPL.out; unfold maxLen; omega) (by have := HPL.out; omega) (by have := HBW.out.size; simp; omega) ?_; intro v' w1 hown' hgrow _; obtain ⟨g', cap', rfl⟩ := ownsRow_succ hown'; obtain ⟨hv1, hv2, hr2, hk2, hb2⟩ := HV.out.appended (by decide) HROW.out HBW.out.size (Nat.le_refl _) hown' hgrow; have hc1 := hv1.cell; have hf1 := hv1.frozen)
    refine ⟨hk2.from _, hb2, ⟨_, hv2, ?_, trivial⟩, HBW.out.trans hb2, Nat.le_trans HSZ.out hb2.size⟩
    rw [List.length_append, HLA.out]
    exact hr2
  case stop =>
    rintro D' c pre W _ _ h _
    exact h.elim
  case done =>
    rintro D ys W hD hys ⟨⟨u, hv, hrow, _⟩, hB, hsz⟩ hK
    have hc := hv.cell
    rw [show ys = Bs from hys] at hrow
    have HB := hide hB
    have HK := hide hK
    have HROW := hide hrow
    clear hB hK hrow hv hys
    go_wp2_with fail
    show bodyPostM _ _ _ _ _ Exit.ret _ _
    refine ⟨by simp, .inl ⟨_, _, rfl, run_takeDeferred HK.out, ?_⟩⟩
    exact ⟨_, results_tmp rfl _ _ _, u, rfl, ownsRow_putObj HROW.out _ HK.out rfl, HB.out.trans (belowK_b (w := w) (Nat.le_refl _) W D _ _ (by omega) HK.out rfl rfl)⟩
set_option maxHeartbeats 4000000 in
set_option maxRecDepth 100000 in
theorem len_any {R : Nat} {wn : Int} {Bs : List Bkm} {v : Value} {w : World} (h : St R wn Bs v w) (hl : (its Bs).length ≤ 999) :
    Calls Try.prog 26 #[.pointer (some ⟨R, 0, none⟩)] w fun e w' => e = .returned (.int .i64 ((its Bs).length : Int)) ∧ Below w.heap.size w w' := by
  have CB := hide (blocks_any h hl)
  have HL := hide hl
  have HBL := hide (h.all hl).2
  obtain ⟨m, hm⟩ : ∃ m, m = Bs.length := ⟨_, rfl⟩
  rw [← hm] at CB HBL
  have HM := hide hm
  clear h hl hm
  go_enter Try.func26, Try.ntmps26
  go_wp2_with fail
  refine CB.out.mono ?_
  rintro e w1 ⟨u, rfl, hu, hb⟩
  have HU := hide hu
  have HB := hide hb
  obtain ⟨uo, uc, rfl⟩ : ∃ uo uc, u = .slice uo m uc := by
    rcases hu.2 with ⟨h9, h8⟩ | ⟨g, c, cur, h9, _⟩
    · exact ⟨none, 0, by rw [h9, h8]⟩
    · exact ⟨_, _, h9⟩
  clear hu hb CB
  go_wp2_with fail
  have hm9 := HBL.out
  go_loop [3, 9] (fun nv ii => ∃ i : Nat, ii = .int .i64 i ∧ i ≤ m ∧ nv = .int .i64 ((its (Bs.take i)).length : Nat)) (fun _ ii => (m - (intOf ii).toNat))
  case atStart => exact ⟨0, rfl, by omega, rfl⟩
  case round =>
    obtain ⟨i, rfl, hi, rfl⟩ := hrel
    rcases Nat.lt_or_ge i m with hlt | hge
    · have g1 : (i : Int) < (m : Int) := by omega
      have hib : i < Bs.length := by rw [← HM.out]; exact hlt
      obtain ⟨g, c9, e9, hrd⟩ : ∃ g c9, (Value.slice uo m uc) = .slice (some ⟨g, 0, none⟩) m c9 ∧ w1.cell? ⟨g, i, none⟩ = some (.int .i64 ((Bs[i]).xs.length : Int)) := by
        have h9 := HU.out
        rcases h9.2 with ⟨_, h8⟩ | ⟨g, c, cur, hv, _⟩
        · omega
        · refine ⟨g, c, hv, ?_⟩
          rw [hv] at h9
          rw [h9.cellAt i (by omega)]
          simp [lens, hib]
      simp only [Value.slice.injEq, true_and] at e9
      obtain ⟨rfl, rfl⟩ := e9
      have HTK := hide (show (its (Bs.take (i + 1))).length = (its (Bs.take i)).length + (Bs[i]).xs.length from by rw [List.take_succ_eq_append_getElem hib, its_app, its_one, List.length_append])
      have HLE := hide (show (its (Bs.take (i + 1))).length ≤ 999 from by have h9 := its_cut Bs (i + 1); have h8 := congrArg List.length h9; rw [List.length_append] at h8; have := HL.out; omega)
      obtain ⟨a, ha⟩ : ∃ a, a = (its (Bs.take i)).length := ⟨_, rfl⟩
      obtain ⟨b, hb⟩ : ∃ b, b = (Bs[i]).xs.length := ⟨_, rfl⟩
      rw [← ha] at HTK ⊢
      rw [← hb] at HTK hrd
      have hw9 : IntKind.i64.wrap ((a : Int) + (b : Int)) = (a : Int) + (b : Int) := by have := HTK.out; have := HLE.out; rw [IntKind.wrap_i64]; omega
      clear ha hb
      go_wp2_with fail
      go_round
      case rel => exact ⟨i + 1, by go_num, by omega, by rw [HTK.out]; go_num⟩
      case measure => simp [intOf]; omega
    · obtain rfl : i = m := by omega
      have g1 : ¬ (i : Int) < (i : Int) := by omega
      have HE := hide (show (its (Bs.take i)).length = (its Bs).length from by rw [HM.out, List.take_length])
      rw [HE.out]
      go_wp2_with fail
      go_ret
      exact ⟨rfl, HB.out⟩
theorem lens_ints {Bs : List Bkm} {base : Nat} {u : Value} {w : World} (h : w.ownsRow base 3 1 u Bs.length (lens Bs)) : IntsAt (Bs.map fun b => (b.xs.length : Int)) u w := by
  rcases h.2 with ⟨h9, h8⟩ | ⟨g, c, cur, hv, _, hh, hc, hm, _⟩
  · refine ⟨none, 0, by rw [h9, List.length_map, h8], by rw [List.length_map, h8]; omega, by omega, .inl (by rw [List.eq_nil_of_length_eq_zero h8]; rfl)⟩
  · refine ⟨some ⟨g, 0, none⟩, c, by rw [hv, List.length_map], by rw [List.length_map]; exact hc, by unfold maxLen at hm; omega, .inr ⟨g, 0, rfl, lt_of_block hh, fun j hj => ?_⟩⟩
    rw [hv] at h
    rw [Nat.zero_add, h.cellAt j (by simpa using hj)]
    rw [List.length_map] at hj
    simp [lens, hj]
theorem blk_of {wn : Nat} {Bs : List Bkm} (h : Siz wn Bs) : Blk wn (its Bs).length (Bs.map fun b => (b.xs.length : Int)) := by
  refine ⟨fun x hx => ?_, fun j hj => ?_, ?_⟩
  · obtain ⟨b, hb, rfl⟩ := List.mem_map.1 hx
    have := h.one b hb
    omega
  · rw [List.length_map] at hj
    rw [List.getElem_map, List.getElem_map]
    exact h.two j hj
  · clear h
    induction Bs with
    | nil => rfl
    | cons b Bs ih => rw [List.map_cons, List.sum_cons, ih, its_cons, List.length_append]; omega
end Idx
end Go.Proofs.Ytapdhelioecneaa
