/- IndexRanges: what is asked of keys in two parts, cut at any key, is what is asked of all: for all scripts of calls, all keys, all spans. No other condition. -/
import Derived.Test.YtapdhelioecneaaWy
import Derived.Test.YtapdhelioecneaaU11
import Derived.Test.YtapdhelioecneaaFra
import Derived.WideKeyPair
import Derived.SizedLaws
namespace Go.Proofs.Ytapdhelioecneaa
open Go.ChangeShapes Go.WideShapes Go.ChangeAt Go.RowKit
open Go.ChangeMaps (open_string shut_string)
namespace LaIndexRanges
open Idx
section
open Go.Joins Go.Deep
variable {H : Type} {enc : TypeId × Value → H} {W : World} {base : Nat} {sp : Nat → Bool} {held : Bool}
theorem cSp : Try.prog.cellsOf 46 = 2 := by kernel_rfl
set_option maxRecDepth 100000 in
theorem open_sp {fuel : Nat} {cs : List Value} {x : DataW H × List MemPlace} (h : DataW.trod enc Try.prog W base sp held fuel 46 cs = some x) : ∃ a b : Int, cs = [.int .i64 a, .int .i64 b] ∧ Idx.In64 a ∧ Idx.In64 b := by
  obtain ⟨xs, n, _, _, hlen, hxl, hf⟩ := DataW.trod_struct Try.underlying46 h
  rw [cSp] at hlen
  match cs, hlen with
  | [c0, c1], _ =>
    match xs, hxl with
    | [y0, y1], _ =>
      have a0 : DataW.trod enc Try.prog W base sp held n 3 (([c0, c1].drop 0).take (Try.prog.cellsOf 3)) = some y0 := hf 0 _ rfl
      have a1 : DataW.trod enc Try.prog W base sp held n 3 (([c0, c1].drop 1).take (Try.prog.cellsOf 3)) = some y1 := hf 1 _ rfl
      rw [cI] at a0 a1
      obtain ⟨k, e0, h0, h1⟩ := leaf_int (show DataW.trod enc Try.prog W base sp held n 3 [c0] = some y0 from a0)
      obtain ⟨m, e1, h2, h3⟩ := leaf_int (show DataW.trod enc Try.prog W base sp held n 3 [c1] = some y1 from a1)
      subst e0 e1
      exact ⟨k, m, rfl, ⟨h0, h1⟩, ⟨h2, h3⟩⟩
set_option maxRecDepth 100000 in
theorem open_span {v : Value} {d : DataW H} {p : List MemPlace} {r : Reach} {b0 : Nat} (hok : Value.okWide Try.prog W r b0 46 v) (h : DataW.Trod enc Try.prog W base sp held 46 v d p) :
    ∃ a b : Int, v = .agg #[.int .i64 a, .int .i64 b] ∧ Idx.In64 a ∧ Idx.In64 b := by
  obtain ⟨cs, rfl, hsz⟩ := okWide_struct Try.underlying46 hok
  obtain ⟨fuel, hf⟩ := h
  obtain ⟨a, b, hx, h1⟩ := open_sp hf
  refine ⟨a, b, ?_, h1⟩
  have hx2 : cs.toList = [.int .i64 a, .int .i64 b] := hx
  congr 1
  exact Array.toList_inj.1 hx2
end
theorem cut_over {M : List It} (h : Ok M) {key : List UInt8} (hk : key ≠ []) (a b : Int) : over M [] key a b ++ over M key [] a b = over M [] [] a b := by
  unfold over
  rw [← filter_cut h.up key (overB [] [] a b)]
  congr 1
  · refine List.filter_congr fun x _ => ?_
    unfold overB
    rw [among_all]
    unfold amongB
    rw [less_nil, decide_eq_false hk]
    simp
  · refine List.filter_congr fun x _ => ?_
    unfold overB
    rw [among_all]
    unfold amongB
    simp
theorem cut_stab {M : List It} (h : Ok M) {key : List UInt8} (hk : key ≠ []) (t : Int) : stab M [] key t ++ stab M key [] t = stab M [] [] t := by
  unfold stab
  rw [← filter_cut h.up key (stabB [] [] t)]
  congr 1
  · refine List.filter_congr fun x _ => ?_
    unfold stabB
    rw [among_all]
    unfold amongB
    rw [less_nil, decide_eq_false hk]
    simp
  · refine List.filter_congr fun x _ => ?_
    unfold stabB
    rw [among_all]
    unfold amongB
    simp
theorem Row4.empty (w : World) : Row4 31 w.heap.size [] (.slice (some ⟨w.heap.size, 0, none⟩) 0 0) (w.alloc (.cells #[] 31)) :=
  ⟨rfl, .inr ⟨w.heap.size, 0, #[], rfl, Nat.le_refl _, heap_alloc_new w _, Nat.le_refl _, by unfold maxLen; omega, rfl, rfl⟩⟩
/-- The index and the span's box. -/
structure Rg (PX : Nat → Int → (Nat → Prop) → List It → World → Prop) (R : Nat) (F : Nat → Prop) (M : List It) (sa sb : Int) (k : Nat) (w0 w : World) : Prop where
  x : PX R 2 F M w
  c0 : w.cell? ⟨k, 0, none⟩ = some (.int .i64 sa)
  c1 : w.cell? ⟨k, 1, none⟩ = some (.int .i64 sb)
  lt : k < w.heap.size
  b : Below w0.heap.size w0 w
theorem Rg.later {PX : Nat → Int → (Nat → Prop) → List It → World → Prop} (K : Con PX) {R : Nat} {F : Nat → Prop} {M : List It} {sa sb : Int} {k : Nat} {w0 w w' : World} (h : Rg PX R F M sa sb k w0 w) (hb : Below w.heap.size w w') : Rg PX R F M sa sb k w0 w' :=
  ⟨K.later h.x hb (Nat.le_refl _), by rw [hb.cell (p := ⟨k, 0, none⟩) h.lt]; exact h.c0, by rw [hb.cell (p := ⟨k, 1, none⟩) h.lt]; exact h.c1, Nat.lt_of_lt_of_le h.lt hb.size, h.b.trans (hb.mono h.b.size)⟩
set_option maxHeartbeats 8000000 in
set_option maxRecDepth 100000 in
theorem walk_ranges {PX : Nat → Int → (Nat → Prop) → List It → World → Prop} (K : Con PX) {l : List Opv} {sl : Value} {w : World} (h : OpsAt l sl w) (hin : ∀ o ∈ l, o.inn) (key : List UInt8) (sa sb : Int) (hsa : In64 sa) (hsb : In64 sb) :
    Calls Try.prog 6 #[sl, .string (S key), .agg #[.int .i64 sa, .int .i64 sb]] w fun e w' => e = .returned (.bool true) ∧ Below w.heap.size w w' := by
  have HIN := hide hin
  obtain ⟨wb, hwb⟩ : ∃ wb, wb = w.alloc (.cells #[.int .i64 sa, .int .i64 sb] 46) := ⟨_, rfl⟩
  have HBW := hide (show Below w.heap.size w wb from by rw [hwb]; exact below_alloc _ _)
  have HA := hide (h.later HBW.out (Nat.le_refl _))
  obtain ⟨bx, hbx⟩ : ∃ bx, bx = w.heap.size := ⟨_, rfl⟩
  have HC0 := hide (show wb.cell? ⟨bx, 0, none⟩ = some (.int .i64 sa) ∧ wb.cell? ⟨bx, 1, none⟩ = some (.int .i64 sb) ∧ bx < wb.heap.size from by rw [hwb, hbx]; exact ⟨by go_keep, by go_keep, by simp⟩)
  have HWB := hide hwb
  have HBX := hide hbx
  have HSA := hide hsa
  have HSB := hide hsb
  clear h hin hwb hbx hsa hsb
  go_enter Try.func6, Try.ntmps6
  go_wp2_with fail
  rw [← HWB.out, ← HBX.out]
  refine (K.new 2 _ (by kernel_rfl)).mono ?_
  rintro e w1 ⟨R, F1, rfl, hp, hf, hb⟩
  have P1 := hide hp
  have G1 := hide hf
  have B1 := hide hb
  clear hp hf hb
  have hkk : key = [] ∨ key ≠ [] ∧ 100 < key.length ∨ key ≠ [] ∧ ¬ 100 < key.length := by
    by_cases h1 : key = []
    · exact .inl h1
    · by_cases h2 : 100 < key.length
      · exact .inr (.inl ⟨h1, h2⟩)
      · exact .inr (.inr ⟨h1, h2⟩)
  rcases hkk with q | ⟨q, q2⟩ | ⟨q, q2⟩
  · have q1 : (key == []) = true := by rw [q]; rfl
    have q2 : key.isEmpty = true := by rw [q]; rfl
    clear q
    go_wp2_with fail
    refine (known_any K _).mono ?_
    rintro e w9 ⟨rfl, hb⟩
    have B9 := hide (HBW.out.trans ((B1.out.trans (hb.mono B1.out.size)).mono HBW.out.size))
    clear hb
    go_wp2_with fail
    go_ret
    exact ⟨rfl, B9.out⟩
  · have q1 : (key == []) = false := by rw [beq_eq_false_iff_ne]; exact q
    have q3 : (100 : Int) < (key.length : Int) := by omega
    have q4 : key.isEmpty = false := by rw [← Bool.not_eq_true, List.isEmpty_iff]; exact q
    clear q
    go_wp2_with fail
    refine (known_any K _).mono ?_
    rintro e w9 ⟨rfl, hb⟩
    have B9 := hide (HBW.out.trans ((B1.out.trans (hb.mono B1.out.size)).mono HBW.out.size))
    clear hb
    go_wp2_with fail
    go_ret
    exact ⟨rfl, B9.out⟩
  · have q1 : (key == []) = false := by rw [beq_eq_false_iff_ne]; exact q
    have q3 : ¬ (100 : Int) < (key.length : Int) := by omega
    have q4 : key.isEmpty = false := by rw [← Bool.not_eq_true, List.isEmpty_iff]; exact q
    have HKE := hide q
    have HKL := hide (show key.length ≤ 140737488351232 by omega)
    clear q
    go_wp2_with fail
    refine (build_any K HA.out HIN.out B1.out P1.out G1.out (fit_nil _)).mono ?_
    rintro e w2 ⟨rfl, F2, hp, ht⟩
    have hB2 : Below wb.heap.size wb w2 := B1.out.trans (ht.1.below G1.out B1.out.size)
    have T2 := hide (show Rg PX R F2 (buildL [] l) sa sb bx w w2 from ⟨hp, by rw [hB2.cell (p := ⟨bx, 0, none⟩) HC0.out.2.2]; exact HC0.out.1, by rw [hB2.cell (p := ⟨bx, 1, none⟩) HC0.out.2.2]; exact HC0.out.2.1, Nat.lt_of_lt_of_le HC0.out.2.2 hB2.size, HBW.out.trans (hB2.mono HBW.out.size)⟩)
    have HFM := hide (show Fit 998 (buildL [] l) from (((fit_nil 700).steps (l.take 200) (fun o ho => HIN.out o (List.mem_of_mem_take ho))).mono (by rw [List.length_take]; omega)))
    clear hp ht P1 B1 hB2 q1 q2 q3 q4
    obtain ⟨M, hM⟩ : ∃ M, M = buildL [] l := ⟨_, rfl⟩
    rw [← hM] at T2 HFM
    clear hM
    have HCO := hide (cut_over HFM.out.ok HKE.out sa sb)
    have HCS := hide (cut_stab HFM.out.ok HKE.out sa)
    have HLE := hide (fun (P : It → Bool) => Nat.le_trans (List.length_filter_le P M) HFM.out.n)
    have E1 := hide (below_alloc w2 (.cells #[] 31))
    have T2b := hide (T2.out.later K E1.out)
    have c0 := T2b.out.c0
    have c1 := T2b.out.c1
    go_wp2_with fail
    refine (K.over T2b.out.x HFM.out [] key sa sb (by decide) HKL.out HSA.out HSB.out).mono ?_
    rintro e z1 ⟨va, rfl, ha, _, hb⟩
    have A1 := hide ha
    have R1 := hide ((Row4.empty w2).later hb (Nat.le_refl _))
    have E2 := hide (E1.out.trans (hb.mono E1.out.size))
    clear ha hb E1 T2b c0 c1
    go_wp2_with (at_builtin; refine wpList_row4 tyX rfl _ _ rfl rfl rfl R1.out A1.out (by have := HLE.out; have h9 : (over M [] key sa sb).length ≤ 998 := this _; simp only [List.length_nil]; omega) E2.out.size ?_)
    intro u z2 hu hg hob
    have R2 := hide (show Row4 31 w2.heap.size (over M [] key sa sb) u z2 from hu)
    have E3 := hide (E2.out.grown hg E2.out.size (fun k9 hk9 => (R1.out.lt k9 hk9).1))
    clear hu hg hob R1 A1 E2
    have T2b := hide (T2.out.later K E3.out)
    have c0 := T2b.out.c0
    have c1 := T2b.out.c1
    go_wp2_with fail
    refine (K.over T2b.out.x HFM.out key [] sa sb HKL.out (by decide) HSA.out HSB.out).mono ?_
    rintro e z3 ⟨va, rfl, ha, _, hb⟩
    have A1 := hide ha
    have R3 := hide (R2.out.later hb (Nat.le_refl _))
    have E4 := hide (E3.out.trans (hb.mono E3.out.size))
    clear ha hb E3 R2 T2b c0 c1
    go_wp2_with (at_builtin; refine wpList_row4 tyX rfl _ _ rfl rfl rfl R3.out A1.out (by have := HLE.out; have h9 : (over M [] key sa sb).length ≤ 998 := this _; have h8 : (over M key [] sa sb).length ≤ 998 := this _; omega) E4.out.size ?_)
    intro ua w4 hu hg hob
    have E5 := hide (E4.out.grown hg E4.out.size (fun k9 hk9 => (R3.out.lt k9 hk9).1))
    have T4 := hide (T2.out.later K E5.out)
    have Iua := hide (show ItemsAt (over M [] key sa sb ++ over M key [] sa sb) ua w4 from hu.items)
    clear hu hg hob R3 A1 E4
    rw [HCO.out] at Iua
    have E1 := hide (below_alloc w4 (.cells #[] 31))
    have T4b := hide (T4.out.later K E1.out)
    have c0 := T4b.out.c0
    have c1 := T4b.out.c1
    go_wp2_with fail
    refine (K.stab T4b.out.x HFM.out [] key sa (by decide) HKL.out HSA.out).mono ?_
    rintro e z1 ⟨va, rfl, ha, _, hb⟩
    have A1 := hide ha
    have R1 := hide ((Row4.empty w4).later hb (Nat.le_refl _))
    have E2 := hide (E1.out.trans (hb.mono E1.out.size))
    clear ha hb E1 T4b c0 c1
    go_wp2_with (at_builtin; refine wpList_row4 tyX rfl _ _ rfl rfl rfl R1.out A1.out (by have := HLE.out; have h9 : (stab M [] key sa).length ≤ 998 := this _; simp only [List.length_nil]; omega) E2.out.size ?_)
    intro u z2 hu hg hob
    have R2 := hide (show Row4 31 w4.heap.size (stab M [] key sa) u z2 from hu)
    have E3 := hide (E2.out.grown hg E2.out.size (fun k9 hk9 => (R1.out.lt k9 hk9).1))
    clear hu hg hob R1 A1 E2
    have T4b := hide (T4.out.later K E3.out)
    have c0 := T4b.out.c0
    have c1 := T4b.out.c1
    go_wp2_with fail
    refine (K.stab T4b.out.x HFM.out key [] sa HKL.out (by decide) HSA.out).mono ?_
    rintro e z3 ⟨va, rfl, ha, _, hb⟩
    have A1 := hide ha
    have R3 := hide (R2.out.later hb (Nat.le_refl _))
    have E4 := hide (E3.out.trans (hb.mono E3.out.size))
    clear ha hb E3 R2 T4b c0 c1
    go_wp2_with (at_builtin; refine wpList_row4 tyX rfl _ _ rfl rfl rfl R3.out A1.out (by have := HLE.out; have h9 : (stab M [] key sa).length ≤ 998 := this _; have h8 : (stab M key [] sa).length ≤ 998 := this _; omega) E4.out.size ?_)
    intro ub w6 hu hg hob
    have E5 := hide (E4.out.grown hg E4.out.size (fun k9 hk9 => (R3.out.lt k9 hk9).1))
    have Iua6 := hide (Iua.out.later E5.out (Nat.le_refl _))
    have T6 := hide (T4.out.later K E5.out)
    have Iub := hide (show ItemsAt (stab M [] key sa ++ stab M key [] sa) ub w6 from hu.items)
    clear hu hg hob R3 A1 E4
    rw [HCS.out] at Iub
    have HLO := hide (show (over M [] [] sa sb).length ≤ 1000 from Nat.le_trans (HLE.out _) (by decide))
    have HLS := hide (show (stab M [] [] sa).length ≤ 1000 from Nat.le_trans (HLE.out _) (by decide))
    clear Iua T2 T4 E5 HCO HCS
    go_wp2_with fail
    obtain ⟨wd, hwd⟩ : ∃ wd, wd = w6.drew := ⟨_, rfl⟩
    have HD := hide (show Below w6.heap.size w6 wd from by rw [hwd]; exact (Below.refl _ _).drew)
    have T7 := hide (T6.out.later K HD.out)
    have Ia := hide (Iua6.out.later HD.out (Nat.le_refl _))
    have Ib := hide (Iub.out.later HD.out (Nat.le_refl _))
    refine wp_region_held_drew (S := fun u => u.cell? ⟨bx, 0, none⟩ = some (.int .i64 sa) ∧ u.cell? ⟨bx, 1, none⟩ = some (.int .i64 sb)) (by kernel_rfl) (by rw [← hwd]; exact ⟨T7.out.c0, T7.out.c1⟩) (fun hHeld => ?_)
    rw [← hwd] at hHeld ⊢
    clear hwd HD T6 Iua6 Iub
    refine Man.t1 0 hHeld ?_
    (try simp only [Act.put, Mqa, Mqb, Mqc])
    refine Man.t1 2 hHeld ?_
    (try simp only [Act.put, Mqa, Mqb, Mqc])
    refine Man.t1 3 hHeld ?_
    (try simp only [Act.put, Mqa, Mqb, Mqc])
    refine Man.one (i := 1) rfl (by kernel_rfl) (fun K9 hK => ?_)
    go_simp
    with_reducible refine (plain_any Ia.out HLO.out).mono ?_
    rintro e w8 ⟨v8, rfl, ha, hb⟩
    have Pa := hide ha
    clear ha
    replace Ib := hide (Ib.out.later hb (Nat.le_refl _))
    replace T7 := hide (T7.out.later K hb)
    clear hb Ia
    refine hK.out _ _ ⟨T7.out.c0, T7.out.c1⟩ (fun hNew => ?_)
    clear hK K9 hHeld
    have hHeld := hNew
    clear hNew
    (try simp only [Act.put, Mqa, Mqb, Mqc])
    refine Man.one (i := 4) rfl (by kernel_rfl) (fun K9 hK => ?_)
    go_simp
    with_reducible refine (K.over T7.out.x HFM.out [] [] sa sb (by decide) (by decide) HSA.out HSB.out).mono ?_
    rintro e w8 ⟨v8, rfl, ha, _, hb⟩
    have Oa := hide ha
    clear ha
    replace Ib := hide (Ib.out.later hb (Nat.le_refl _))
    replace Pa := hide (Pa.out.later hb (Nat.le_refl _))
    replace T7 := hide (T7.out.later K hb)
    clear hb
    refine hK.out _ _ ⟨T7.out.c0, T7.out.c1⟩ (fun hNew => ?_)
    clear hK K9 hHeld
    have hHeld := hNew
    clear hNew
    (try simp only [Act.put, Mqa, Mqb, Mqc])
    refine Man.one (i := 5) rfl (by kernel_rfl) (fun K9 hK => ?_)
    go_simp
    with_reducible refine (plain_any Oa.out HLO.out).mono ?_
    rintro e w8 ⟨v8, rfl, ha, hb⟩
    have Po := hide ha
    clear ha
    replace Ib := hide (Ib.out.later hb (Nat.le_refl _))
    replace Pa := hide (Pa.out.later hb (Nat.le_refl _))
    replace T7 := hide (T7.out.later K hb)
    clear hb Oa
    refine hK.out _ _ ⟨T7.out.c0, T7.out.c1⟩ (fun hNew => ?_)
    clear hK K9 hHeld
    have hHeld := hNew
    clear hNew
    (try simp only [Act.put, Mqa, Mqb, Mqc])
    refine Man.one (i := 6) rfl (by kernel_rfl) (fun K9 hK => ?_)
    go_simp
    with_reducible refine (same_any Pa.out Po.out HLO.out).mono ?_
    rintro e w8 ⟨rfl, hb⟩
    rw [decide_eq_true (rfl : over M [] [] sa sb = over M [] [] sa sb)]
    replace Ib := hide (Ib.out.later hb (Nat.le_refl _))
    replace T7 := hide (T7.out.later K hb)
    clear hb Pa Po
    refine hK.out _ _ ⟨T7.out.c0, T7.out.c1⟩ (fun hNew => ?_)
    clear hK K9 hHeld
    have hHeld := hNew
    clear hNew
    (try simp only [Act.put, Mqa, Mqb, Mqc])
    refine Man.t1 7 hHeld ?_
    (try simp only [Act.put, Mqa, Mqb, Mqc])
    refine Man.t1 8 hHeld ?_
    (try simp only [Act.put, Mqa, Mqb, Mqc])
    refine Man.t1 10 hHeld ?_
    (try simp only [Act.put, Mqa, Mqb, Mqc])
    refine Man.t1 11 hHeld ?_
    (try simp only [Act.put, Mqa, Mqb, Mqc])
    refine Man.t1 12 hHeld ?_
    (try simp only [Act.put, Mqa, Mqb, Mqc])
    refine Man.one (i := 9) rfl (by kernel_rfl) (fun K9 hK => ?_)
    go_simp
    with_reducible refine (plain_any Ib.out HLS.out).mono ?_
    rintro e w8 ⟨v8, rfl, ha, hb⟩
    have Pb := hide ha
    clear ha
    replace T7 := hide (T7.out.later K hb)
    clear hb Ib
    refine hK.out _ _ ⟨T7.out.c0, T7.out.c1⟩ (fun hNew => ?_)
    clear hK K9 hHeld
    have hHeld := hNew
    clear hNew
    (try simp only [Act.put, Mqa, Mqb, Mqc])
    refine Man.one (i := 13) rfl (by kernel_rfl) (fun K9 hK => ?_)
    go_simp
    with_reducible refine (K.stab T7.out.x HFM.out [] [] sa (by decide) (by decide) HSA.out).mono ?_
    rintro e w8 ⟨v8, rfl, ha, _, hb⟩
    have Ob := hide ha
    clear ha
    replace Pb := hide (Pb.out.later hb (Nat.le_refl _))
    replace T7 := hide (T7.out.later K hb)
    clear hb
    refine hK.out _ _ ⟨T7.out.c0, T7.out.c1⟩ (fun hNew => ?_)
    clear hK K9 hHeld
    have hHeld := hNew
    clear hNew
    (try simp only [Act.put, Mqa, Mqb, Mqc])
    refine Man.one (i := 14) rfl (by kernel_rfl) (fun K9 hK => ?_)
    go_simp
    with_reducible refine (plain_any Ob.out HLS.out).mono ?_
    rintro e w8 ⟨v8, rfl, ha, hb⟩
    have Pq := hide ha
    clear ha
    replace Pb := hide (Pb.out.later hb (Nat.le_refl _))
    replace T7 := hide (T7.out.later K hb)
    clear hb Ob
    refine hK.out _ _ ⟨T7.out.c0, T7.out.c1⟩ (fun hNew => ?_)
    clear hK K9 hHeld
    have hHeld := hNew
    clear hNew
    (try simp only [Act.put, Mqa, Mqb, Mqc])
    refine Man.one (i := 15) rfl (by kernel_rfl) (fun K9 hK => ?_)
    go_simp
    with_reducible refine (same_any Pb.out Pq.out HLS.out).mono ?_
    rintro e w8 ⟨rfl, hb⟩
    rw [decide_eq_true (rfl : stab M [] [] sa = stab M [] [] sa)]
    replace T7 := hide (T7.out.later K hb)
    clear hb Pb Pq
    refine hK.out _ _ ⟨T7.out.c0, T7.out.c1⟩ (fun hNew => ?_)
    clear hK K9 hHeld
    have hHeld := hNew
    clear hNew
    (try simp only [Act.put, Mqa, Mqb, Mqc])
    refine Man.t1 16 hHeld ?_
    (try simp only [Act.put, Mqa, Mqb, Mqc])
    refine Man.t1 17 hHeld ?_
    (try simp only [Act.put, Mqa, Mqb, Mqc])
    refine Man.one (i := 18) rfl (by kernel_rfl) (fun K9 hK => ?_)
    go_simp
    with_reducible refine (known_any K _).mono ?_
    rintro e w8 ⟨rfl, hb⟩
    replace T7 := hide (T7.out.later K hb)
    clear hb
    refine hK.out _ _ ⟨T7.out.c0, T7.out.c1⟩ (fun hNew => ?_)
    clear hK K9 hHeld
    have hHeld := hNew
    clear hNew
    (try simp only [Act.put, Mqa, Mqb, Mqc])
    refine Man.t1 19 hHeld ?_
    (try simp only [Act.put, Mqa, Mqb, Mqc])
    refine Man.t1 20 hHeld ?_
    (try simp only [Act.put, Mqa, Mqb, Mqc])
    refine wpAnyH_done (by kernel_rfl) ?_ _
    go_wp2_with fail
    go_ret
    exact ⟨rfl, T7.out.b⟩
theorem laidOut : laidOutB Try.prog = true := by kernel_rfl
set_option maxRecDepth 100000 in
theorem contract (H : Type) (enc : TypeId × Value → H) (W : World) (base : Nat) (args : Array Value) (ds gs : List (DataW H)) (before : List MemPlace)
    (hval : ∀ (j : Nat) t v, Try.f6.params[j]? = some t → args[j]? = some v → Value.okWide Try.prog W .any base t v)
    (hW : DataW.Whole enc Try.prog Try.f6.params.toList Rows.indexRangesSpec.vars false W args.toList ds gs before)
    (hsz0 : (DataW.weightsEach Try.prog (Try.f6.params.toList ++ Rows.indexRangesSpec.plain.varTypes Try.prog) (ds ++ gs)).all (· ≤ reachBytes) = true) :
    Calls Try.prog 6 args W fun e W' => ∃ v, e = .returned v ∧ Rows.indexRangesSpec.post enc Try.prog Try.f6 false true false false W args v W' := by
  have hW' := hW
  obtain ⟨p, q, hA0, hV, rfl, hfz, hnd⟩ := hW
  have hA : DataW.TrodAll enc Try.prog W 0 (fun _ => true) true Try.f6.params.toList args.toList ds p := hA0
  rw [Try.params6] at hA hval hsz0
  obtain ⟨v0, vs0, d0, ds0, p0, q0, hargs, rfl, rfl, h0, r0⟩ := trodAll_cons hA
  obtain ⟨v1, vs1, d1, ds1, p1, q1, rfl, rfl, rfl, h1, r1⟩ := trodAll_cons r0
  obtain ⟨v2, vs2, d2, ds2, p2, q2, rfl, rfl, rfl, h2, r2⟩ := trodAll_cons r1
  obtain ⟨rfl, rfl, rfl⟩ := trodAll_nil r2
  obtain rfl : args = #[v0, v1, v2] := by cases args; simp_all
  obtain ⟨rfl, rfl⟩ := trodVars_none hV
  have hsz := fun n hn => of_decide_eq_true (List.all_eq_true.1 hsz0 n hn)
  obtain ⟨key, rfl, hd1, hp1, wkey⟩ := open_string Try.underlying9 (hval 1 9 v1 rfl rfl) h1
  obtain ⟨l, hml, hil⟩ := Idx.open_ops (hval 0 22 v0 rfl rfl) h0 (fun n hn => hsz n (DataW.weights_mem_each (j := 0) (t := 22) rfl rfl n hn))
  obtain ⟨sa, sb, rfl, his⟩ := open_span (hval 2 46 v2 rfl rfl) h2
  clear hA0 hsz0
  simp only [List.append_nil] at hW'
  have hlt : ∀ x ∈ p0 ++ p1 ++ p2, x.block < W.heap.size := fun x hx => hW'.lt x (by simpa using hx)
  have walk := (by have h9 := walk_ranges con_px hml hil key.data.toList sa sb his.1 his.2; rw [S_of] at h9; exact h9)
  refine walk.mono fun e W' ⟨he, hg⟩ => ?_
  subst he
  refine ⟨_, rfl, Fr.post_made (pa := p0 ++ (p1 ++ p2)) (pv := []) hW' (fun _ _ _ => trodAll_cons_mk (shut_bool Try.underlying4 _) trodAll_mk0) (fun sp hsp => ?_) (fun _ _ => rfl) (by simp) hg (ok_one (by kernel_rfl) rfl (okWide_bool_mk Try.underlying4 _))⟩
  have g0 : DataW.Trod enc Try.prog W' 0 sp true 22 _ d0 p0 := WideElems.Trod_stays laidOut (by kernel_rfl) (of_decide_eq_true (by kernel_rfl)) h0 (fun x hx => hg.same (hlt x (by simp [hx]))) (fun x hx => hsp x (by simp [hx]))
  have g1 : DataW.Trod enc Try.prog W' 0 sp true 9 _ d1 p1 := WideElems.Trod_stays laidOut (by kernel_rfl) (of_decide_eq_true (by kernel_rfl)) h1 (fun x hx => hg.same (hlt x (by simp [hx]))) (fun x hx => hsp x (by simp [hx]))
  have g2 : DataW.Trod enc Try.prog W' 0 sp true 46 _ d2 p2 := WideElems.Trod_stays laidOut (by kernel_rfl) (of_decide_eq_true (by kernel_rfl)) h2 (fun x hx => hg.same (hlt x (by simp [hx]))) (fun x hx => hsp x (by simp [hx]))
  have hT := (trodAll_cons_mk g0 (trodAll_cons_mk g1 (trodAll_cons_mk g2 trodAll_mk0)))
  simp only [List.append_nil] at hT
  exact hT
set_option maxRecDepth 100000 in
theorem lifted (os : Os) (started : os.Started) (H : Type) (enc : TypeId × Value → H) :
    ReturnsInHanded {} Try.checked os 6 .any (Rows.indexRangesSpec.pre6 enc Try.prog Try.f6 Rows.indexRangesRow.domain false) (Rows.indexRangesSpec.post enc Try.prog Try.f6 false true false false) := by
  refine returnsInHanded_of_change_sized (C := Try.checked) Fr.own started (by kernel_rfl) Try.func6
    (ChangeSpec.witness6 (enc := enc) (C := Try.checked) false ⟨#[], #[.slice none 0 0, .string ⟨#[]⟩, .agg #[.int .i64 0, .int .i64 0]], []⟩ 8 (by kernel_rfl) (by kernel_rfl) (by kernel_rfl) (by kernel_rfl)) ?_
  intro W base args ds gs before hval hW _ hsz _
  exact contract H enc W base args ds gs before hval hW hsz
theorem said : Rows.IndexRangesSaid :=
  OpenClaim.holds_of_wide 6 Try.f6 rfl rfl rfl rfl rfl rfl rfl ⟨rfl, rfl, rfl, rfl, rfl⟩ rfl rfl rfl rfl rfl (by kernel_rfl) Try.func6 (by kernel_rfl)
    (of_decide_eq_true (by kernel_rfl)) (by unfold Func.isWrapper; first | (rw [if_pos (by decide +kernel)]; kernel_rfl) | (rw [if_neg (by decide +kernel)]; exact ⟨rfl, rfl⟩))
    (fun os started H enc _ => lifted os started H enc)
end LaIndexRanges
end Go.Proofs.Ytapdhelioecneaa
