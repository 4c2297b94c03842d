/- SpanTimes: what meets has a time just if both have it; what is joined, if one of both has it; what is cut, if the one has it and the other has not: for all spans, all times. No other condition. -/
import Derived.Test.YtjlejfjkigohhaaIq
import Derived.Test.YtjlejfjkigohhaaIp
import Derived.Test.YtjlejfjkigohhaaFra
import Derived.WideKeyPair
import Derived.SizedLaws
namespace Go.Proofs.Ytjlejfjkigohhaa
open Go.ChangeShapes Go.WideShapes Go.ChangeAt Go.RowKit
open Go.ChangeMaps (open_string shut_string)
namespace LaSpanTimes
open Spn
theorem has_v {a b t : Int} {p : Bool} (h : decide (Has (a, b) t) = p) (w : World) :
    Calls Try.prog 16 #[.agg #[.int .i64 a, .int .i64 b], .int .i64 t] w fun e w' => e = .returned (.bool p) ∧ Below w.heap.size w w' := by
  have := has_any a b t w
  rwa [h] at this
/-- How many of them have the time. -/
def cnt (l : List Sp) (t : Int) : Nat := (l.filter fun s => decide (Has s t)).length
theorem cnt_take {l : List Sp} {i : Nat} (hi : i < l.length) (t : Int) : cnt (l.take (i + 1)) t = cnt (l.take i) t + if Has l[i] t then 1 else 0 := by
  unfold cnt
  rw [List.take_succ_eq_append_getElem hi, List.filter_append, List.length_append]
  congr 1
  by_cases h : Has l[i] t <;> simp [h]
theorem cnt_le (l : List Sp) (t : Int) : cnt l t ≤ l.length := List.length_filter_le _ _
theorem cnt_none {l : List Sp} {t : Int} (h : ¬ HasL l t) : cnt l t = 0 := by
  unfold cnt
  rw [List.length_eq_zero_iff, List.filter_eq_nil_iff]
  intro s hs hd
  exact h ⟨s, hs, of_decide_eq_true hd⟩
theorem cnt_one {l : List Sp} {t : Int} (hc : Canon l) (h : HasL l t) : cnt l t = 1 := by
  induction l with
  | nil => exact absurd h (hasL_nil t)
  | cons s l ih =>
    unfold cnt
    by_cases hs : Has s t
    · rw [List.filter_cons_of_pos (by simp [hs]), List.length_cons]
      have : ¬ HasL l t := fun h9 => by have := hc.behind h9; have := hs.2.2; omega
      have h0 := cnt_none this
      unfold cnt at h0
      rw [h0]
    · rw [List.filter_cons_of_neg (by simp [hs])]
      rw [hasL_cons] at h
      exact ih hc.2.2 (h.resolve_left hs)
set_option maxHeartbeats 8000000 in
set_option maxRecDepth 100000 in
theorem walk (a b c d t : Int) (w : World) :
    Calls Try.prog 5 #[.agg #[.int .i64 a, .int .i64 b], .agg #[.int .i64 c, .int .i64 d], .int .i64 t] w fun x w' => x = .returned (.bool true) ∧ Below w.heap.size w w' := by
  obtain ⟨m1, m2, is, hm⟩ := as_pair (meet (a, b) (c, d))
  obtain ⟨j1, j2, can, hj⟩ := as_pair (join (a, b) (c, d))
  obtain ⟨bx, hbx⟩ : ∃ bx, decide (Has (a, b) t) = bx := ⟨_, rfl⟩
  obtain ⟨yb, hby⟩ : ∃ yb, decide (Has (c, d) t) = yb := ⟨_, rfl⟩
  have hmt : decide (Has (m1, m2) t) = (bx && yb) := by
    have h1 := has_meet (a, b) (c, d) t
    rw [hm] at h1
    rw [← hbx, ← hby, ← Bool.decide_and]
    exact decide_eq_decide.2 h1
  have hjt : can = true → decide (Has (j1, j2) t) = (bx || yb) := fun hc => by
    by_cases h : Joins (a, b) (c, d)
    · rw [join_yes h] at hj
      have e : wide (a, b) (c, d) = (j1, j2) := by injection hj
      have h1 := has_wide h t
      rw [e] at h1
      rw [← hbx, ← hby, ← Bool.decide_or]
      exact decide_eq_decide.2 h1
    · rw [join_no h] at hj
      have : can = false := by injection hj with _ h9; exact h9.symm
      rw [hc] at this; cases this
  have hct : cnt (cut (a, b) (c, d)) t = if (bx && !yb) = true then 1 else 0 := by
    rw [cut_eq]
    have h1 := rcut_has (a, b) (c, d) t
    by_cases h : HasL (rcut (a, b) (c, d)) t
    · rw [cnt_one (rcut_canon _ _) h, if_pos (by rw [← hbx, ← hby, decide_eq_true (h1.1 h).1, decide_eq_false (h1.1 h).2]; rfl)]
    · rw [cnt_none h, if_neg (by
        intro h9
        rw [← hbx, ← hby, Bool.and_eq_true, Bool.not_eq_true', decide_eq_true_iff, decide_eq_false_iff_not] at h9
        exact h (h1.2 h9))]
  have HLN := hide (show (cut (a, b) (c, d)).length ≤ 2 from by rw [cut_eq]; exact rcut_len _ _)
  have HCT := hide hct
  have CX := hide (fun w => has_v hbx w)
  have CY := hide (fun w => has_v hby w)
  have CM := hide (fun w => meet_v hm w)
  have CJ := hide (fun w => join_v hj w)
  have CMT := hide (fun w => has_v hmt w)
  have CJT := hide (fun (hc : can = true) w => has_v (hjt hc) w)
  clear hm hj hbx hby hmt hjt hct
  go_enter Try.func5, Try.ntmps5
  have HB0 := hide (bx2 w a b c d)
  go_wp2_with fail
  refine (CX.out _).mono ?_
  rintro e z1 ⟨rfl, hb⟩
  have HB1 := hide (HB0.out.later hb)
  clear HB0
  clear hb
  obtain ⟨b_0, b_1, _, _, b_l⟩ := HB1.out.get 0 rfl
  go_wp2_with fail
  refine (CY.out _).mono ?_
  rintro e z2 ⟨rfl, hb⟩
  have HB2 := hide (HB1.out.later hb)
  clear b_0 b_1 b_l
  clear HB1
  clear hb
  obtain ⟨a_0, a_1, _, _, a_l⟩ := HB2.out.get 1 rfl
  obtain ⟨b_0, b_1, _, _, b_l⟩ := HB2.out.get 0 rfl
  go_wp2_with fail
  refine (CM.out _).mono ?_
  rintro e z3 ⟨rfl, hb⟩
  have HB3 := hide (HB2.out.later hb)
  clear a_0 a_1 a_l b_0 b_1 b_l
  clear HB2
  clear hb
  obtain ⟨a_0, a_1, _, _, a_l⟩ := HB3.out.get 1 rfl
  obtain ⟨b_0, b_1, _, _, b_l⟩ := HB3.out.get 0 rfl
  go_wp2_with fail
  have HX3 := hide (HB3.out.push m1 m2 (k := z3.heap.size) rfl)
  obtain ⟨B_m, hB_m⟩ : ∃ B_m, B_m = z3.heap.size := ⟨_, rfl⟩
  rw [← hB_m] at HX3 ⊢
  clear hB_m HB3
  refine (CJ.out _).mono ?_
  rintro e z4 ⟨rfl, hb⟩
  have HB4 := hide (HX3.out.later hb)
  clear a_0 a_1 a_l b_0 b_1 b_l
  clear HX3
  clear hb
  obtain ⟨a_0, a_1, _, _, a_l⟩ := HB4.out.get 2 rfl
  obtain ⟨b_0, b_1, _, _, b_l⟩ := HB4.out.get 1 rfl
  go_wp2_with fail
  have HX4 := hide (HB4.out.push j1 j2 (k := z4.heap.size) rfl)
  obtain ⟨B_j, hB_j⟩ : ∃ B_j, B_j = z4.heap.size := ⟨_, rfl⟩
  rw [← hB_j] at HX4 ⊢
  clear hB_j HB4
  refine (cut_any a b c d _).mono ?_
  rintro e w1 ⟨v, rfl, hrow, hb⟩
  have HB5 := hide (HX4.out.later hb)
  have HS := hide hrow.spans
  obtain ⟨ao, cp, rfl, _, _⟩ := hrow.form
  clear hrow hb HX4 a_0 a_1 a_l b_0 b_1 b_l
  obtain ⟨l, hl⟩ : ∃ l, l = cut (a, b) (c, d) := ⟨_, rfl⟩
  rw [← hl] at HS HLN HCT ⊢
  clear hl
  obtain ⟨n, hn⟩ : ∃ n, n = l.length := ⟨_, rfl⟩
  have hn2 : n ≤ 2 := by rw [hn]; exact HLN.out
  rw [← hn]
  have HN := hide hn
  clear hn
  go_wp2_with fail
  go_loopw [14, 15] (fun mm ii wr => ∃ (i c9 : Nat), ii = .int .i64 i ∧ mm = .int .i64 c9 ∧ i ≤ n ∧ c9 ≤ i ∧ Hid (c9 = cnt (l.take i) t) ∧ Hid (Bx w [(B_j, (j1, j2)), (B_m, (m1, m2)), (w.heap.size + 1, (c, d)), (w.heap.size, (a, b))] wr) ∧ Hid (SpansAt l (.slice ao l.length cp) wr)) (fun _ ii _ => (n - (intOf ii).toNat))
  case atStart => exact ⟨0, 0, rfl, rfl, by omega, by omega, hide rfl, HB5, HS⟩
  case round =>
    rename World => wr
    obtain ⟨i, c9, rfl, rfl, hi, hc9, HC, HB, HS2⟩ := hrel
    clear HB5 HS
    rcases Nat.lt_or_ge i n with hlt | hge
    · have g1 : (i : Int) < (n : Int) := by omega
      have hil : i < l.length := by rw [← HN.out]; exact hlt
      obtain ⟨b0, off, cap, he, hbw, k0, k1⟩ := HS2.out.at i hil
      rw [← HN.out] at he
      simp only [Value.slice.injEq] at he
      obtain ⟨rfl, _, rfl⟩ := he
      have HX := hide (cnt_take hil t)
      obtain ⟨x, hx⟩ : ∃ x, x = l[i] := ⟨_, rfl⟩
      rw [← hx] at k0 k1 HX
      clear hx
      by_cases hh : Has (x.1, x.2) t
      · have CH := hide (fun w => has_y hh w)
        have HC2 := hide (show c9 + 1 = cnt (l.take (i + 1)) t from by rw [HX.out, if_pos hh, ← HC.out])
        clear hh HX
        go_wp2_with fail
        refine (CH.out _).mono ?_
        rintro e w2 ⟨rfl, hb⟩
        have HB2 := hide (HB.out.later hb)
        have HS3 := hide (HS2.out.later hb (Nat.le_refl _))
        clear hb k0 k1
        go_wp2_with fail
        go_roundw
        case rel => exact ⟨i + 1, c9 + 1, by go_num, by go_num, by omega, by omega, HC2, HB2, HS3⟩
        case measure => simp [intOf]; omega
      · have CH := hide (fun w => has_n hh w)
        have HC2 := hide (show c9 = cnt (l.take (i + 1)) t from by rw [HX.out, if_neg hh, ← HC.out]; rfl)
        clear hh HX
        go_wp2_with fail
        refine (CH.out _).mono ?_
        rintro e w2 ⟨rfl, hb⟩
        have HB2 := hide (HB.out.later hb)
        have HS3 := hide (HS2.out.later hb (Nat.le_refl _))
        clear hb k0 k1
        go_wp2_with fail
        go_roundw
        case rel => exact ⟨i + 1, c9, by go_num, by go_num, by omega, by omega, HC2, HB2, HS3⟩
        case measure => simp [intOf]; omega
    · obtain rfl : i = n := by omega
      have g1 : ¬ (i : Int) < (i : Int) := by omega
      have g2 : (i : Int) ≤ 2 := by omega
      have HC2 := hide (show c9 = if (bx && !yb) = true then 1 else 0 from by rw [HC.out, ← HCT.out, HN.out, List.take_length])
      clear HC HCT hc9
      obtain ⟨m_0, m_1, _, _, m_l⟩ := HB.out.get 1 rfl
      obtain ⟨j_0, j_1, _, _, j_l⟩ := HB.out.get 0 rfl
      cases can
      · clear CJT
        cases bx <;> cases yb
        all_goals
          simp only [Bool.and_true, Bool.and_false, Bool.not_true, Bool.not_false, if_true, if_false, Bool.false_eq_true] at HC2 CMT
          obtain rfl := HC2.out
          go_wp2_with fail
          refine (CMT.out _).mono ?_
          rintro e z21 ⟨rfl, hb⟩
          have HB21 := hide (HB.out.later hb)
          clear m_0 m_1 m_l j_0 j_1 j_l
          clear HB
          clear hb
          obtain ⟨j_0, j_1, _, _, j_l⟩ := HB21.out.get 0 rfl
          go_wp2_with fail
          refine (known_any _).mono ?_
          rintro e z22 ⟨rfl, hb⟩
          have HB22 := hide (HB21.out.later hb)
          clear j_0 j_1 j_l
          clear HB21
          clear hb
          go_wp2_with fail
          go_ret
          exact ⟨rfl, HB22.out.bel⟩
      · have CT := hide (CJT.out rfl)
        clear CJT
        cases bx <;> cases yb
        all_goals
          simp only [Bool.and_true, Bool.and_false, Bool.not_true, Bool.not_false, Bool.or_true, Bool.or_false, if_true, if_false, Bool.false_eq_true] at HC2 CMT CT
          obtain rfl := HC2.out
          go_wp2_with fail
          refine (CMT.out _).mono ?_
          rintro e z21 ⟨rfl, hb⟩
          have HB21 := hide (HB.out.later hb)
          clear m_0 m_1 m_l j_0 j_1 j_l
          clear HB
          clear hb
          obtain ⟨j_0, j_1, _, _, j_l⟩ := HB21.out.get 0 rfl
          go_wp2_with fail
          refine (CT.out _).mono ?_
          rintro e z22 ⟨rfl, hb⟩
          have HB22 := hide (HB21.out.later hb)
          clear j_0 j_1 j_l
          clear HB21
          clear hb
          go_wp2_with fail
          refine (known_any _).mono ?_
          rintro e z23 ⟨rfl, hb⟩
          have HB23 := hide (HB22.out.later hb)
          clear HB22
          clear hb
          go_wp2_with fail
          go_ret
          exact ⟨rfl, HB23.out.bel⟩
theorem laidOut : laidOutB Try.prog = true := by kernel_rfl
set_option maxRecDepth 100000 in
theorem contract (H : Type) (enc : TypeId × Value → H) (W : World) (base : Nat) (args : Array Value) (ds gs : List (DataW H)) (before : List MemPlace)
    (hval : ∀ (j : Nat) t v, Try.f5.params[j]? = some t → args[j]? = some v → Value.okWide Try.prog W .any base t v)
    (hW : DataW.Whole enc Try.prog Try.f5.params.toList Rows.spanTimesSpec.vars false W args.toList ds gs before)
    (hsz0 : (DataW.weightsEach Try.prog (Try.f5.params.toList ++ Rows.spanTimesSpec.plain.varTypes Try.prog) (ds ++ gs)).all (· ≤ reachBytes) = true) :
    Calls Try.prog 5 args W fun e W' => ∃ v, e = .returned v ∧ Rows.spanTimesSpec.post enc Try.prog Try.f5 false true false false W args v W' := by
  have hW' := hW
  obtain ⟨p, q, hA0, hV, rfl, hfz, hnd⟩ := hW
  have hA : DataW.TrodAll enc Try.prog W 0 (fun _ => true) true Try.f5.params.toList args.toList ds p := hA0
  rw [Try.params5] at hA hval hsz0
  obtain ⟨v0, vs0, d0, ds0, p0, q0, hargs, rfl, rfl, h0, r0⟩ := trodAll_cons hA
  obtain ⟨v1, vs1, d1, ds1, p1, q1, rfl, rfl, rfl, h1, r1⟩ := trodAll_cons r0
  obtain ⟨v2, vs2, d2, ds2, p2, q2, rfl, rfl, rfl, h2, r2⟩ := trodAll_cons r1
  obtain ⟨rfl, rfl, rfl⟩ := trodAll_nil r2
  obtain rfl : args = #[v0, v1, v2] := by cases args; simp_all
  obtain ⟨rfl, rfl⟩ := trodVars_none hV
  have hsz := fun n hn => of_decide_eq_true (List.all_eq_true.1 hsz0 n hn)
  obtain ⟨t, rfl, hd2, hp2, wt⟩ := open_int Try.underlying3 (hval 2 3 v2 rfl rfl) h2
  have bt := bounds_i64 wt
  obtain ⟨aa, ab, rfl⟩ := Spn.open_span (hval 0 23 v0 rfl rfl) h0
  obtain ⟨ba, bb, rfl⟩ := Spn.open_span (hval 1 23 v1 rfl rfl) h1
  clear hA0 hsz0
  simp only [List.append_nil] at hW'
  have hlt : ∀ x ∈ p0 ++ p1 ++ p2, x.block < W.heap.size := fun x hx => hW'.lt x (by simpa using hx)
  have walk := walk aa ab ba bb t W
  refine walk.mono fun e W' ⟨he, hg⟩ => ?_
  subst he
  refine ⟨_, rfl, Fr.post_made (pa := p0 ++ (p1 ++ p2)) (pv := []) hW' (fun _ _ _ => trodAll_cons_mk (shut_bool Try.underlying4 _) trodAll_mk0) (fun sp hsp => ?_) (fun _ _ => rfl) (by simp) hg (ok_one (by kernel_rfl) rfl (okWide_bool_mk Try.underlying4 _))⟩
  have g0 : DataW.Trod enc Try.prog W' 0 sp true 23 _ d0 p0 := WideElems.Trod_stays laidOut (by kernel_rfl) (of_decide_eq_true (by kernel_rfl)) h0 (fun x hx => hg.same (hlt x (by simp [hx]))) (fun x hx => hsp x (by simp [hx]))
  have g1 : DataW.Trod enc Try.prog W' 0 sp true 23 _ d1 p1 := WideElems.Trod_stays laidOut (by kernel_rfl) (of_decide_eq_true (by kernel_rfl)) h1 (fun x hx => hg.same (hlt x (by simp [hx]))) (fun x hx => hsp x (by simp [hx]))
  have g2 : DataW.Trod enc Try.prog W' 0 sp true 3 _ d2 p2 := WideElems.Trod_stays laidOut (by kernel_rfl) (of_decide_eq_true (by kernel_rfl)) h2 (fun x hx => hg.same (hlt x (by simp [hx]))) (fun x hx => hsp x (by simp [hx]))
  have hT := (trodAll_cons_mk g0 (trodAll_cons_mk g1 (trodAll_cons_mk g2 trodAll_mk0)))
  simp only [List.append_nil] at hT
  exact hT
set_option maxRecDepth 100000 in
theorem lifted (os : Os) (started : os.Started) (H : Type) (enc : TypeId × Value → H) :
    ReturnsInHanded {} Try.checked os 5 .any (Rows.spanTimesSpec.pre6 enc Try.prog Try.f5 Rows.spanTimesRow.domain false) (Rows.spanTimesSpec.post enc Try.prog Try.f5 false true false false) := by
  refine returnsInHanded_of_change_sized (C := Try.checked) Fr.own started (by kernel_rfl) Try.func5
    (ChangeSpec.witness6 (enc := enc) (C := Try.checked) false ⟨#[], #[.agg #[.int .i64 0, .int .i64 0], .agg #[.int .i64 0, .int .i64 0], .int .i64 0], []⟩ 8 (by kernel_rfl) (by kernel_rfl) (by kernel_rfl) (by kernel_rfl)) ?_
  intro W base args ds gs before hval hW _ hsz _
  exact contract H enc W base args ds gs before hval hW hsz
theorem said : Rows.SpanTimesSaid :=
  OpenClaim.holds_of_wide 5 Try.f5 rfl rfl rfl rfl rfl rfl rfl ⟨rfl, rfl, rfl, rfl, rfl⟩ rfl rfl rfl rfl rfl (by kernel_rfl) Try.func5 (by kernel_rfl)
    (of_decide_eq_true (by kernel_rfl)) (by unfold Func.isWrapper; first | (rw [if_pos (by decide +kernel)]; kernel_rfl) | (rw [if_neg (by decide +kernel)]; exact ⟨rfl, rfl⟩))
    (fun os started H enc _ => lifted os started H enc)
end LaSpanTimes
end Go.Proofs.Ytjlejfjkigohhaa
