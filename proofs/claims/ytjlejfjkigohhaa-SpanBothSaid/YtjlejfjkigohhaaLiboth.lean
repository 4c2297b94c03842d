/- SpanBoth: what meets, and what is joined, is the same the other way round; a span meets itself as itself; what meets a third behind what met is the same in any order: for all spans. No other condition. -/
import Derived.Test.YtjlejfjkigohhaaIq
import Derived.Test.YtjlejfjkigohhaaIp
import Derived.Test.YtjlejfjkigohhaaFra
import Derived.WideKeyPair
import Derived.SizedLaws
namespace Go.Proofs.Ytjlejfjkigohhaa
open Go.ChangeShapes Go.WideShapes Go.ChangeAt Go.RowKit
open Go.ChangeMaps (open_string shut_string)
namespace LaSpanBoth
open Spn
set_option maxHeartbeats 4000000 in
set_option maxRecDepth 100000 in
theorem walk (a b c d e f : Int) (w : World) :
    Calls Try.prog 8 #[.agg #[.int .i64 a, .int .i64 b], .agg #[.int .i64 c, .int .i64 d], .agg #[.int .i64 e, .int .i64 f]] w fun x w' => x = .returned (.bool true) ∧ Below w.heap.size w w' := by
  obtain ⟨m1, m2, is, hm⟩ := as_pair (meet (a, b) (c, d))
  obtain ⟨j1, j2, can, hj⟩ := as_pair (join (a, b) (c, d))
  obtain ⟨p1, p2, pt, hp⟩ := as_pair (meet (c, d) (e, f))
  obtain ⟨x1, x2, one, hx⟩ := as_pair (meet (m1, m2) (e, f))
  have hn := hm
  rw [meet_comm] at hn
  have hk := hj
  rw [join_comm] at hk
  have hy : meet (a, b) (p1, p2) = ((x1, x2), one) := by
    have h1 : (m1, m2) = (meet (a, b) (c, d)).1 := by rw [hm]
    have h2 : (p1, p2) = (meet (c, d) (e, f)).1 := by rw [hp]
    rw [← hx, h1, h2, meet_assoc]
  have CM := hide (fun w => meet_v hm w)
  have CN := hide (fun w => meet_v hn w)
  have CJ := hide (fun w => join_v hj w)
  have CK := hide (fun w => join_v hk w)
  have CX := hide (fun w => meet_v hx w)
  have CP := hide (fun w => meet_v hp w)
  have CY := hide (fun w => meet_v hy w)
  have E1 := neS_no (m1, m2)
  have E2 := neS_no (j1, j2)
  have E3 := neS_no (x1, x2)
  simp only at E1 E2 E3
  clear hm hn hj hk hx hp hy
  by_cases hr : Right (a, b)
  · have CO := hide (fun w => meet_v (meet_self (a, b) hr) w)
    have CR := hide (fun w => right_yes hr w)
    have E4 := neS_no (a, b)
    simp only at E4
    clear hr
    go_enter Try.func8, Try.ntmps8
    have HB0 := hide (bx3 w a b c d e f)
    go_wp2_with fail
    refine (CM.out _).mono ?_
    rintro e z1 ⟨rfl, hb⟩
    have HB1 := hide (HB0.out.later hb)
    clear HB0
    clear hb
    obtain ⟨b_0, b_1, _, _, b_l⟩ := HB1.out.get 1 rfl
    obtain ⟨a_0, a_1, _, _, a_l⟩ := HB1.out.get 2 rfl
    go_wp2_with fail
    have HX1 := hide (HB1.out.push m1 m2 (k := z1.heap.size) rfl)
    obtain ⟨B_m, hB_m⟩ : ∃ B_m, B_m = z1.heap.size := ⟨_, rfl⟩
    rw [← hB_m] at HX1 ⊢
    clear hB_m HB1
    refine (CN.out _).mono ?_
    rintro e z2 ⟨rfl, hb⟩
    have HB2 := hide (HX1.out.later hb)
    clear b_0 b_1 b_l a_0 a_1 a_l
    clear HX1
    clear hb
    obtain ⟨a_0, a_1, _, _, a_l⟩ := HB2.out.get 3 rfl
    obtain ⟨b_0, b_1, _, _, b_l⟩ := HB2.out.get 2 rfl
    go_wp2_with fail
    have HX2 := hide (HB2.out.push m1 m2 (k := z2.heap.size) rfl)
    obtain ⟨B_n, hB_n⟩ : ∃ B_n, B_n = z2.heap.size := ⟨_, rfl⟩
    rw [← hB_n] at HX2 ⊢
    clear hB_n HB2
    refine (CJ.out _).mono ?_
    rintro e z3 ⟨rfl, hb⟩
    have HB3 := hide (HX2.out.later hb)
    clear a_0 a_1 a_l b_0 b_1 b_l
    clear HX2
    clear hb
    obtain ⟨b_0, b_1, _, _, b_l⟩ := HB3.out.get 3 rfl
    obtain ⟨a_0, a_1, _, _, a_l⟩ := HB3.out.get 4 rfl
    go_wp2_with fail
    have HX3 := hide (HB3.out.push j1 j2 (k := z3.heap.size) rfl)
    obtain ⟨B_j, hB_j⟩ : ∃ B_j, B_j = z3.heap.size := ⟨_, rfl⟩
    rw [← hB_j] at HX3 ⊢
    clear hB_j HB3
    refine (CK.out _).mono ?_
    rintro e z4 ⟨rfl, hb⟩
    have HB4 := hide (HX3.out.later hb)
    clear b_0 b_1 b_l a_0 a_1 a_l
    clear HX3
    clear hb
    obtain ⟨a_0, a_1, _, _, a_l⟩ := HB4.out.get 5 rfl
    go_wp2_with fail
    have HX4 := hide (HB4.out.push j1 j2 (k := z4.heap.size) rfl)
    obtain ⟨B_k, hB_k⟩ : ∃ B_k, B_k = z4.heap.size := ⟨_, rfl⟩
    rw [← hB_k] at HX4 ⊢
    clear hB_k HB4
    refine (CO.out _).mono ?_
    rintro e z5 ⟨rfl, hb⟩
    have HB5 := hide (HX4.out.later hb)
    clear a_0 a_1 a_l
    clear HX4
    clear hb
    obtain ⟨m_0, m_1, _, _, m_l⟩ := HB5.out.get 3 rfl
    obtain ⟨c_0, c_1, _, _, c_l⟩ := HB5.out.get 4 rfl
    go_wp2_with fail
    have HX5 := hide (HB5.out.push a b (k := z5.heap.size) rfl)
    obtain ⟨B_o, hB_o⟩ : ∃ B_o, B_o = z5.heap.size := ⟨_, rfl⟩
    rw [← hB_o] at HX5 ⊢
    clear hB_o HB5
    refine (CX.out _).mono ?_
    rintro e z6 ⟨rfl, hb⟩
    have HB6 := hide (HX5.out.later hb)
    clear m_0 m_1 m_l c_0 c_1 c_l
    clear HX5
    clear hb
    obtain ⟨b_0, b_1, _, _, b_l⟩ := HB6.out.get 6 rfl
    obtain ⟨c_0, c_1, _, _, c_l⟩ := HB6.out.get 5 rfl
    go_wp2_with fail
    have HX6 := hide (HB6.out.push x1 x2 (k := z6.heap.size) rfl)
    obtain ⟨B_x, hB_x⟩ : ∃ B_x, B_x = z6.heap.size := ⟨_, rfl⟩
    rw [← hB_x] at HX6 ⊢
    clear hB_x HB6
    refine (CP.out _).mono ?_
    rintro e z7 ⟨rfl, hb⟩
    have HB7 := hide (HX6.out.later hb)
    clear b_0 b_1 b_l c_0 c_1 c_l
    clear HX6
    clear hb
    obtain ⟨a_0, a_1, _, _, a_l⟩ := HB7.out.get 8 rfl
    go_wp2_with fail
    have HX7 := hide (HB7.out.push p1 p2 (k := z7.heap.size) rfl)
    obtain ⟨B_p, hB_p⟩ : ∃ B_p, B_p = z7.heap.size := ⟨_, rfl⟩
    rw [← hB_p] at HX7 ⊢
    clear hB_p HB7
    refine (CY.out _).mono ?_
    rintro e z8 ⟨rfl, hb⟩
    have HB8 := hide (HX7.out.later hb)
    clear a_0 a_1 a_l
    clear HX7
    clear hb
    obtain ⟨m_0, m_1, _, _, m_l⟩ := HB8.out.get 6 rfl
    obtain ⟨n_0, n_1, _, _, n_l⟩ := HB8.out.get 5 rfl
    obtain ⟨j_0, j_1, _, _, j_l⟩ := HB8.out.get 4 rfl
    obtain ⟨k_0, k_1, _, _, k_l⟩ := HB8.out.get 3 rfl
    obtain ⟨a_0, a_1, _, _, a_l⟩ := HB8.out.get 9 rfl
    go_wp2_with fail
    have HX8 := hide (HB8.out.push x1 x2 (k := z8.heap.size) rfl)
    obtain ⟨B_y, hB_y⟩ : ∃ B_y, B_y = z8.heap.size := ⟨_, rfl⟩
    rw [← hB_y] at HX8 ⊢
    clear hB_y HB8
    refine (CR.out _).mono ?_
    rintro e z9 ⟨rfl, hb⟩
    have HB9 := hide (HX8.out.later hb)
    clear m_0 m_1 m_l n_0 n_1 n_l j_0 j_1 j_l k_0 k_1 k_l a_0 a_1 a_l
    clear HX8
    clear hb
    obtain ⟨o_0, o_1, _, _, o_l⟩ := HB9.out.get 3 rfl
    obtain ⟨a_0, a_1, _, _, a_l⟩ := HB9.out.get 10 rfl
    obtain ⟨x_0, x_1, _, _, x_l⟩ := HB9.out.get 2 rfl
    obtain ⟨y_0, y_1, _, _, y_l⟩ := HB9.out.get 0 rfl
    go_wp2_with fail
    refine (known_any _).mono ?_
    rintro e z10 ⟨rfl, hb⟩
    have HB10 := hide (HB9.out.later hb)
    clear o_0 o_1 o_l a_0 a_1 a_l x_0 x_1 x_l y_0 y_1 y_l
    clear HB9
    clear hb
    go_wp2_with fail
    go_ret
    exact ⟨rfl, HB10.out.bel⟩
  · have CO := hide (fun w => meet_v (meet_wrong (a, b) hr) w)
    have CR := hide (fun w => right_no hr w)
    clear hr
    go_enter Try.func8, Try.ntmps8
    have HB0 := hide (bx3 w a b c d e f)
    go_wp2_with fail
    refine (CM.out _).mono ?_
    rintro e z1 ⟨rfl, hb⟩
    have HB1 := hide (HB0.out.later hb)
    clear HB0
    clear hb
    obtain ⟨b_0, b_1, _, _, b_l⟩ := HB1.out.get 1 rfl
    obtain ⟨a_0, a_1, _, _, a_l⟩ := HB1.out.get 2 rfl
    go_wp2_with fail
    have HX1 := hide (HB1.out.push m1 m2 (k := z1.heap.size) rfl)
    obtain ⟨B_m, hB_m⟩ : ∃ B_m, B_m = z1.heap.size := ⟨_, rfl⟩
    rw [← hB_m] at HX1 ⊢
    clear hB_m HB1
    refine (CN.out _).mono ?_
    rintro e z2 ⟨rfl, hb⟩
    have HB2 := hide (HX1.out.later hb)
    clear b_0 b_1 b_l a_0 a_1 a_l
    clear HX1
    clear hb
    obtain ⟨a_0, a_1, _, _, a_l⟩ := HB2.out.get 3 rfl
    obtain ⟨b_0, b_1, _, _, b_l⟩ := HB2.out.get 2 rfl
    go_wp2_with fail
    have HX2 := hide (HB2.out.push m1 m2 (k := z2.heap.size) rfl)
    obtain ⟨B_n, hB_n⟩ : ∃ B_n, B_n = z2.heap.size := ⟨_, rfl⟩
    rw [← hB_n] at HX2 ⊢
    clear hB_n HB2
    refine (CJ.out _).mono ?_
    rintro e z3 ⟨rfl, hb⟩
    have HB3 := hide (HX2.out.later hb)
    clear a_0 a_1 a_l b_0 b_1 b_l
    clear HX2
    clear hb
    obtain ⟨b_0, b_1, _, _, b_l⟩ := HB3.out.get 3 rfl
    obtain ⟨a_0, a_1, _, _, a_l⟩ := HB3.out.get 4 rfl
    go_wp2_with fail
    have HX3 := hide (HB3.out.push j1 j2 (k := z3.heap.size) rfl)
    obtain ⟨B_j, hB_j⟩ : ∃ B_j, B_j = z3.heap.size := ⟨_, rfl⟩
    rw [← hB_j] at HX3 ⊢
    clear hB_j HB3
    refine (CK.out _).mono ?_
    rintro e z4 ⟨rfl, hb⟩
    have HB4 := hide (HX3.out.later hb)
    clear b_0 b_1 b_l a_0 a_1 a_l
    clear HX3
    clear hb
    obtain ⟨a_0, a_1, _, _, a_l⟩ := HB4.out.get 5 rfl
    go_wp2_with fail
    have HX4 := hide (HB4.out.push j1 j2 (k := z4.heap.size) rfl)
    obtain ⟨B_k, hB_k⟩ : ∃ B_k, B_k = z4.heap.size := ⟨_, rfl⟩
    rw [← hB_k] at HX4 ⊢
    clear hB_k HB4
    refine (CO.out _).mono ?_
    rintro e z5 ⟨rfl, hb⟩
    have HB5 := hide (HX4.out.later hb)
    clear a_0 a_1 a_l
    clear HX4
    clear hb
    obtain ⟨m_0, m_1, _, _, m_l⟩ := HB5.out.get 3 rfl
    obtain ⟨c_0, c_1, _, _, c_l⟩ := HB5.out.get 4 rfl
    go_wp2_with fail
    have HX5 := hide (HB5.out.push 0 0 (k := z5.heap.size) rfl)
    obtain ⟨B_o, hB_o⟩ : ∃ B_o, B_o = z5.heap.size := ⟨_, rfl⟩
    rw [← hB_o] at HX5 ⊢
    clear hB_o HB5
    refine (CX.out _).mono ?_
    rintro e z6 ⟨rfl, hb⟩
    have HB6 := hide (HX5.out.later hb)
    clear m_0 m_1 m_l c_0 c_1 c_l
    clear HX5
    clear hb
    obtain ⟨b_0, b_1, _, _, b_l⟩ := HB6.out.get 6 rfl
    obtain ⟨c_0, c_1, _, _, c_l⟩ := HB6.out.get 5 rfl
    go_wp2_with fail
    have HX6 := hide (HB6.out.push x1 x2 (k := z6.heap.size) rfl)
    obtain ⟨B_x, hB_x⟩ : ∃ B_x, B_x = z6.heap.size := ⟨_, rfl⟩
    rw [← hB_x] at HX6 ⊢
    clear hB_x HB6
    refine (CP.out _).mono ?_
    rintro e z7 ⟨rfl, hb⟩
    have HB7 := hide (HX6.out.later hb)
    clear b_0 b_1 b_l c_0 c_1 c_l
    clear HX6
    clear hb
    obtain ⟨a_0, a_1, _, _, a_l⟩ := HB7.out.get 8 rfl
    go_wp2_with fail
    have HX7 := hide (HB7.out.push p1 p2 (k := z7.heap.size) rfl)
    obtain ⟨B_p, hB_p⟩ : ∃ B_p, B_p = z7.heap.size := ⟨_, rfl⟩
    rw [← hB_p] at HX7 ⊢
    clear hB_p HB7
    refine (CY.out _).mono ?_
    rintro e z8 ⟨rfl, hb⟩
    have HB8 := hide (HX7.out.later hb)
    clear a_0 a_1 a_l
    clear HX7
    clear hb
    obtain ⟨m_0, m_1, _, _, m_l⟩ := HB8.out.get 6 rfl
    obtain ⟨n_0, n_1, _, _, n_l⟩ := HB8.out.get 5 rfl
    obtain ⟨j_0, j_1, _, _, j_l⟩ := HB8.out.get 4 rfl
    obtain ⟨k_0, k_1, _, _, k_l⟩ := HB8.out.get 3 rfl
    obtain ⟨a_0, a_1, _, _, a_l⟩ := HB8.out.get 9 rfl
    go_wp2_with fail
    have HX8 := hide (HB8.out.push x1 x2 (k := z8.heap.size) rfl)
    obtain ⟨B_y, hB_y⟩ : ∃ B_y, B_y = z8.heap.size := ⟨_, rfl⟩
    rw [← hB_y] at HX8 ⊢
    clear hB_y HB8
    refine (CR.out _).mono ?_
    rintro e z9 ⟨rfl, hb⟩
    have HB9 := hide (HX8.out.later hb)
    clear m_0 m_1 m_l n_0 n_1 n_l j_0 j_1 j_l k_0 k_1 k_l a_0 a_1 a_l
    clear HX8
    clear hb
    obtain ⟨o_0, o_1, _, _, o_l⟩ := HB9.out.get 3 rfl
    obtain ⟨a_0, a_1, _, _, a_l⟩ := HB9.out.get 10 rfl
    obtain ⟨x_0, x_1, _, _, x_l⟩ := HB9.out.get 2 rfl
    obtain ⟨y_0, y_1, _, _, y_l⟩ := HB9.out.get 0 rfl
    go_wp2_with fail
    refine (known_any _).mono ?_
    rintro e z10 ⟨rfl, hb⟩
    have HB10 := hide (HB9.out.later hb)
    clear o_0 o_1 o_l a_0 a_1 a_l x_0 x_1 x_l y_0 y_1 y_l
    clear HB9
    clear hb
    go_wp2_with fail
    go_ret
    exact ⟨rfl, HB10.out.bel⟩
theorem laidOut : laidOutB Try.prog = true := by kernel_rfl
set_option maxRecDepth 100000 in
theorem contract (H : Type) (enc : TypeId × Value → H) (W : World) (base : Nat) (args : Array Value) (ds gs : List (DataW H)) (before : List MemPlace)
    (hval : ∀ (j : Nat) t v, Try.f8.params[j]? = some t → args[j]? = some v → Value.okWide Try.prog W .any base t v)
    (hW : DataW.Whole enc Try.prog Try.f8.params.toList Rows.spanBothSpec.vars false W args.toList ds gs before)
    (hsz0 : (DataW.weightsEach Try.prog (Try.f8.params.toList ++ Rows.spanBothSpec.plain.varTypes Try.prog) (ds ++ gs)).all (· ≤ reachBytes) = true) :
    Calls Try.prog 8 args W fun e W' => ∃ v, e = .returned v ∧ Rows.spanBothSpec.post enc Try.prog Try.f8 false true false false W args v W' := by
  have hW' := hW
  obtain ⟨p, q, hA0, hV, rfl, hfz, hnd⟩ := hW
  have hA : DataW.TrodAll enc Try.prog W 0 (fun _ => true) true Try.f8.params.toList args.toList ds p := hA0
  rw [Try.params8] at hA hval hsz0
  obtain ⟨v0, vs0, d0, ds0, p0, q0, hargs, rfl, rfl, h0, r0⟩ := trodAll_cons hA
  obtain ⟨v1, vs1, d1, ds1, p1, q1, rfl, rfl, rfl, h1, r1⟩ := trodAll_cons r0
  obtain ⟨v2, vs2, d2, ds2, p2, q2, rfl, rfl, rfl, h2, r2⟩ := trodAll_cons r1
  obtain ⟨rfl, rfl, rfl⟩ := trodAll_nil r2
  obtain rfl : args = #[v0, v1, v2] := by cases args; simp_all
  obtain ⟨rfl, rfl⟩ := trodVars_none hV
  have hsz := fun n hn => of_decide_eq_true (List.all_eq_true.1 hsz0 n hn)
  obtain ⟨aa, ab, rfl⟩ := Spn.open_span (hval 0 23 v0 rfl rfl) h0
  obtain ⟨ba, bb, rfl⟩ := Spn.open_span (hval 1 23 v1 rfl rfl) h1
  obtain ⟨ca, cb, rfl⟩ := Spn.open_span (hval 2 23 v2 rfl rfl) h2
  clear hA0 hsz0
  simp only [List.append_nil] at hW'
  have hlt : ∀ x ∈ p0 ++ p1 ++ p2, x.block < W.heap.size := fun x hx => hW'.lt x (by simpa using hx)
  have walk := walk aa ab ba bb ca cb W
  refine walk.mono fun e W' ⟨he, hg⟩ => ?_
  subst he
  refine ⟨_, rfl, Fr.post_made (pa := p0 ++ (p1 ++ p2)) (pv := []) hW' (fun _ _ _ => trodAll_cons_mk (shut_bool Try.underlying4 _) trodAll_mk0) (fun sp hsp => ?_) (fun _ _ => rfl) (by simp) hg (ok_one (by kernel_rfl) rfl (okWide_bool_mk Try.underlying4 _))⟩
  have g0 : DataW.Trod enc Try.prog W' 0 sp true 23 _ d0 p0 := WideElems.Trod_stays laidOut (by kernel_rfl) (of_decide_eq_true (by kernel_rfl)) h0 (fun x hx => hg.same (hlt x (by simp [hx]))) (fun x hx => hsp x (by simp [hx]))
  have g1 : DataW.Trod enc Try.prog W' 0 sp true 23 _ d1 p1 := WideElems.Trod_stays laidOut (by kernel_rfl) (of_decide_eq_true (by kernel_rfl)) h1 (fun x hx => hg.same (hlt x (by simp [hx]))) (fun x hx => hsp x (by simp [hx]))
  have g2 : DataW.Trod enc Try.prog W' 0 sp true 23 _ d2 p2 := WideElems.Trod_stays laidOut (by kernel_rfl) (of_decide_eq_true (by kernel_rfl)) h2 (fun x hx => hg.same (hlt x (by simp [hx]))) (fun x hx => hsp x (by simp [hx]))
  have hT := (trodAll_cons_mk g0 (trodAll_cons_mk g1 (trodAll_cons_mk g2 trodAll_mk0)))
  simp only [List.append_nil] at hT
  exact hT
set_option maxRecDepth 100000 in
theorem lifted (os : Os) (started : os.Started) (H : Type) (enc : TypeId × Value → H) :
    ReturnsInHanded {} Try.checked os 8 .any (Rows.spanBothSpec.pre6 enc Try.prog Try.f8 Rows.spanBothRow.domain false) (Rows.spanBothSpec.post enc Try.prog Try.f8 false true false false) := by
  refine returnsInHanded_of_change_sized (C := Try.checked) Fr.own started (by kernel_rfl) Try.func8
    (ChangeSpec.witness6 (enc := enc) (C := Try.checked) false ⟨#[], #[.agg #[.int .i64 0, .int .i64 0], .agg #[.int .i64 0, .int .i64 0], .agg #[.int .i64 0, .int .i64 0]], []⟩ 8 (by kernel_rfl) (by kernel_rfl) (by kernel_rfl) (by kernel_rfl)) ?_
  intro W base args ds gs before hval hW _ hsz _
  exact contract H enc W base args ds gs before hval hW hsz
theorem said : Rows.SpanBothSaid :=
  OpenClaim.holds_of_wide 8 Try.f8 rfl rfl rfl rfl rfl rfl rfl ⟨rfl, rfl, rfl, rfl, rfl⟩ rfl rfl rfl rfl rfl (by kernel_rfl) Try.func8 (by kernel_rfl)
    (of_decide_eq_true (by kernel_rfl)) (by unfold Func.isWrapper; first | (rw [if_pos (by decide +kernel)]; kernel_rfl) | (rw [if_neg (by decide +kernel)]; exact ⟨rfl, rfl⟩))
    (fun os started H enc _ => lifted os started H enc)
end LaSpanBoth
end Go.Proofs.Ytjlejfjkigohhaa
