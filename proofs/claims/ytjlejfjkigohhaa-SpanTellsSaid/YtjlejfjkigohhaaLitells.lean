/- SpanTells: whether any spans are right, have a time, meet, can be joined, and what one has and the other has not, is as the document says: for all spans, all times. No other condition. -/
import Derived.Test.YtjlejfjkigohhaaIq
import Derived.Test.YtjlejfjkigohhaaIn
import Derived.Test.YtjlejfjkigohhaaIp
import Derived.Test.YtjlejfjkigohhaaFra
import Derived.Test.YtjlejfjkigohhaaMan
import Derived.WideKeyPair
import Derived.SizedLaws
namespace Go.Proofs.Ytjlejfjkigohhaa
open Go.ChangeShapes Go.WideShapes Go.ChangeAt Go.RowKit
open Go.ChangeMaps (open_string shut_string)
namespace LaSpanTells
open Spn
theorem has_v {a b t : Int} {p : Bool} (h : decide (Has (a, b) t) = p) (w : World) :
    Calls Try.prog 16 #[.agg #[.int .i64 a, .int .i64 b], .int .i64 t] w fun e w' => e = .returned (.bool p) ∧ Below w.heap.size w w' := by
  have := has_any a b t w
  rwa [h] at this
theorem rhas_v {a b t : Int} {p : Bool} (h : decide (Has (a, b) t) = p) (w : World) :
    Calls Try.prog 17 #[.agg #[.int .i64 a, .int .i64 b], .int .i64 t] w fun e w' => e = .returned (.bool p) ∧ Below w.heap.size w w' := by
  have := rhas_any a b t w
  rwa [h] at this
theorem right_v {a b : Int} {p : Bool} (h : decide (Right (a, b)) = p) (w : World) :
    Calls Try.prog 14 #[.agg #[.int .i64 a, .int .i64 b]] w fun e w' => e = .returned (.bool p) ∧ Below w.heap.size w w' := by
  have := right_any a b w
  rwa [h] at this
theorem rright_v {a b : Int} {p : Bool} (h : decide (Right (a, b)) = p) (w : World) :
    Calls Try.prog 15 #[.agg #[.int .i64 a, .int .i64 b]] w fun e w' => e = .returned (.bool p) ∧ Below w.heap.size w w' := by
  have := rright_any a b w
  rwa [h] at this
set_option maxHeartbeats 8000000 in
set_option maxRecDepth 100000 in
theorem walk (a b c d t : Int) (w : World) :
    Calls Try.prog 3 #[.agg #[.int .i64 a, .int .i64 b], .agg #[.int .i64 c, .int .i64 d], .int .i64 t] w fun x w' => x = .returned (.bool true) ∧ Below w.heap.size w w' := by
  obtain ⟨m1, m2, is, hm⟩ := as_pair (meet (a, b) (c, d))
  obtain ⟨j1, j2, can, hj⟩ := as_pair (join (a, b) (c, d))
  obtain ⟨br, hbr⟩ : ∃ br, decide (Right (a, b)) = br := ⟨_, rfl⟩
  obtain ⟨bh, hbh⟩ : ∃ bh, decide (Has (a, b) t) = bh := ⟨_, rfl⟩
  have CM := hide (fun w => meet_v hm w)
  have CN := hide (fun w => rmeet_v hm w)
  have CJ := hide (fun w => join_v hj w)
  have CK := hide (fun w => rjoin_v hj w)
  have C1 := hide (fun w => right_v hbr w)
  have C2 := hide (fun w => rright_v hbr w)
  have C3 := hide (fun w => has_v hbh w)
  have C4 := hide (fun w => rhas_v hbh w)
  have E1 := neS_no (m1, m2)
  have E2 := neS_no (j1, j2)
  simp only at E1 E2
  clear hm hj hbr hbh
  go_enter Try.func3, Try.ntmps3
  have HB0 := hide (bx2 w a b c d)
  go_wp2_with fail
  refine (CM.out _).mono ?_
  rintro e z1 ⟨rfl, hb⟩
  have HB1 := hide (HB0.out.later hb)
  clear HB0
  clear hb
  obtain ⟨a_0, a_1, _, _, a_l⟩ := HB1.out.get 1 rfl
  obtain ⟨b_0, b_1, _, _, b_l⟩ := HB1.out.get 0 rfl
  go_wp2_with fail
  have HX1 := hide (HB1.out.push m1 m2 (k := z1.heap.size) rfl)
  obtain ⟨B_m, hB_m⟩ : ∃ B_m, B_m = z1.heap.size := ⟨_, rfl⟩
  rw [← hB_m] at HX1 ⊢
  clear hB_m HB1
  refine (CN.out _).mono ?_
  rintro e z2 ⟨rfl, hb⟩
  have HB2 := hide (HX1.out.later hb)
  clear a_0 a_1 a_l b_0 b_1 b_l
  clear HX1
  clear hb
  obtain ⟨a_0, a_1, _, _, a_l⟩ := HB2.out.get 2 rfl
  obtain ⟨b_0, b_1, _, _, b_l⟩ := HB2.out.get 1 rfl
  go_wp2_with fail
  have HX2 := hide (HB2.out.push m1 m2 (k := z2.heap.size) rfl)
  obtain ⟨B_n, hB_n⟩ : ∃ B_n, B_n = z2.heap.size := ⟨_, rfl⟩
  rw [← hB_n] at HX2 ⊢
  clear hB_n HB2
  refine (CJ.out _).mono ?_
  rintro e z3 ⟨rfl, hb⟩
  have HB3 := hide (HX2.out.later hb)
  clear a_0 a_1 a_l b_0 b_1 b_l
  clear HX2
  clear hb
  obtain ⟨a_0, a_1, _, _, a_l⟩ := HB3.out.get 3 rfl
  obtain ⟨b_0, b_1, _, _, b_l⟩ := HB3.out.get 2 rfl
  go_wp2_with fail
  have HX3 := hide (HB3.out.push j1 j2 (k := z3.heap.size) rfl)
  obtain ⟨B_j, hB_j⟩ : ∃ B_j, B_j = z3.heap.size := ⟨_, rfl⟩
  rw [← hB_j] at HX3 ⊢
  clear hB_j HB3
  refine (CK.out _).mono ?_
  rintro e z4 ⟨rfl, hb⟩
  have HB4 := hide (HX3.out.later hb)
  clear a_0 a_1 a_l b_0 b_1 b_l
  clear HX3
  clear hb
  go_wp2_with fail
  have HX4 := hide (HB4.out.push j1 j2 (k := z4.heap.size) rfl)
  obtain ⟨B_k, hB_k⟩ : ∃ B_k, B_k = z4.heap.size := ⟨_, rfl⟩
  rw [← hB_k] at HX4 ⊢
  clear hB_k HB4
  have CE := hide (show ∀ u, Bx w [(B_k, (j1, j2)), (B_j, (j1, j2)), (B_n, (m1, m2)), (B_m, (m1, m2)), (w.heap.size + 1, (c, d)), (w.heap.size, (a, b))] u → (u.cell? ⟨w.heap.size, 0, none⟩ = some (.int .i64 a) ∧ u.cell? ⟨w.heap.size, 1, none⟩ = some (.int .i64 b) ∧ u.cell? ⟨w.heap.size + 1, 0, none⟩ = some (.int .i64 c) ∧ u.cell? ⟨w.heap.size + 1, 1, none⟩ = some (.int .i64 d) ∧ u.cell? ⟨B_m, 0, none⟩ = some (.int .i64 m1) ∧ u.cell? ⟨B_m, 1, none⟩ = some (.int .i64 m2) ∧ u.cell? ⟨B_n, 0, none⟩ = some (.int .i64 m1) ∧ u.cell? ⟨B_n, 1, none⟩ = some (.int .i64 m2) ∧ u.cell? ⟨B_j, 0, none⟩ = some (.int .i64 j1) ∧ u.cell? ⟨B_j, 1, none⟩ = some (.int .i64 j2) ∧ u.cell? ⟨B_k, 0, none⟩ = some (.int .i64 j1) ∧ u.cell? ⟨B_k, 1, none⟩ = some (.int .i64 j2)) from fun u h => ⟨(h.get 5 rfl).c0, (h.get 5 rfl).c1, (h.get 4 rfl).c0, (h.get 4 rfl).c1, (h.get 3 rfl).c0, (h.get 3 rfl).c1, (h.get 2 rfl).c0, (h.get 2 rfl).c1, (h.get 1 rfl).c0, (h.get 1 rfl).c1, (h.get 0 rfl).c0, (h.get 0 rfl).c1⟩)
  have H10 := hide (show Bx w [(B_k, (j1, j2)), (B_j, (j1, j2)), (B_n, (m1, m2)), (B_m, (m1, m2)), (w.heap.size + 1, (c, d)), (w.heap.size, (a, b))] _ from HX4.out.later (Below.refl _ _).drew)
  refine wp_region_held_drew (S := fun u => u.cell? ⟨w.heap.size, 0, none⟩ = some (.int .i64 a) ∧ u.cell? ⟨w.heap.size, 1, none⟩ = some (.int .i64 b) ∧ u.cell? ⟨w.heap.size + 1, 0, none⟩ = some (.int .i64 c) ∧ u.cell? ⟨w.heap.size + 1, 1, none⟩ = some (.int .i64 d) ∧ u.cell? ⟨B_m, 0, none⟩ = some (.int .i64 m1) ∧ u.cell? ⟨B_m, 1, none⟩ = some (.int .i64 m2) ∧ u.cell? ⟨B_n, 0, none⟩ = some (.int .i64 m1) ∧ u.cell? ⟨B_n, 1, none⟩ = some (.int .i64 m2) ∧ u.cell? ⟨B_j, 0, none⟩ = some (.int .i64 j1) ∧ u.cell? ⟨B_j, 1, none⟩ = some (.int .i64 j2) ∧ u.cell? ⟨B_k, 0, none⟩ = some (.int .i64 j1) ∧ u.cell? ⟨B_k, 1, none⟩ = some (.int .i64 j2)) (by kernel_rfl) (CE.out _ H10.out) (fun hHeld => ?_)
  refine Man.t1 0 hHeld ?_
  (try simp only [Act.put, Mqa, Mqb, Mqc])
  refine Man.t1 2 hHeld ?_
  (try simp only [Act.put, Mqa, Mqb, Mqc])
  refine Man.one (i := 1) rfl (by kernel_rfl) (fun K9 hK => ?_)
  go_simp
  with_reducible refine (C1.out _).mono ?_
  rintro e w11 ⟨rfl, hb⟩
  have H11 := hide (H10.out.later hb)
  clear hb H10
  have hs9 := CE.out w11 H11.out
  refine hK.out _ _ hs9 (fun hNew => ?_)
  clear hK K9 hHeld
  have hHeld := hNew
  clear hNew
  clear hs9
  (try simp only [Act.put, Mqa, Mqb, Mqc])
  refine Man.one (i := 3) rfl (by kernel_rfl) (fun K9 hK => ?_)
  go_simp
  with_reducible refine (C2.out _).mono ?_
  rintro e w12 ⟨rfl, hb⟩
  have H12 := hide (H11.out.later hb)
  clear hb H11
  have hs9 := CE.out w12 H12.out
  refine hK.out _ _ hs9 (fun hNew => ?_)
  clear hK K9 hHeld
  have hHeld := hNew
  clear hNew
  clear hs9
  (try simp only [Act.put, Mqa, Mqb, Mqc])
  refine Man.t1 4 hHeld ?_
  (try simp only [Act.put, Mqa, Mqb, Mqc])
  refine Man.t1 5 hHeld ?_
  (try simp only [Act.put, Mqa, Mqb, Mqc])
  refine Man.t1 6 hHeld ?_
  (try simp only [Act.put, Mqa, Mqb, Mqc])
  refine Man.t1 7 hHeld ?_
  (try simp only [Act.put, Mqa, Mqb, Mqc])
  refine Man.t1 9 hHeld ?_
  (try simp only [Act.put, Mqa, Mqb, Mqc])
  refine Man.t1 10 hHeld ?_
  (try simp only [Act.put, Mqa, Mqb, Mqc])
  refine Man.one (i := 8) rfl (by kernel_rfl) (fun K9 hK => ?_)
  go_simp
  with_reducible refine (C3.out _).mono ?_
  rintro e w13 ⟨rfl, hb⟩
  have H13 := hide (H12.out.later hb)
  clear hb H12
  have hs9 := CE.out w13 H13.out
  refine hK.out _ _ hs9 (fun hNew => ?_)
  clear hK K9 hHeld
  have hHeld := hNew
  clear hNew
  clear hs9
  (try simp only [Act.put, Mqa, Mqb, Mqc])
  refine Man.one (i := 11) rfl (by kernel_rfl) (fun K9 hK => ?_)
  go_simp
  with_reducible refine (C4.out _).mono ?_
  rintro e w14 ⟨rfl, hb⟩
  have H14 := hide (H13.out.later hb)
  clear hb H13
  have hs9 := CE.out w14 H14.out
  refine hK.out _ _ hs9 (fun hNew => ?_)
  clear hK K9 hHeld
  have hHeld := hNew
  clear hNew
  clear hs9
  (try simp only [Act.put, Mqa, Mqb, Mqc])
  refine Man.t1 12 hHeld ?_
  (try simp only [Act.put, Mqa, Mqb, Mqc])
  refine Man.t1 13 hHeld ?_
  (try simp only [Act.put, Mqa, Mqb, Mqc])
  refine Man.t1 14 hHeld ?_
  (try simp only [Act.put, Mqa, Mqb, Mqc])
  refine Man.t1 15 hHeld ?_
  (try simp only [Act.put, Mqa, Mqb, Mqc])
  refine Man.t1 16 hHeld ?_
  (try simp only [Act.put, Mqa, Mqb, Mqc])
  refine Man.t1 17 hHeld ?_
  (try simp only [Act.put, Mqa, Mqb, Mqc])
  refine Man.t1 18 hHeld ?_
  (try simp only [Act.put, Mqa, Mqb, Mqc])
  refine Man.t1 19 hHeld ?_
  (try simp only [Act.put, Mqa, Mqb, Mqc])
  refine Man.t1 20 hHeld ?_
  (try simp only [Act.put, Mqa, Mqb, Mqc])
  refine Man.t1 21 hHeld ?_
  (try simp only [Act.put, Mqa, Mqb, Mqc])
  refine Man.t1 22 hHeld ?_
  (try simp only [Act.put, Mqa, Mqb, Mqc])
  refine Man.t1 23 hHeld ?_
  (try simp only [Act.put, Mqa, Mqb, Mqc])
  refine Man.t1 24 hHeld ?_
  (try simp only [Act.put, Mqa, Mqb, Mqc])
  refine Man.t1 25 hHeld ?_
  (try simp only [Act.put, Mqa, Mqb, Mqc])
  refine Man.t1 26 hHeld ?_
  (try simp only [Act.put, Mqa, Mqb, Mqc])
  refine Man.t1 27 hHeld ?_
  (try simp only [Act.put, Mqa, Mqb, Mqc])
  refine Man.t1 28 hHeld ?_
  (try simp only [Act.put, Mqa, Mqb, Mqc])
  refine Man.t1 29 hHeld ?_
  (try simp only [Act.put, Mqa, Mqb, Mqc])
  refine Man.t1 30 hHeld ?_
  (try simp only [Act.put, Mqa, Mqb, Mqc])
  refine Man.t1 31 hHeld ?_
  (try simp only [Act.put, Mqa, Mqb, Mqc])
  refine Man.t1 32 hHeld ?_
  (try simp only [Act.put, Mqa, Mqb, Mqc])
  refine Man.t1 33 hHeld ?_
  (try simp only [Act.put, Mqa, Mqb, Mqc])
  refine Man.t1 34 hHeld ?_
  (try simp only [Act.put, Mqa, Mqb, Mqc])
  refine Man.t1 35 hHeld ?_
  (try simp only [Act.put, Mqa, Mqb, Mqc])
  refine Man.t1 36 hHeld ?_
  (try simp only [Act.put, Mqa, Mqb, Mqc])
  refine Man.t1 38 hHeld ?_
  (try simp only [Act.put, Mqa, Mqb, Mqc])
  refine Man.t1 39 hHeld ?_
  (try simp only [Act.put, Mqa, Mqb, Mqc])
  refine Man.one (i := 37) rfl (by kernel_rfl) (fun K9 hK => ?_)
  go_simp
  with_reducible refine ((cut_any a b c d _)).mono ?_
  rintro e w15 ⟨v1, rfl, hrow, hb⟩
  have H15 := hide (H14.out.later hb)
  have HS := hide hrow.spans
  clear hrow
  clear hb H14
  have hs9 := CE.out w15 H15.out
  refine hK.out _ _ hs9 (fun hNew => ?_)
  clear hK K9 hHeld
  have hHeld := hNew
  clear hNew
  clear hs9
  (try simp only [Act.put, Mqa, Mqb, Mqc])
  refine Man.one (i := 40) rfl (by kernel_rfl) (fun K9 hK => ?_)
  go_simp
  with_reducible refine ((rcut_any a b c d _)).mono ?_
  rintro e w16 ⟨v2, rfl, hrow, hb⟩
  have H16 := hide (H15.out.later hb)
  have HS2 := hide (HS.out.later hb (Nat.le_refl _))
  rw [← cut_eq] at hrow
  have HS3 := hide hrow.spans
  clear hrow HS
  clear hb H15
  have hs9 := CE.out w16 H16.out
  refine hK.out _ _ hs9 (fun hNew => ?_)
  clear hK K9 hHeld
  have hHeld := hNew
  clear hNew
  clear hs9
  (try simp only [Act.put, Mqa, Mqb, Mqc])
  refine Man.one (i := 41) rfl (by kernel_rfl) (fun K9 hK => ?_)
  go_simp
  with_reducible refine ((same_y HS2.out HS3.out (by rw [cut_eq]; have := rcut_len (a, b) (c, d); omega))).mono ?_
  rintro e w17 ⟨rfl, hb⟩
  have H17 := hide (H16.out.later hb)
  clear hb H16
  have hs9 := CE.out w17 H17.out
  refine hK.out _ _ hs9 (fun hNew => ?_)
  clear hK K9 hHeld
  have hHeld := hNew
  clear hNew
  clear hs9
  (try simp only [Act.put, Mqa, Mqb, Mqc])
  refine Man.t1 42 hHeld ?_
  (try simp only [Act.put, Mqa, Mqb, Mqc])
  refine Man.t1 43 hHeld ?_
  (try simp only [Act.put, Mqa, Mqb, Mqc])
  refine Man.one (i := 44) rfl (by kernel_rfl) (fun K9 hK => ?_)
  go_simp
  with_reducible refine ((known_any _)).mono ?_
  rintro e w18 ⟨rfl, hb⟩
  have H18 := hide (H17.out.later hb)
  clear hb H17
  have hs9 := CE.out w18 H18.out
  refine hK.out _ _ hs9 (fun hNew => ?_)
  clear hK K9 hHeld
  have hHeld := hNew
  clear hNew
  clear hs9
  (try simp only [Act.put, Mqa, Mqb, Mqc])
  refine Man.t1 45 hHeld ?_
  (try simp only [Act.put, Mqa, Mqb, Mqc])
  refine Man.t1 46 hHeld ?_
  (try simp only [Act.put, Mqa, Mqb, Mqc])
  refine wpAnyH_done (by kernel_rfl) ?_ _
  go_wp2_with fail
  go_ret
  exact ⟨rfl, H18.out.bel⟩
theorem laidOut : laidOutB Try.prog = true := by kernel_rfl
set_option maxRecDepth 100000 in
theorem contract (H : Type) (enc : TypeId × Value → H) (W : World) (base : Nat) (args : Array Value) (ds gs : List (DataW H)) (before : List MemPlace)
    (hval : ∀ (j : Nat) t v, Try.f3.params[j]? = some t → args[j]? = some v → Value.okWide Try.prog W .any base t v)
    (hW : DataW.Whole enc Try.prog Try.f3.params.toList Rows.spanTellsSpec.vars false W args.toList ds gs before)
    (hsz0 : (DataW.weightsEach Try.prog (Try.f3.params.toList ++ Rows.spanTellsSpec.plain.varTypes Try.prog) (ds ++ gs)).all (· ≤ reachBytes) = true) :
    Calls Try.prog 3 args W fun e W' => ∃ v, e = .returned v ∧ Rows.spanTellsSpec.post enc Try.prog Try.f3 false true false false W args v W' := by
  have hW' := hW
  obtain ⟨p, q, hA0, hV, rfl, hfz, hnd⟩ := hW
  have hA : DataW.TrodAll enc Try.prog W 0 (fun _ => true) true Try.f3.params.toList args.toList ds p := hA0
  rw [Try.params3] at hA hval hsz0
  obtain ⟨v0, vs0, d0, ds0, p0, q0, hargs, rfl, rfl, h0, r0⟩ := trodAll_cons hA
  obtain ⟨v1, vs1, d1, ds1, p1, q1, rfl, rfl, rfl, h1, r1⟩ := trodAll_cons r0
  obtain ⟨v2, vs2, d2, ds2, p2, q2, rfl, rfl, rfl, h2, r2⟩ := trodAll_cons r1
  obtain ⟨rfl, rfl, rfl⟩ := trodAll_nil r2
  obtain rfl : args = #[v0, v1, v2] := by cases args; simp_all
  obtain ⟨rfl, rfl⟩ := trodVars_none hV
  have hsz := fun n hn => of_decide_eq_true (List.all_eq_true.1 hsz0 n hn)
  obtain ⟨t, rfl, hd2, hp2, wt⟩ := open_int Try.underlying3 (hval 2 3 v2 rfl rfl) h2
  have bt := bounds_i64 wt
  obtain ⟨aa, ab, rfl⟩ := Spn.open_span (hval 0 23 v0 rfl rfl) h0
  obtain ⟨ba, bb, rfl⟩ := Spn.open_span (hval 1 23 v1 rfl rfl) h1
  clear hA0 hsz0
  simp only [List.append_nil] at hW'
  have hlt : ∀ x ∈ p0 ++ p1 ++ p2, x.block < W.heap.size := fun x hx => hW'.lt x (by simpa using hx)
  have walk := walk aa ab ba bb t W
  refine walk.mono fun e W' ⟨he, hg⟩ => ?_
  subst he
  refine ⟨_, rfl, Fr.post_made (pa := p0 ++ (p1 ++ p2)) (pv := []) hW' (fun _ _ _ => trodAll_cons_mk (shut_bool Try.underlying4 _) trodAll_mk0) (fun sp hsp => ?_) (fun _ _ => rfl) (by simp) hg (ok_one (by kernel_rfl) rfl (okWide_bool_mk Try.underlying4 _))⟩
  have g0 : DataW.Trod enc Try.prog W' 0 sp true 23 _ d0 p0 := WideElems.Trod_stays laidOut (by kernel_rfl) (of_decide_eq_true (by kernel_rfl)) h0 (fun x hx => hg.same (hlt x (by simp [hx]))) (fun x hx => hsp x (by simp [hx]))
  have g1 : DataW.Trod enc Try.prog W' 0 sp true 23 _ d1 p1 := WideElems.Trod_stays laidOut (by kernel_rfl) (of_decide_eq_true (by kernel_rfl)) h1 (fun x hx => hg.same (hlt x (by simp [hx]))) (fun x hx => hsp x (by simp [hx]))
  have g2 : DataW.Trod enc Try.prog W' 0 sp true 3 _ d2 p2 := WideElems.Trod_stays laidOut (by kernel_rfl) (of_decide_eq_true (by kernel_rfl)) h2 (fun x hx => hg.same (hlt x (by simp [hx]))) (fun x hx => hsp x (by simp [hx]))
  have hT := (trodAll_cons_mk g0 (trodAll_cons_mk g1 (trodAll_cons_mk g2 trodAll_mk0)))
  simp only [List.append_nil] at hT
  exact hT
set_option maxRecDepth 100000 in
theorem lifted (os : Os) (started : os.Started) (H : Type) (enc : TypeId × Value → H) :
    ReturnsInHanded {} Try.checked os 3 .any (Rows.spanTellsSpec.pre6 enc Try.prog Try.f3 Rows.spanTellsRow.domain false) (Rows.spanTellsSpec.post enc Try.prog Try.f3 false true false false) := by
  refine returnsInHanded_of_change_sized (C := Try.checked) Fr.own started (by kernel_rfl) Try.func3
    (ChangeSpec.witness6 (enc := enc) (C := Try.checked) false ⟨#[], #[.agg #[.int .i64 0, .int .i64 0], .agg #[.int .i64 0, .int .i64 0], .int .i64 0], []⟩ 8 (by kernel_rfl) (by kernel_rfl) (by kernel_rfl) (by kernel_rfl)) ?_
  intro W base args ds gs before hval hW _ hsz _
  exact contract H enc W base args ds gs before hval hW hsz
theorem said : Rows.SpanTellsSaid :=
  OpenClaim.holds_of_wide 3 Try.f3 rfl rfl rfl rfl rfl rfl rfl ⟨rfl, rfl, rfl, rfl, rfl⟩ rfl rfl rfl rfl rfl (by kernel_rfl) Try.func3 (by kernel_rfl)
    (of_decide_eq_true (by kernel_rfl)) (by unfold Func.isWrapper; first | (rw [if_pos (by decide +kernel)]; kernel_rfl) | (rw [if_neg (by decide +kernel)]; exact ⟨rfl, rfl⟩))
    (fun os started H enc _ => lifted os started H enc)
end LaSpanTells
end Go.Proofs.Ytjlejfjkigohhaa
