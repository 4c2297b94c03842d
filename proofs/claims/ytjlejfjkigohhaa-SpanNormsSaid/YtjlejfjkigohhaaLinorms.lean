/- SpanNorms: as few spans as can be of any ones, and whether these cover one, is as the document says: for all rows of spans, all spans. No other condition. -/
import Derived.Test.YtjlejfjkigohhaaIq
import Derived.Test.YtjlejfjkigohhaaIm
import Derived.Test.YtjlejfjkigohhaaIp
import Derived.Test.YtjlejfjkigohhaaFra
import Derived.Test.YtjlejfjkigohhaaMan
import Derived.WideKeyPair
import Derived.SizedLaws
namespace Go.Proofs.Ytjlejfjkigohhaa
open Go.ChangeShapes Go.WideShapes Go.ChangeAt Go.RowKit
open Go.ChangeMaps (open_string shut_string)
namespace LaSpanNorms
open Spn
set_option maxHeartbeats 8000000 in
set_option maxRecDepth 100000 in
theorem walk {l : List Sp} {sl : Value} {w : World} (h : SpansAt l sl w) (a b : Int) :
    Calls Try.prog 4 #[sl, .agg #[.int .i64 a, .int .i64 b]] w fun x w' => x = .returned (.bool true) ∧ Below w.heap.size w w' := by
  obtain ⟨so, sc, rfl, _, _⟩ := h.form
  have HA := hide h
  obtain ⟨n, hn⟩ : ∃ n, n = l.length := ⟨_, rfl⟩
  rw [← hn]
  have HN := hide hn
  clear h hn
  by_cases hb6 : n ≤ 60
  · have g1 : ¬ (60 : Int) < (n : Int) := by omega
    have HL := hide (show l.length ≤ 1000 from by rw [← HN.out]; omega)
    rw [HN.out]
    rw [HN.out] at g1
    clear hb6
    go_enter Try.func4, Try.ntmps4
    have HB0 := hide (bx1 w a b)
    go_wp2_with fail
    have CE := hide (show ∀ u, Bx w [(w.heap.size, (a, b))] u → (u.cell? ⟨w.heap.size, 0, none⟩ = some (.int .i64 a) ∧ u.cell? ⟨w.heap.size, 1, none⟩ = some (.int .i64 b)) from fun u h => ⟨(h.get 0 rfl).c0, (h.get 0 rfl).c1⟩)
    have H10 := hide (show Bx w [(w.heap.size, (a, b))] _ from HB0.out.later (Below.refl _ _).drew)
    refine wp_region_held_drew (S := fun u => u.cell? ⟨w.heap.size, 0, none⟩ = some (.int .i64 a) ∧ u.cell? ⟨w.heap.size, 1, none⟩ = some (.int .i64 b)) (by kernel_rfl) (CE.out _ H10.out) (fun hHeld => ?_)
    clear HB0
    refine Man.t1 0 hHeld ?_
    (try simp only [Act.put, Mqa, Mqb, Mqc])
    refine Man.t1 2 hHeld ?_
    (try simp only [Act.put, Mqa, Mqb, Mqc])
    refine Man.one (i := 1) rfl (by kernel_rfl) (fun K9 hK => ?_)
    go_simp
    with_reducible refine (norm_any (HA.out.later H10.out.bel (Nat.le_refl _)) HL.out).mono ?_
    rintro e w11 ⟨v1, rfl, hrow, hb⟩
    have H11 := hide (H10.out.later hb)
    have HS := hide hrow.spans
    clear hrow
    clear hb H10
    have hs9 := CE.out w11 H11.out
    refine hK.out _ _ hs9 (fun hNew => ?_)
    clear hK K9 hHeld
    have hHeld := hNew
    clear hNew
    clear hs9
    (try simp only [Act.put, Mqa, Mqb, Mqc])
    refine Man.one (i := 3) rfl (by kernel_rfl) (fun K9 hK => ?_)
    go_simp
    with_reducible refine (rnorm_any (HA.out.later H11.out.bel (Nat.le_refl _)) HL.out).mono ?_
    rintro e w12 ⟨v2, rfl, hrow, hb⟩
    have H12 := hide (H11.out.later hb)
    have HS2 := hide (HS.out.later hb (Nat.le_refl _))
    have HS3 := hide hrow.spans
    clear hrow HS
    clear hb H11
    have hs9 := CE.out w12 H12.out
    refine hK.out _ _ hs9 (fun hNew => ?_)
    clear hK K9 hHeld
    have hHeld := hNew
    clear hNew
    clear hs9
    (try simp only [Act.put, Mqa, Mqb, Mqc])
    refine Man.one (i := 4) rfl (by kernel_rfl) (fun K9 hK => ?_)
    go_simp
    with_reducible refine (same_y HS2.out HS3.out (by have := norm_len l; have := HL.out; omega)).mono ?_
    rintro e w13 ⟨rfl, hb⟩
    have H13 := hide (H12.out.later hb)
    clear hb H12
    have hs9 := CE.out w13 H13.out
    refine hK.out _ _ hs9 (fun hNew => ?_)
    clear hK K9 hHeld
    have hHeld := hNew
    clear hNew
    clear hs9
    (try simp only [Act.put, Mqa, Mqb, Mqc])
    refine Man.t1 5 hHeld ?_
    (try simp only [Act.put, Mqa, Mqb, Mqc])
    refine Man.t1 6 hHeld ?_
    (try simp only [Act.put, Mqa, Mqb, Mqc])
    refine Man.t1 7 hHeld ?_
    (try simp only [Act.put, Mqa, Mqb, Mqc])
    refine Man.t1 9 hHeld ?_
    (try simp only [Act.put, Mqa, Mqb, Mqc])
    refine Man.t1 10 hHeld ?_
    (try simp only [Act.put, Mqa, Mqb, Mqc])
    refine Man.one (i := 8) rfl (by kernel_rfl) (fun K9 hK => ?_)
    go_simp
    with_reducible refine (covers_any (HA.out.later H13.out.bel (Nat.le_refl _)) HL.out a b).mono ?_
    rintro e w14 ⟨rfl, hb⟩
    have H14 := hide (H13.out.later hb)
    clear hb H13
    have hs9 := CE.out w14 H14.out
    refine hK.out _ _ hs9 (fun hNew => ?_)
    clear hK K9 hHeld
    have hHeld := hNew
    clear hNew
    clear hs9
    (try simp only [Act.put, Mqa, Mqb, Mqc])
    refine Man.one (i := 11) rfl (by kernel_rfl) (fun K9 hK => ?_)
    go_simp
    with_reducible refine (rcovers_any (HA.out.later H14.out.bel (Nat.le_refl _)) HL.out a b).mono ?_
    rintro e w15 ⟨rfl, hb⟩
    have H15 := hide (H14.out.later hb)
    clear hb H14
    have hs9 := CE.out w15 H15.out
    refine hK.out _ _ hs9 (fun hNew => ?_)
    clear hK K9 hHeld
    have hHeld := hNew
    clear hNew
    clear hs9
    (try simp only [Act.put, Mqa, Mqb, Mqc])
    refine Man.t1 12 hHeld ?_
    (try simp only [Act.put, Mqa, Mqb, Mqc])
    refine Man.t1 13 hHeld ?_
    (try simp only [Act.put, Mqa, Mqb, Mqc])
    refine Man.t1 14 hHeld ?_
    (try simp only [Act.put, Mqa, Mqb, Mqc])
    refine Man.one (i := 15) rfl (by kernel_rfl) (fun K9 hK => ?_)
    go_simp
    with_reducible refine (known_any _).mono ?_
    rintro e w16 ⟨rfl, hb⟩
    have H16 := hide (H15.out.later hb)
    clear hb H15
    have hs9 := CE.out w16 H16.out
    refine hK.out _ _ hs9 (fun hNew => ?_)
    clear hK K9 hHeld
    have hHeld := hNew
    clear hNew
    clear hs9
    (try simp only [Act.put, Mqa, Mqb, Mqc])
    refine Man.t1 16 hHeld ?_
    (try simp only [Act.put, Mqa, Mqb, Mqc])
    refine Man.t1 17 hHeld ?_
    (try simp only [Act.put, Mqa, Mqb, Mqc])
    refine wpAnyH_done (by kernel_rfl) ?_ _
    go_wp2_with fail
    go_ret
    exact ⟨rfl, H16.out.bel⟩
  · have g1 : (60 : Int) < (n : Int) := by omega
    clear hb6
    go_enter Try.func4, Try.ntmps4
    have HB0 := hide (bx1 w a b)
    go_wp2_with fail
    refine (known_any _).mono ?_
    rintro e z1 ⟨rfl, hb⟩
    have HB1 := hide (HB0.out.later hb)
    clear HB0
    clear hb
    go_wp2_with fail
    go_ret
    exact ⟨rfl, HB1.out.bel⟩
theorem laidOut : laidOutB Try.prog = true := by kernel_rfl
set_option maxRecDepth 100000 in
theorem contract (H : Type) (enc : TypeId × Value → H) (W : World) (base : Nat) (args : Array Value) (ds gs : List (DataW H)) (before : List MemPlace)
    (hval : ∀ (j : Nat) t v, Try.f4.params[j]? = some t → args[j]? = some v → Value.okWide Try.prog W .any base t v)
    (hW : DataW.Whole enc Try.prog Try.f4.params.toList Rows.spanNormsSpec.vars false W args.toList ds gs before)
    (hsz0 : (DataW.weightsEach Try.prog (Try.f4.params.toList ++ Rows.spanNormsSpec.plain.varTypes Try.prog) (ds ++ gs)).all (· ≤ reachBytes) = true) :
    Calls Try.prog 4 args W fun e W' => ∃ v, e = .returned v ∧ Rows.spanNormsSpec.post enc Try.prog Try.f4 false true false false W args v W' := by
  have hW' := hW
  obtain ⟨p, q, hA0, hV, rfl, hfz, hnd⟩ := hW
  have hA : DataW.TrodAll enc Try.prog W 0 (fun _ => true) true Try.f4.params.toList args.toList ds p := hA0
  rw [Try.params4] at hA hval hsz0
  obtain ⟨v0, vs0, d0, ds0, p0, q0, hargs, rfl, rfl, h0, r0⟩ := trodAll_cons hA
  obtain ⟨v1, vs1, d1, ds1, p1, q1, rfl, rfl, rfl, h1, r1⟩ := trodAll_cons r0
  obtain ⟨rfl, rfl, rfl⟩ := trodAll_nil r1
  obtain rfl : args = #[v0, v1] := by cases args; simp_all
  obtain ⟨rfl, rfl⟩ := trodVars_none hV
  have hsz := fun n hn => of_decide_eq_true (List.all_eq_true.1 hsz0 n hn)
  obtain ⟨l, hml⟩ := Spn.open_spans (hval 0 29 v0 rfl rfl) h0
  obtain ⟨sa, sb, rfl⟩ := Spn.open_span (hval 1 23 v1 rfl rfl) h1
  clear hA0 hsz0
  simp only [List.append_nil] at hW'
  have hlt : ∀ x ∈ p0 ++ p1, x.block < W.heap.size := fun x hx => hW'.lt x (by simpa using hx)
  have walk := walk hml sa sb
  refine walk.mono fun e W' ⟨he, hg⟩ => ?_
  subst he
  refine ⟨_, rfl, Fr.post_made (pa := p0 ++ p1) (pv := []) hW' (fun _ _ _ => trodAll_cons_mk (shut_bool Try.underlying4 _) trodAll_mk0) (fun sp hsp => ?_) (fun _ _ => rfl) (by simp) hg (ok_one (by kernel_rfl) rfl (okWide_bool_mk Try.underlying4 _))⟩
  have g0 : DataW.Trod enc Try.prog W' 0 sp true 29 _ d0 p0 := WideElems.Trod_stays laidOut (by kernel_rfl) (of_decide_eq_true (by kernel_rfl)) h0 (fun x hx => hg.same (hlt x (by simp [hx]))) (fun x hx => hsp x (by simp [hx]))
  have g1 : DataW.Trod enc Try.prog W' 0 sp true 23 _ d1 p1 := WideElems.Trod_stays laidOut (by kernel_rfl) (of_decide_eq_true (by kernel_rfl)) h1 (fun x hx => hg.same (hlt x (by simp [hx]))) (fun x hx => hsp x (by simp [hx]))
  have hT := (trodAll_cons_mk g0 (trodAll_cons_mk g1 trodAll_mk0))
  simp only [List.append_nil] at hT
  exact hT
set_option maxRecDepth 100000 in
theorem lifted (os : Os) (started : os.Started) (H : Type) (enc : TypeId × Value → H) :
    ReturnsInHanded {} Try.checked os 4 .any (Rows.spanNormsSpec.pre6 enc Try.prog Try.f4 Rows.spanNormsRow.domain false) (Rows.spanNormsSpec.post enc Try.prog Try.f4 false true false false) := by
  refine returnsInHanded_of_change_sized (C := Try.checked) Fr.own started (by kernel_rfl) Try.func4
    (ChangeSpec.witness6 (enc := enc) (C := Try.checked) false ⟨#[], #[.slice none 0 0, .agg #[.int .i64 0, .int .i64 0]], []⟩ 8 (by kernel_rfl) (by kernel_rfl) (by kernel_rfl) (by kernel_rfl)) ?_
  intro W base args ds gs before hval hW _ hsz _
  exact contract H enc W base args ds gs before hval hW hsz
theorem said : Rows.SpanNormsSaid :=
  OpenClaim.holds_of_wide 4 Try.f4 rfl rfl rfl rfl rfl rfl rfl ⟨rfl, rfl, rfl, rfl, rfl⟩ rfl rfl rfl rfl rfl (by kernel_rfl) Try.func4 (by kernel_rfl)
    (of_decide_eq_true (by kernel_rfl)) (by unfold Func.isWrapper; first | (rw [if_pos (by decide +kernel)]; kernel_rfl) | (rw [if_neg (by decide +kernel)]; exact ⟨rfl, rfl⟩))
    (fun os started H enc _ => lifted os started H enc)
end LaSpanNorms
end Go.Proofs.Ytjlejfjkigohhaa
