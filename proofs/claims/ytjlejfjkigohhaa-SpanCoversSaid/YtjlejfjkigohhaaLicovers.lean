/- SpanCovers: spans cover each of themselves, what meets one of them, and what two that can be joined make; they cover none with a time that they have not: for all rows of spans, all spans, all times. No other condition. -/
import Derived.Test.YtjlejfjkigohhaaIs
import Derived.Test.YtjlejfjkigohhaaIp
import Derived.Test.YtjlejfjkigohhaaFra
import Derived.WideKeyPair
import Derived.SizedLaws
namespace Go.Proofs.Ytjlejfjkigohhaa
open Go.ChangeShapes Go.WideShapes Go.ChangeAt Go.RowKit
open Go.ChangeMaps (open_string shut_string)
namespace LaSpanCovers
open Spn
set_option maxHeartbeats 8000000 in
set_option maxRecDepth 100000 in
theorem walk {l : List Sp} {sl : Value} {w : World} (h : SpansAt l sl w) (a b t : Int) :
    Calls Try.prog 7 #[sl, .agg #[.int .i64 a, .int .i64 b], .int .i64 t] w fun x w' => x = .returned (.bool true) ∧ Below w.heap.size w w' := by
  obtain ⟨so, sc, rfl, _, _⟩ := h.form
  have HA := hide h
  obtain ⟨n, hn⟩ : ∃ n, n = l.length := ⟨_, rfl⟩
  have HN := hide hn
  have HB0 := hide (bx1 w a b)
  rw [← hn]
  clear h hn
  by_cases hb6 : n ≤ 40
  · have g1 : ¬ (40 : Int) < (n : Int) := by omega
    have HL := hide (show l.length ≤ 1000 from by rw [← HN.out]; omega)
    go_enter Try.func7, Try.ntmps7
    go_wp2_with fail
    go_loopw [7, 8] (fun hh ii wr => ∃ i : Nat, hh = .bool (hasC (l.take i) t) ∧ ii = .int .i64 i ∧ i ≤ n ∧ Hid (Bx w [(w.heap.size, (a, b))] wr)) (fun _ ii _ => (n - (intOf ii).toNat))
    case atStart => exact ⟨0, rfl, rfl, by omega, HB0⟩
    case round =>
      rename World => wr
      obtain ⟨i, rfl, rfl, hi, HB⟩ := hrel
      clear HB0
      rcases Nat.lt_or_ge i n with hlt | hge
      · have g2 : (i : Int) < (n : Int) := by omega
        have hil : i < l.length := by rw [← HN.out]; exact hlt
        obtain ⟨b0, off, cap, he, hbw, k0, k1⟩ := (HA.out.later HB.out.bel (Nat.le_refl _)).at i hil
        rw [← HN.out] at he
        simp only [Value.slice.injEq] at he
        obtain ⟨rfl, _, rfl⟩ := he
        have HSA := hide (show ∀ u : World, Bx w [(w.heap.size, (a, b))] u → SpansAt l (.slice (some ⟨b0, off, none⟩) n sc) u from fun u hu => by have := HA.out.later hu.bel (Nat.le_refl _); rwa [← HN.out] at this)
        have HAT := hide (show ∀ u : World, Bx w [(w.heap.size, (a, b))] u → ∀ (q : Nat) (hq : q < l.length), u.cell? ⟨b0, off + q * 2, none⟩ = some (.int .i64 (l[q]).1) ∧ u.cell? ⟨b0, off + q * 2 + 1, none⟩ = some (.int .i64 (l[q]).2) from fun u hu q hq => ((HSA.out u hu).got q hq).2)
        have HMEM := hide (List.getElem_mem hil)
        have HHX := hide (show hasC (l.take (i + 1)) t = (hasC (l.take i) t || decide (Has l[i] t)) from by rw [List.take_succ_eq_append_getElem hil, hasC_snoc])
        obtain ⟨x, hx⟩ : ∃ x, x = l[i] := ⟨_, rfl⟩
        have HXI := hide hx
        rw [← hx] at k0 k1 HHX HMEM
        clear hx
        obtain ⟨m1, m2, is, hm⟩ := as_pair (meet (x.1, x.2) (a, b))
        have CM := hide (fun w => meet_v hm w)
        have HCX := hide (cov_self HMEM.out)
        have HCM := hide (show covB l (m1, m2) = true from by have := cov_meet HMEM.out (a, b); have e : meet x (a, b) = ((m1, m2), is) := hm; rwa [e] at this)
        clear hm
        obtain ⟨bs, hbs⟩ : ∃ bs, bs = hasC (l.take i) t := ⟨_, rfl⟩
        obtain ⟨bx, hbx⟩ : ∃ bx, decide (Has (x.1, x.2) t) = bx := ⟨_, rfl⟩
        have CX := hide (fun w => has_w hbx w)
        have HX2 := hide (show hasC (l.take (i + 1)) t = (bs || bx) from by rw [HHX.out, ← hbs, ← hbx])
        rw [← hbs]
        clear hbs hbx HHX
        go_upto_region 7 with fail
        go_cut [7] (fun hh wx => hh = .bool (hasC (l.take (i + 1)) t) ∧ Hid (Bx w [(w.heap.size, (a, b))] wx))
        case first =>
          cases bs
          · have HX3 := hide (show hasC (l.take (i + 1)) t = bx from by rw [HX2.out]; rfl)
            go_wp2_with fail
            refine (CX.out _).mono ?_
            rintro e w2 ⟨rfl, hb⟩
            have HB2 := hide (HB.out.later hb)
            clear hb
            go_wp2_with fail
            go_meet
            exact ⟨by rw [HX3.out], HB2⟩
          · have HX3 := hide (show hasC (l.take (i + 1)) t = true from by rw [HX2.out]; rfl)
            go_wp2_with fail
            go_meet
            exact ⟨by rw [HX3.out], HB⟩
        case rest =>
        rename World => wc
        obtain ⟨rfl, HB7⟩ := hcut
        clear CX HX2 HB k0 k1 hbw
        obtain ⟨bh, hbh⟩ : ∃ bh, bh = hasC (l.take (i + 1)) t := ⟨_, rfl⟩
        have HBH := hide hbh
        rw [← hbh]
        clear hbh
        obtain ⟨k0, k1⟩ := HAT.out wc HB7.out i hil
        rw [← HXI.out] at k0 k1
        have hbw := ((HSA.out wc HB7.out).got i hil).1
        obtain ⟨s0, s1, _, _, sl0⟩ := HB7.out.get 0 rfl
        go_upto_region 8 with fail
        go_cut [9] (fun mp wx => ∃ B9 : Nat, mp = .pointer (some ⟨B9, 0, none⟩) ∧ Hid (At (m1, m2) B9 wx ∧ Bx w [(w.heap.size, (a, b))] wx))
        case first =>
          go_region_with (go_at_call 10; (with_reducible refine (CM.out _).mono ?_); rintro e w2 ⟨rfl, hb⟩; (try (have t0 := (zbox2 hb).1)); (try (have t1 := (zbox2 hb).2.1)); (try (have t2 := (zbox2 hb).2.2.1)); (try (have t3 := (zbox2 hb).2.2.2)))
          all_goals go_wp2_with fail
          all_goals go_meet
          all_goals first | exact ⟨_, rfl, hide (bx_before HB7.out hb m1 m2)⟩ | exact ⟨_, rfl, hide (bx_behind HB7.out hb m1 m2)⟩
        case rest =>
        rename World => w9
        obtain ⟨B9, rfl, HQ⟩ := hcut
        have HB9 := hide HQ.out.2
        have HM9 := hide HQ.out.1
        clear HQ hbw k0 k1 s0 s1 sl0 CM HB7
        obtain ⟨k0, k1⟩ := HAT.out w9 HB9.out i hil
        rw [← HXI.out] at k0 k1
        have C1 := hide (covers_y (HSA.out w9 HB9.out) HL.out (a := x.1) (b := x.2) HCX.out)
        go_wp2_with fail
        refine C1.out.mono ?_
        rintro e w10 ⟨rfl, hb⟩
        have HB10 := hide (HB9.out.later hb)
        have HM10 := hide (HM9.out.both hb)
        clear hb C1 HB9 HM9 k0 k1
        obtain ⟨y0, y1, _, _, _⟩ := HM10.out
        have C2 := hide (covers_y (HSA.out w10 HB10.out) HL.out (a := m1) (b := m2) HCM.out)
        go_wp2_with fail
        refine C2.out.mono ?_
        rintro e w11 ⟨rfl, hb⟩
        have HB11 := hide (HB10.out.later hb)
        clear hb C2 HB10 HM10 y0 y1 HCX HCM
        go_wp2_with fail
        go_loopw [11] (fun kk wk => ∃ k : Nat, kk = .int .i64 k ∧ k ≤ i ∧ Hid (Bx w [(w.heap.size, (a, b))] wk)) (fun kk _ => (i - (intOf kk).toNat))
        case atStart => exact ⟨0, rfl, by omega, HB11⟩
        case round =>
          rename World => wk
          obtain ⟨k, rfl, hk, HK⟩ := hrel
          clear HB11
          rcases Nat.lt_or_ge k i with hki | hki
          · have g3 : (k : Int) < (i : Int) := by omega
            have g4 : (k : Int) < (n : Int) := by omega
            have hkl : k < l.length := by omega
            have HMK := hide (List.getElem_mem hkl)
            obtain ⟨y, hy⟩ : ∃ y, y = l[k] := ⟨_, rfl⟩
            have HYI := hide hy
            rw [← hy] at HMK
            clear hy
            obtain ⟨k0, k1⟩ := HAT.out wk HK.out i hil
            rw [← HXI.out] at k0 k1
            obtain ⟨q0, q1⟩ := HAT.out wk HK.out k hkl
            rw [← HYI.out] at q0 q1
            have hbw := ((HSA.out wk HK.out).got i hil).1
            obtain ⟨j1, j2, can, hj⟩ := as_pair (join (x.1, x.2) (y.1, y.2))
            have CJ := hide (fun w => join_v hj w)
            have HCJ := hide (show can = true → covB l (j1, j2) = true from fun hc => by have e : join x y = ((j1, j2), can) := hj; have := cov_join HMEM.out HMK.out (by rw [e]; exact hc); rwa [e] at this)
            clear hj
            go_upto_region 14 with fail
            go_cut [12, 13] (fun jp cc wx => ∃ B9 : Nat, jp = .pointer (some ⟨B9, 0, none⟩) ∧ cc = .bool can ∧ Hid (At (j1, j2) B9 wx ∧ Bx w [(w.heap.size, (a, b))] wx))
            case first =>
              go_region_with (go_at_call 12; (with_reducible refine (CJ.out _).mono ?_); rintro e w2 ⟨rfl, hb⟩; (try (have t0 := (zbox2 hb).1)); (try (have t1 := (zbox2 hb).2.1)); (try (have t2 := (zbox2 hb).2.2.1)); (try (have t3 := (zbox2 hb).2.2.2)))
              all_goals go_wp2_with fail
              all_goals go_meet
              all_goals first | exact ⟨_, rfl, rfl, hide (bx_before HK.out hb j1 j2)⟩ | exact ⟨_, rfl, rfl, hide (bx_behind HK.out hb j1 j2)⟩
            case rest =>
            rename World => w12
            obtain ⟨B9, rfl, rfl, HQ⟩ := hcut
            have HB12 := hide HQ.out.2
            have HJ12 := hide HQ.out.1
            clear HQ hbw k0 k1 q0 q1 CJ HK
            obtain ⟨y0, y1, _, _, _⟩ := HJ12.out
            cases can
            · go_wp2_with fail
              go_roundw
              case rel => exact ⟨k + 1, by go_num, by omega, HB12⟩
              case measure => simp [intOf]; omega
            · have C1 := hide (covers_y (HSA.out w12 HB12.out) HL.out (a := j1) (b := j2) (HCJ.out rfl))
              go_wp2_with fail
              refine C1.out.mono ?_
              rintro e w13 ⟨rfl, hb⟩
              have HB13 := hide (HB12.out.later hb)
              clear hb C1 HB12 HJ12 y0 y1
              go_wp2_with fail
              go_roundw
              case rel => exact ⟨k + 1, by go_num, by omega, HB13⟩
              case measure => simp [intOf]; omega
          · obtain rfl : k = i := by omega
            have g3 : ¬ (k : Int) < (k : Int) := by omega
            go_wp2_with fail
            go_roundw
            case rel => exact ⟨k + 1, by rw [HBH.out], by go_num, by omega, HK⟩
            case measure => simp [intOf]; omega
      · obtain rfl : i = n := by omega
        have g2 : ¬ (i : Int) < (i : Int) := by omega
        have HHL := hide (show hasC (l.take i) t = hasC l t from by rw [HN.out, List.take_length])
        rw [HHL.out]
        obtain ⟨s0, s1, _, _, _⟩ := HB.out.get 0 rfl
        have HSW := HA.out.later HB.out.bel (Nat.le_refl _)
        rw [← HN.out] at HSW
        cases hcv : covB l (a, b)
        · have C1 := hide (covers_n HSW HL.out hcv)
          clear hcv HSW
          go_wp2_with fail
          refine C1.out.mono ?_
          rintro e w2 ⟨rfl, hb⟩
          have HB2 := hide (HB.out.later hb)
          clear hb C1 s0 s1
          go_wp2_with fail
          refine (known_any _).mono ?_
          rintro e w3 ⟨rfl, hb⟩
          have HB3 := hide (HB2.out.later hb)
          clear hb
          go_wp2_with fail
          go_ret
          exact ⟨rfl, HB3.out.bel⟩
        · have C1 := hide (covers_y HSW HL.out hcv)
          by_cases hh : Has (a, b) t
          · have C2 := hide (fun w => has_y hh w)
            have hhl : hasC l t = true := cov_has hcv hh
            rw [hhl]
            clear hh hhl hcv HSW
            go_wp2_with fail
            refine C1.out.mono ?_
            rintro e w2 ⟨rfl, hb⟩
            have HB2 := hide (HB.out.later hb)
            clear hb C1 s0 s1
            obtain ⟨s0, s1, _, _, _⟩ := HB2.out.get 0 rfl
            go_wp2_with fail
            refine (C2.out _).mono ?_
            rintro e w3 ⟨rfl, hb⟩
            have HB3 := hide (HB2.out.later hb)
            clear hb C2 s0 s1
            go_wp2_with fail
            refine (known_any _).mono ?_
            rintro e w4 ⟨rfl, hb⟩
            have HB4 := hide (HB3.out.later hb)
            clear hb
            go_wp2_with fail
            go_ret
            exact ⟨rfl, HB4.out.bel⟩
          · have C2 := hide (fun w => has_n hh w)
            clear hh hcv HSW
            go_wp2_with fail
            refine C1.out.mono ?_
            rintro e w2 ⟨rfl, hb⟩
            have HB2 := hide (HB.out.later hb)
            clear hb C1 s0 s1
            obtain ⟨s0, s1, _, _, _⟩ := HB2.out.get 0 rfl
            go_wp2_with fail
            refine (C2.out _).mono ?_
            rintro e w3 ⟨rfl, hb⟩
            have HB3 := hide (HB2.out.later hb)
            clear hb C2 s0 s1
            go_wp2_with fail
            refine (known_any _).mono ?_
            rintro e w4 ⟨rfl, hb⟩
            have HB4 := hide (HB3.out.later hb)
            clear hb
            go_wp2_with fail
            go_ret
            exact ⟨rfl, HB4.out.bel⟩
  · have g1 : (40 : Int) < (n : Int) := by omega
    clear hb6 HA
    go_enter Try.func7, Try.ntmps7
    go_wp2_with fail
    refine (known_any _).mono ?_
    rintro e z1 ⟨rfl, hb⟩
    have HB1 := hide (HB0.out.later hb)
    clear hb
    go_wp2_with fail
    go_ret
    exact ⟨rfl, HB1.out.bel⟩
theorem laidOut : laidOutB Try.prog = true := by kernel_rfl
set_option maxRecDepth 100000 in
theorem contract (H : Type) (enc : TypeId × Value → H) (W : World) (base : Nat) (args : Array Value) (ds gs : List (DataW H)) (before : List MemPlace)
    (hval : ∀ (j : Nat) t v, Try.f7.params[j]? = some t → args[j]? = some v → Value.okWide Try.prog W .any base t v)
    (hW : DataW.Whole enc Try.prog Try.f7.params.toList Rows.spanCoversSpec.vars false W args.toList ds gs before)
    (hsz0 : (DataW.weightsEach Try.prog (Try.f7.params.toList ++ Rows.spanCoversSpec.plain.varTypes Try.prog) (ds ++ gs)).all (· ≤ reachBytes) = true) :
    Calls Try.prog 7 args W fun e W' => ∃ v, e = .returned v ∧ Rows.spanCoversSpec.post enc Try.prog Try.f7 false true false false W args v W' := by
  have hW' := hW
  obtain ⟨p, q, hA0, hV, rfl, hfz, hnd⟩ := hW
  have hA : DataW.TrodAll enc Try.prog W 0 (fun _ => true) true Try.f7.params.toList args.toList ds p := hA0
  rw [Try.params7] at hA hval hsz0
  obtain ⟨v0, vs0, d0, ds0, p0, q0, hargs, rfl, rfl, h0, r0⟩ := trodAll_cons hA
  obtain ⟨v1, vs1, d1, ds1, p1, q1, rfl, rfl, rfl, h1, r1⟩ := trodAll_cons r0
  obtain ⟨v2, vs2, d2, ds2, p2, q2, rfl, rfl, rfl, h2, r2⟩ := trodAll_cons r1
  obtain ⟨rfl, rfl, rfl⟩ := trodAll_nil r2
  obtain rfl : args = #[v0, v1, v2] := by cases args; simp_all
  obtain ⟨rfl, rfl⟩ := trodVars_none hV
  have hsz := fun n hn => of_decide_eq_true (List.all_eq_true.1 hsz0 n hn)
  obtain ⟨t, rfl, hd2, hp2, wt⟩ := open_int Try.underlying3 (hval 2 3 v2 rfl rfl) h2
  have bt := bounds_i64 wt
  obtain ⟨l, hml⟩ := Spn.open_spans (hval 0 29 v0 rfl rfl) h0
  obtain ⟨sa, sb, rfl⟩ := Spn.open_span (hval 1 23 v1 rfl rfl) h1
  clear hA0 hsz0
  simp only [List.append_nil] at hW'
  have hlt : ∀ x ∈ p0 ++ p1 ++ p2, x.block < W.heap.size := fun x hx => hW'.lt x (by simpa using hx)
  have walk := walk hml sa sb t
  refine walk.mono fun e W' ⟨he, hg⟩ => ?_
  subst he
  refine ⟨_, rfl, Fr.post_made (pa := p0 ++ (p1 ++ p2)) (pv := []) hW' (fun _ _ _ => trodAll_cons_mk (shut_bool Try.underlying4 _) trodAll_mk0) (fun sp hsp => ?_) (fun _ _ => rfl) (by simp) hg (ok_one (by kernel_rfl) rfl (okWide_bool_mk Try.underlying4 _))⟩
  have g0 : DataW.Trod enc Try.prog W' 0 sp true 29 _ d0 p0 := WideElems.Trod_stays laidOut (by kernel_rfl) (of_decide_eq_true (by kernel_rfl)) h0 (fun x hx => hg.same (hlt x (by simp [hx]))) (fun x hx => hsp x (by simp [hx]))
  have g1 : DataW.Trod enc Try.prog W' 0 sp true 23 _ d1 p1 := WideElems.Trod_stays laidOut (by kernel_rfl) (of_decide_eq_true (by kernel_rfl)) h1 (fun x hx => hg.same (hlt x (by simp [hx]))) (fun x hx => hsp x (by simp [hx]))
  have g2 : DataW.Trod enc Try.prog W' 0 sp true 3 _ d2 p2 := WideElems.Trod_stays laidOut (by kernel_rfl) (of_decide_eq_true (by kernel_rfl)) h2 (fun x hx => hg.same (hlt x (by simp [hx]))) (fun x hx => hsp x (by simp [hx]))
  have hT := (trodAll_cons_mk g0 (trodAll_cons_mk g1 (trodAll_cons_mk g2 trodAll_mk0)))
  simp only [List.append_nil] at hT
  exact hT
set_option maxRecDepth 100000 in
theorem lifted (os : Os) (started : os.Started) (H : Type) (enc : TypeId × Value → H) :
    ReturnsInHanded {} Try.checked os 7 .any (Rows.spanCoversSpec.pre6 enc Try.prog Try.f7 Rows.spanCoversRow.domain false) (Rows.spanCoversSpec.post enc Try.prog Try.f7 false true false false) := by
  refine returnsInHanded_of_change_sized (C := Try.checked) Fr.own started (by kernel_rfl) Try.func7
    (ChangeSpec.witness6 (enc := enc) (C := Try.checked) false ⟨#[], #[.slice none 0 0, .agg #[.int .i64 0, .int .i64 0], .int .i64 0], []⟩ 8 (by kernel_rfl) (by kernel_rfl) (by kernel_rfl) (by kernel_rfl)) ?_
  intro W base args ds gs before hval hW _ hsz _
  exact contract H enc W base args ds gs before hval hW hsz
theorem said : Rows.SpanCoversSaid :=
  OpenClaim.holds_of_wide 7 Try.f7 rfl rfl rfl rfl rfl rfl rfl ⟨rfl, rfl, rfl, rfl, rfl⟩ rfl rfl rfl rfl rfl (by kernel_rfl) Try.func7 (by kernel_rfl)
    (of_decide_eq_true (by kernel_rfl)) (by unfold Func.isWrapper; first | (rw [if_pos (by decide +kernel)]; kernel_rfl) | (rw [if_neg (by decide +kernel)]; exact ⟨rfl, rfl⟩))
    (fun os started H enc _ => lifted os started H enc)
end LaSpanCovers
end Go.Proofs.Ytjlejfjkigohhaa
