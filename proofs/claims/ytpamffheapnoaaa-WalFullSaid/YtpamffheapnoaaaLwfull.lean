/- WalFull is proved: for every row of texts and every number the law returns true and its arguments read as they did. No other condition. -/
import Derived.Test.YtpamffheapnoaaaWy
import Derived.Test.YtpamffheapnoaaaFra
import Derived.WideKeyPair
import Derived.SizedLaws
namespace Go.Proofs.Ytpamffheapnoaaa
open Go.ChangeShapes Go.WideShapes Go.ChangeAt Go.RowKit
open Go.ChangeMaps (open_string shut_string)
namespace LaWalFull
open Wal
open Dsk (PD Mine KeepQ DiskIs Only Grow upd pad BoolsAt NotGiven)
open Crc (S S_of S_size S_append S_add hidm)
open Dsk (open_ops open_bools OpsAt Opv)
set_option maxHeartbeats 8000000 in
set_option maxRecDepth 100000 in
theorem law_any (l : List (List UInt8)) (v0 : Value) (nn : Nat) (hnn : nn ≤ 255) (w : World) (hl : StrsAt l v0 w) :
    Calls Try.prog 8 #[v0, .int .u8 (nn : Int)] w fun e w' => e = .returned (.bool true) ∧ Below w.heap.size w w' := by
  have N0 := hidm (Dsk.m_new (W := w) (w := w) 40 (by omega) (by omega) (Below.refl _ _))
  obtain ⟨lo, lc, rfl, _, hlc⟩ := hl.form
  obtain ⟨ll, hll⟩ : ∃ ll, ll = l.length := ⟨_, rfl⟩
  have HLL := hidm hll
  have HSL := hidm hl
  rw [← hll]
  have hll2 : ll ≤ 9223372036854775807 := by omega
  obtain ⟨m, hm⟩ : ∃ m, m = 2 + nn % 30 := ⟨_, rfl⟩
  obtain ⟨rr, hrr⟩ : ∃ r, r = nn % 30 := ⟨_, rfl⟩
  have hw1 : IntKind.i64.wrap (nn : Int) = (nn : Int) := by simp only [IntKind.wrap_i64]; omega
  have hw2 : (nn : Int).tmod 30 = (rr : Int) := by rw [Int.tmod_eq_emod_of_nonneg (by omega)]; omega
  have hw3 : IntKind.i64.wrap (rr : Int) = (rr : Int) := by simp only [IntKind.wrap_i64]; omega
  obtain ⟨many, hmany⟩ : ∃ k, k = 4 + rr := ⟨_, rfl⟩
  have hw4 : (4 : Int) + (rr : Int) = (many : Int) := by omega
  have hw5 : IntKind.i64.wrap (many : Int) = (many : Int) := by simp only [IntKind.wrap_i64]; omega
  have hw6 : (many : Int) - 2 = (m : Int) := by omega
  have hw7 : IntKind.i64.wrap (m : Int) = (m : Int) := by simp only [IntKind.wrap_i64]; omega
  have hmm : many = m + 2 := by omega
  have hm31 : 2 ≤ m ∧ m ≤ 31 := by omega
  have HMM := hidm hmm
  clear hl hll hm hrr hmany hlc hmm
  have HMOD := hidm hw2
  go_enter Try.func8, Try.ntmps8
  go_wp2_with fail
  refine N0.out.mono ?_
  rintro e w1 ⟨rfl, hm1, hb1⟩
  have R1 := hidm (Rest.new (F := 2) (n := m) hm1)
  obtain ⟨D, hD⟩ : ∃ D, D = w.heap.size + 1 := ⟨_, rfl⟩
  rw [← hD] at R1 ⊢
  clear hD hm1 hb1 N0
  have OP := hidm (R1.out.open many HMM.out (by omega) (by omega) (by omega) (by omega) (by omega))
  clear R1
  go_wp2_with fail
  refine OP.out.mono ?_
  rintro e w2 ⟨L, rfl, h2, _, _⟩
  have H2 := hidm (show Lg w (fun _ => False) L D 2 m 40 (1 + 1000 * 0) 1 0 [] [] w2 from h2)
  clear h2 OP hw2
  go_wp2_with fail
  go_loopw [10] (fun ii wr => ∃ (i : Nat) (B : List R), ii = .int .i64 i ∧ i ≤ ll ∧ i ≤ 40 ∧ Hid (Lg w (fun _ => False) L D 2 m 40 (1 + 1000 * i) 1 0 [] B wr)) (fun ii _ => (ll - (intOf ii).toNat))
  case atStart => exact ⟨0, [], rfl, by omega, by omega, H2⟩
  case round =>
    rename World => wr
    obtain ⟨i, B, rfl, hi, hi4, HG⟩ := hrel
    rcases Nat.lt_or_ge i ll with hlt | hge
    · have g1 : (i : Int) < (ll : Int) := by omega
      rcases Nat.lt_or_ge i 40 with hlt2 | hge2
      · have g2 : (i : Int) < 40 := by omega
        have hil : i < l.length := by rw [← HLL.out]; exact hlt
        obtain ⟨b, o, cp, he, hbl, q0⟩ := HSL.out.at i hil
        have he2 : (Value.slice lo ll lc) = .slice (some ⟨b, o, none⟩) l.length cp := by rw [HLL.out]; exact he
        simp only [Value.slice.injEq] at he2
        obtain ⟨rfl, -, rfl⟩ := he2
        clear he
        obtain ⟨x, hx⟩ : ∃ x, x = S l[i] := ⟨_, rfl⟩
        rw [← hx] at q0
        clear hx
        have Q0 := hidm q0
        have HBL := hidm hbl
        have c0 := (HG.out.bel.cell (p := ⟨b, o + i, none⟩) hbl).trans q0
        clear q0
        have i1 : (i : Int) + 1 = ((i + 1 : Nat) : Int) := by omega
        obtain ⟨j, hj⟩ : ∃ j, j = i + 1 := ⟨_, rfl⟩
        rw [← hj] at i1
        have i1w : IntKind.i64.wrap (j : Int) = (j : Int) := by simp only [IntKind.wrap_i64]; omega
        have HJ := hidm hj
        clear hj
        rcases Nat.lt_or_ge 5000 x.size with h5 | h5
        · have g3 : (5000 : Int) < (x.size : Int) := by omega
          have HG5 := hidm (show Lg w (fun _ => False) L D 2 m 40 (1 + 1000 * j) 1 0 [] B wr from by
            obtain ⟨d, h1, h2, h3, h4⟩ := HG.out.ex
            exact ⟨⟨d, h1, h2, h3.more (by rw [HJ.out]; omega), h4⟩, HG.out.fit, by rw [HJ.out]; omega, HG.out.top⟩)
          go_wp2_with fail
          go_roundw
          case rel => exact ⟨j, B, rfl, by rw [HJ.out]; omega, by rw [HJ.out]; omega, HG5⟩
          case measure => have := HJ.out; simp [intOf]; omega
        · have g3 : ¬ (5000 : Int) < (x.size : Int) := by omega
          obtain ⟨pz, hpz⟩ : ∃ p, p = (x.size - 1) / 100 + 1 := ⟨_, rfl⟩
          have hnp : np x.data.toList = pz := by rw [hpz]; unfold np; rw [len_eq]
          obtain ⟨u, hu⟩ : ∃ u, u = tot ([] ++ B) := ⟨_, rfl⟩
          have hroom : u ≤ m := by
            obtain ⟨d, h1, h2, _⟩ := HG.out.ex
            have := h2.bd.room
            rw [hu, tot_app]
            exact this
          obtain ⟨s99, hs99⟩ : ∃ k, k = x.size + 99 := ⟨_, rfl⟩
          have k1 : (x.size : Int) + 99 = (s99 : Int) := by omega
          have k1w : IntKind.i64.wrap (s99 : Int) = (s99 : Int) := by simp only [IntKind.wrap_i64]; omega
          obtain ⟨q, hq⟩ : ∃ q, q = s99 / 100 := ⟨_, rfl⟩
          have k2 : (s99 : Int).tdiv 100 = (q : Int) := by rw [Int.tdiv_eq_ediv_of_nonneg (by omega)]; omega
          have k2w : IntKind.i64.wrap (q : Int) = (q : Int) := by simp only [IntKind.wrap_i64]; omega
          have k3 : max 1 (q : Int) = (pz : Int) := by omega
          obtain ⟨v, hv⟩ : ∃ v, v = u + pz := ⟨_, rfl⟩
          have k4 : (u : Int) + (pz : Int) = (v : Int) := by omega
          have k4w : IntKind.i64.wrap (v : Int) = (v : Int) := by simp only [IntKind.wrap_i64]; omega
          have US := hidm HG.out.used
          rw [← hu] at US
          have FT := hidm (HG.out.fits x.size (by omega))
          rw [← hpz, ← hu] at FT
          have hnr : ¬ (m : Int) < (u : Int) := by omega
          rcases Nat.lt_or_ge m v with hfull | hfit
          · have f1 : decide (pz ≤ m - u) = false := by simp; omega
            rw [f1] at FT
            have f2 : decide ((v : Int) ≤ (m : Int)) = false := by simp; omega
            have f3 : decide (v ≤ m) = false := by simp; omega
            have AP := hidm (fun w' (hb : Below wr.heap.size wr w') => (HG.out.later hb).full x (by omega) (by rw [hnp, ← hu]; omega))
            have US2 := hidm (fun w' (hb : Below wr.heap.size wr w') => (HG.out.later hb).used)
            rw [← hu] at US2
            have HG5 := hidm (fun w' (hb : Below wr.heap.size wr w') => show Lg w (fun _ => False) L D 2 m 40 (1 + 1000 * j) 1 0 [] B w' from by
              obtain ⟨d, h1, h2, h3, h4⟩ := (HG.out.later hb).ex
              exact ⟨⟨d, h1, h2, h3.more (by rw [HJ.out]; omega), h4⟩, HG.out.fit, by rw [HJ.out]; omega, HG.out.top⟩)
            clear hu hpz hnp hs99 hq hv f1
            go_wp2_with fail
            refine US.out.mono ?_
            rintro e w3 ⟨rfl, rfl⟩
            go_wp2_with fail
            refine FT.out.mono ?_
            rintro e w4 ⟨rfl, hb4⟩
            have B4 := hidm hb4
            have c4 := cell_later hb4 c0
            clear hb4 c0
            go_wp2_with fail
            refine (AP.out w4 B4.out).mono ?_
            rintro e w5 ⟨rfl, hb5⟩
            have B5 := hidm (B4.out.trans (hb5.mono B4.out.size))
            clear hb5 c4
            go_wp2_with fail
            refine (US2.out w5 B5.out).mono ?_
            rintro e w6 ⟨rfl, rfl⟩
            go_wp2_with fail
            refine (US2.out w5 B5.out).mono ?_
            rintro e w6 ⟨rfl, rfl⟩
            go_wp2_with fail
            go_roundw
            case rel => exact ⟨j, B, rfl, by rw [HJ.out]; omega, by rw [HJ.out]; omega, hidm (HG5.out w5 B5.out)⟩
            case measure => have := HJ.out; simp [intOf]; omega
          · have f1 : decide (pz ≤ m - u) = true := by simp; omega
            rw [f1] at FT
            have f2 : (v : Int) ≤ (m : Int) := by omega
            have AP := hidm (fun w' (hb : Below wr.heap.size wr w') => (HG.out.later hb).append x (by rw [hnp, ← hu]; omega) (by omega))
            have hnr2 : ¬ (m : Int) < (v : Int) := by omega
            have HV := hidm (show tot ([] ++ (B ++ [(1, x.data.toList)])) = v from by
              rw [← List.append_assoc, tot_app, ← hu]
              show u + (np x.data.toList + 0) = v
              rw [hnp, hv]; rfl)
            clear hu hpz hnp hs99 hq hv f1
            go_wp2_with fail
            refine US.out.mono ?_
            rintro e w3 ⟨rfl, rfl⟩
            go_wp2_with fail
            refine FT.out.mono ?_
            rintro e w4 ⟨rfl, hb4⟩
            have B4 := hidm hb4
            have c4 := cell_later hb4 c0
            clear hb4 c0
            go_wp2_with fail
            refine (AP.out w4 B4.out).mono ?_
            rintro e w5 ⟨rfl, h5', _⟩
            have H5 := hidm (show Lg w (fun _ => False) L D 2 m 40 (1 + 1000 * j) 1 0 [] (B ++ [(1, x.data.toList)]) w5 from by
              rw [HJ.out, show 1 + 1000 * (i + 1) = 1 + 1000 * i + 1000 by omega]; exact h5')
            have US3 := hidm H5.out.used
            rw [HV.out] at US3
            clear h5' c4
            go_wp2_with fail
            refine US3.out.mono ?_
            rintro e w6 ⟨rfl, rfl⟩
            go_wp2_with fail
            refine US3.out.mono ?_
            rintro e w6 ⟨rfl, rfl⟩
            go_wp2_with fail
            go_roundw
            case rel => exact ⟨j, _, rfl, by rw [HJ.out]; omega, by rw [HJ.out]; omega, H5⟩
            case measure => have := HJ.out; simp [intOf]; omega
      · have g2 : ¬ (i : Int) < 40 := by omega
        go_wp2_with fail
        refine (known_any _).mono ?_
        rintro e wk ⟨rfl, hb⟩
        have HB := hidm (HG.out.bel.trans (hb.mono HG.out.bel.size))
        clear hb
        go_wp2_with fail
        go_ret
        exact ⟨rfl, HB.out⟩
    · obtain rfl : i = ll := by omega
      have g1 : ¬ (i : Int) < (i : Int) := by omega
      go_wp2_with fail
      refine (known_any _).mono ?_
      rintro e wk ⟨rfl, hb⟩
      have HB := hidm (HG.out.bel.trans (hb.mono HG.out.bel.size))
      clear hb
      go_wp2_with fail
      go_ret
      exact ⟨rfl, HB.out⟩
theorem laidOut : laidOutB Try.prog = true := by kernel_rfl
set_option maxRecDepth 100000 in
theorem contract (H : Type) (enc : TypeId × Value → H) (W : World) (base : Nat) (args : Array Value) (ds gs : List (DataW H)) (before : List MemPlace)
    (hval : ∀ (j : Nat) t v, Try.f8.params[j]? = some t → args[j]? = some v → Value.okWide Try.prog W .any base t v)
    (hW : DataW.Whole enc Try.prog Try.f8.params.toList Rows.walFullSpec.vars false W args.toList ds gs before)
    (hsz0 : (DataW.weightsEach Try.prog (Try.f8.params.toList ++ Rows.walFullSpec.plain.varTypes Try.prog) (ds ++ gs)).all (· ≤ reachBytes) = true) :
    Calls Try.prog 8 args W fun e W' => ∃ v, e = .returned v ∧ Rows.walFullSpec.post enc Try.prog Try.f8 false true false false W args v W' := by
  have hW' := hW
  obtain ⟨p, q, hA0, hV, rfl, hfz, hnd⟩ := hW
  have hA : DataW.TrodAll enc Try.prog W 0 (fun _ => true) true Try.f8.params.toList args.toList ds p := hA0
  rw [Try.params8] at hA hval hsz0
  obtain ⟨v0, vs0, d0, ds0, p0, q0, hargs, rfl, rfl, h0, r0⟩ := trodAll_cons hA
  obtain ⟨v1, vs1, d1, ds1, p1, q1, rfl, rfl, rfl, h1, r1⟩ := trodAll_cons r0
  obtain ⟨rfl, rfl, rfl⟩ := trodAll_nil r1
  obtain rfl : args = #[v0, v1] := by cases args; simp_all
  obtain ⟨rfl, rfl⟩ := trodVars_none hV
  have hsz := fun n hn => of_decide_eq_true (List.all_eq_true.1 hsz0 n hn)
  obtain ⟨l, hml⟩ := open_strs (hval 0 37 v0 rfl rfl) h0
  obtain ⟨n, rfl, hd1, hp1, wn⟩ := open_int Try.underlying5 (hval 1 5 v1 rfl rfl) h1
  have bn := bounds_u8 wn
  obtain ⟨n, rfl⟩ := Int.eq_ofNat_of_zero_le bn.1
  clear hA0 hsz0
  simp only [List.append_nil] at hW'
  have hlt : ∀ x ∈ p0 ++ p1, x.block < W.heap.size := fun x hx => hW'.lt x (by simpa using hx)
  have walk := law_any l _ n (by omega) W hml
  refine walk.mono fun e W' ⟨he, hg⟩ => ?_
  subst he
  refine ⟨_, rfl, Fr.post_made (pa := p0 ++ p1) (pv := []) hW' (fun _ _ _ => trodAll_cons_mk (shut_bool Try.underlying4 _) trodAll_mk0) (fun sp hsp => ?_) (fun _ _ => rfl) (by simp) hg (ok_one (by kernel_rfl) rfl (okWide_bool_mk Try.underlying4 _))⟩
  have g0 : DataW.Trod enc Try.prog W' 0 sp true 37 _ d0 p0 := WideElems.Trod_stays laidOut (by kernel_rfl) (of_decide_eq_true (by kernel_rfl)) h0 (fun x hx => hg.same (hlt x (by simp [hx]))) (fun x hx => hsp x (by simp [hx]))
  have g1 : DataW.Trod enc Try.prog W' 0 sp true 5 _ d1 p1 := WideElems.Trod_stays laidOut (by kernel_rfl) (of_decide_eq_true (by kernel_rfl)) h1 (fun x hx => hg.same (hlt x (by simp [hx]))) (fun x hx => hsp x (by simp [hx]))
  have hT := (trodAll_cons_mk g0 (trodAll_cons_mk g1 trodAll_mk0))
  simp only [List.append_nil] at hT
  exact hT
set_option maxRecDepth 100000 in
theorem lifted (os : Os) (started : os.Started) (H : Type) (enc : TypeId × Value → H) :
    ReturnsInHanded {} Try.checked os 8 .any (Rows.walFullSpec.pre6 enc Try.prog Try.f8 Rows.walFullRow.domain false) (Rows.walFullSpec.post enc Try.prog Try.f8 false true false false) := by
  refine returnsInHanded_of_change_sized (C := Try.checked) Fr.own started (by kernel_rfl) Try.func8
    (ChangeSpec.witness6 (enc := enc) (C := Try.checked) false ⟨#[], #[.slice none 0 0, .int .u8 0], []⟩ 8 (by kernel_rfl) (by kernel_rfl) (by kernel_rfl) (by kernel_rfl)) ?_
  intro W base args ds gs before hval hW _ hsz _
  exact contract H enc W base args ds gs before hval hW hsz
theorem said : Rows.WalFullSaid :=
  OpenClaim.holds_of_wide 8 Try.f8 rfl rfl rfl rfl rfl rfl rfl ⟨rfl, rfl, rfl, rfl, rfl⟩ rfl rfl rfl rfl rfl (by kernel_rfl) Try.func8 (by kernel_rfl)
    (of_decide_eq_true (by kernel_rfl)) (by unfold Func.isWrapper; first | (rw [if_pos (by decide +kernel)]; kernel_rfl) | (rw [if_neg (by decide +kernel)]; exact ⟨rfl, rfl⟩))
    (fun os started H enc _ => lifted os started H enc)
end LaWalFull
end Go.Proofs.Ytpamffheapnoaaa
