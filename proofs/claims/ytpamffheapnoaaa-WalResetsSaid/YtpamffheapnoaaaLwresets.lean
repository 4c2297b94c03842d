/- WalResets is proved: for every row of texts, every number and all truths the law returns true and its arguments read as they did. No other condition. -/
import Derived.Test.YtpamffheapnoaaaWza
import Derived.Test.YtpamffheapnoaaaWo
import Derived.Test.YtpamffheapnoaaaFra
import Derived.WideKeyPair
import Derived.SizedLaws
namespace Go.Proofs.Ytpamffheapnoaaa
open Go.ChangeShapes Go.WideShapes Go.ChangeAt Go.RowKit
open Go.ChangeMaps (open_string shut_string)
namespace LaWalResets
open Wal
open Dsk (PD Mine KeepQ DiskIs Only Grow upd pad BoolsAt NotGiven)
open Crc (S S_of S_size S_append S_add hidm)
open Dsk (open_ops open_bools OpsAt Opv)
theorem own0 {w : World} {base : Nat} {v : Value} {n : Nat} {xs : List Value} (h : w.ownsRow base 9 1 v n xs) : w.ownsRow 0 9 1 v n xs := by
  refine ⟨h.1, ?_⟩
  rcases h.2 with h2 | ⟨g, c, cur, hv, hg, rest⟩
  · exact .inl h2
  · exact .inr ⟨g, c, cur, hv, Nat.zero_le _, rest⟩
set_option maxHeartbeats 16000000 in
set_option maxRecDepth 100000 in
theorem law_any (l : List (List UInt8)) (v0 : Value) (nn : Nat) (hnn : nn ≤ 255) (ks : List Bool) (ko : Option Addr) (kc : Nat) (w : World) (hl : StrsAt l v0 w) (hks : BoolsAt ks ko kc w) :
    Calls Try.prog 5 #[v0, .int .u8 (nn : Int), .slice ko ks.length kc] w fun e w' => e = .returned (.bool true) ∧ Below w.heap.size w w' := by
  have N0 := hidm (Dsk.m_new (W := w) (w := w) 40 (by omega) (by omega) (Below.refl _ _))
  obtain ⟨i0, hi0, hz0, hz1, hz2⟩ := info_parts infoS
  obtain ⟨lo, lc, rfl, _, hlc⟩ := hl.form
  obtain ⟨ll, hll⟩ : ∃ ll, ll = l.length := ⟨_, rfl⟩
  have HLL := hidm hll
  have HSL := hidm hl
  have HKS := hidm hks
  obtain ⟨kn, hkn⟩ : ∃ kn, kn = ks.length := ⟨_, rfl⟩
  have HKN := hidm hkn
  have hk9 : kn ≤ kc ∧ kc ≤ 9223372036854775807 := by rw [hkn]; exact ⟨hks.1, hks.2.1⟩
  rw [← hll, ← hkn]
  have hll2 : ll ≤ 9223372036854775807 := by omega
  obtain ⟨fm, hfm⟩ : ∃ m, m = nn % 3 := ⟨_, rfl⟩
  have hw1 : IntKind.i64.wrap (nn : Int) = (nn : Int) := by simp only [IntKind.wrap_i64]; omega
  have hw2 : (nn : Int).tmod 3 = (fm : Int) := by rw [Int.tmod_eq_emod_of_nonneg (by omega)]; omega
  have hw3 : IntKind.i64.wrap (fm : Int) = (fm : Int) := by simp only [IntKind.wrap_i64]; omega
  have hfm2 : fm ≤ 2 := by omega
  have HMOD := hidm hw2
  clear hl hll hlc hks hkn hfm hw2
  rcases Nat.lt_or_ge 10 ll with hten | hten
  · have f1 : (10 : Int) < (ll : Int) := by omega
    go_enter Try.func5, Try.ntmps5
    go_wp2_with fail
    refine N0.out.mono ?_
    rintro e w1 ⟨rfl, hm1, hb1⟩
    have HB1 := hidm hb1
    clear hm1 hb1
    go_wp2_with fail
    refine (known_any _).mono ?_
    rintro e wk ⟨rfl, hb⟩
    have HBK := hidm (HB1.out.trans (hb.mono HB1.out.size))
    clear hb
    go_wp2_with fail
    go_ret
    exact ⟨rfl, HBK.out⟩
  · have f1 : ¬ (10 : Int) < (ll : Int) := by omega
    go_enter Try.func5, Try.ntmps5
    go_wp2_with fail
    refine N0.out.mono ?_
    rintro e w1 ⟨rfl, hm1, hb1⟩
    have R1 := hidm (Rest.new (F := 0) (n := 38) hm1)
    obtain ⟨D, hD⟩ : ∃ D, D = w.heap.size + 1 := ⟨_, rfl⟩
    rw [← hD] at R1 ⊢
    clear hD hm1 hb1 N0
    have OP := hidm (R1.out.open 40 rfl (by omega) (by omega) (by omega) (by omega) (by omega))
    go_wp2_with fail
    refine OP.out.mono ?_
    rintro e w2 ⟨L, rfl, h2, _, _⟩
    have LV2 := hidm (show Live w (fun _ => False) L D 0 38 40 (1 + 1001 * 0) 1 0 [] [] (.slice none 0 0) (([] ++ [] : List R).map Prod.snd) w2 from ⟨h2, World.ownsRow_nil _ _ _ _, fun g hg => (by cases hg), fun g hg => hg.elim⟩)
    clear h2 R1 OP
    go_wp2_with fail
    go_loopw [11, 12] (fun v8 ii wr => ∃ (i : Nat) (B : List R) (vo : Option Addr) (xn vc : Nat) (Q : Nat → Prop), v8 = .slice vo xn vc ∧ ii = .int .i64 i ∧ i ≤ ll ∧ Hid (xn = B.length) ∧ Hid (Live w Q L D 0 38 40 (1 + 1001 * i) 1 0 [] B (.slice vo xn vc) (([] ++ B).map Prod.snd) wr)) (fun _ ii _ => (ll - (intOf ii).toNat))
    case atStart => exact ⟨0, [], none, 0, 0, _, rfl, rfl, by omega, hidm rfl, LV2⟩
    case round =>
      rename World => wr
      obtain ⟨i, B, vo, xn, vc, Q, rfl, rfl, hi, HN, HLV⟩ := hrel
      rcases Nat.lt_or_ge i ll with hlt | hge
      · have g1 : (i : Int) < (ll : Int) := by omega
        have hil : i < l.length := by rw [← HLL.out]; exact hlt
        obtain ⟨b, o, cp, he, hbl, q0⟩ := HSL.out.at i hil
        have he2 : (Value.slice lo ll lc) = .slice (some ⟨b, o, none⟩) l.length cp := by rw [HLL.out]; exact he
        simp only [Value.slice.injEq] at he2
        obtain ⟨rfl, -, rfl⟩ := he2
        clear he
        obtain ⟨x, hx⟩ : ∃ x, x = S l[i] := ⟨_, rfl⟩
        rw [← hx] at q0
        clear hx
        have Q0 := hidm q0
        have HBL := hidm hbl
        have c0 := (HLV.out.lg.bel.cell (p := ⟨b, o + i, none⟩) hbl).trans q0
        clear q0
        have i1 : (i : Int) + 1 = ((i + 1 : Nat) : Int) := by omega
        obtain ⟨j, hj⟩ : ∃ j, j = i + 1 := ⟨_, rfl⟩
        rw [← hj] at i1
        have i1w : IntKind.i64.wrap (j : Int) = (j : Int) := by simp only [IntKind.wrap_i64]; omega
        have HJ := hidm hj
        have HJ2 := hidm (show j ≤ ll ∧ j ≤ 10 from by omega)
        clear hj
        rcases Nat.lt_or_ge x.size 500 with hs | hs
        · have g3 : (x.size : Int) < 500 := by omega
          by_cases hf : np x.data.toList ≤ 38 - tot ([] ++ B)
          · have AP := hidm (HLV.out.lg.append x hf (by have := HJ2.out.2; have := HJ.out; omega))
            clear hf
            go_wp2_with fail
            refine AP.out.mono ?_
            rintro e w3 ⟨rfl, h3, k3⟩
            have LV3 := hidm (HLV.out.call h3 k3)
            have c3 := (LV3.out.lg.bel.cell (p := ⟨b, o + i, none⟩) HBL.out).trans Q0.out
            have hba := (Below.refl w3.heap.size w3).alloc (Nat.le_refl _) (.cells #[.string x] 9)
            have LV4 := hidm (LV3.out.later hba)
            have HOW := hidm LV4.out.own
            have hxn : (([] ++ B).map Prod.snd).length = xn := by rw [List.length_map]; exact HN.out.symm
            rw [hxn] at HOW
            have hxs : xn ≤ 100000 := by
              have h1 := len_tot B
              have h2 := HN.out
              obtain ⟨d, _, h4, _⟩ := HLV.out.lg.ex
              have h5 := h4.bd.room
              simp only [tot] at h5
              omega
            have HXN := hidm hxn
            clear h3 k3 AP c0 hba hxn
            go_wp2_with (at_builtin; refine wpList_append_lies _ rfl _ _ 37 rfl 0 9 i0 (.string ⟨#[]⟩) 1 16 Try.underlying37 hi0 hz0 hz1 hz2 rfl (by decide) _ xn (strs ((([] : List R) ++ B).map Prod.snd)) rfl HOW.out ⟨w3.heap.size, 0, none⟩ 1 1 [.string x] rfl rfl ?CA ?CB (by decide) ?CC ?CD ?CE _ rfl ?_)
            case CA => exact World.news_of_block (heap_alloc_last _ _)
            case CB => intro u hu; simp at hu; rcases hu with rfl; rfl
            case CC => unfold maxLen; omega
            case CD => omega
            case CE => omega
            intro g cap w5 hown hgrow hg hlt5
            have LV5 := hidm (Live.push (s := x.data.toList) (g := g) (cap := cap) LV4.out (by rw [HXN.out, S_of]; exact hown) hgrow (hg.imp id (fun e => by rw [e]; simp)) hlt5)
            rw [HXN.out] at LV5
            clear hown hgrow hg hlt5 c3
            have hx1 : ([] ++ (B ++ [(1, x.data.toList)])).map Prod.snd = ([] ++ B).map Prod.snd ++ [x.data.toList] := by rw [← List.append_assoc, List.map_append]; rfl
            rw [← hx1] at LV5
            clear hx1
            go_wp2_with fail
            go_roundw
            case rel => exact ⟨j, B ++ [(1, x.data.toList)], some ⟨g, 0, none⟩, xn + 1, cap, _, rfl, rfl, HJ2.out.1, hidm (by rw [HN.out]; simp), hidm ⟨(LV5.out.lg.more (by rw [HJ.out]; omega) (by rw [HJ.out]; omega)), LV5.out.own, LV5.out.rO, LV5.out.low⟩⟩
            case measure => have := HJ.out; simp [intOf]; omega
          · have AP := hidm (HLV.out.lg.full x (by omega) hf)
            clear hf
            go_wp2_with fail
            refine AP.out.mono ?_
            rintro e w3 ⟨rfl, hb3⟩
            have LV3 := hidm (HLV.out.later hb3)
            clear hb3 AP c0
            go_wp2_with fail
            go_roundw
            case rel => exact ⟨j, B, vo, xn, vc, _, rfl, rfl, HJ2.out.1, HN, hidm ⟨(LV3.out.lg.more (by rw [HJ.out]; omega) (by rw [HJ.out]; omega)), LV3.out.own, LV3.out.rO, LV3.out.low⟩⟩
            case measure => have := HJ.out; simp [intOf]; omega
        · have g3 : ¬ (x.size : Int) < 500 := by omega
          go_wp2_with fail
          go_roundw
          case rel => exact ⟨j, B, vo, xn, vc, _, rfl, rfl, HJ2.out.1, HN, hidm ⟨(HLV.out.lg.more (by rw [HJ.out]; omega) (by rw [HJ.out]; omega)), HLV.out.own, HLV.out.rO, HLV.out.low⟩⟩
          case measure => have := HJ.out; simp [intOf]; omega
      · obtain rfl : i = ll := by omega
        have g1 : ¬ (i : Int) < (i : Int) := by omega
        have CM := hidm (HLV.out.lg.commit (by omega))
        go_wp2_with fail
        refine CM.out.mono ?_
        rintro e w3 ⟨rfl, h3, k3⟩
        have HOA := hidm (Dsk.ownsRow_of HLV.out.own (fun g hg => k3 g (HLV.out.rO g hg)))
        have HRO := hidm HLV.out.rO
        obtain ⟨A, hA⟩ : ∃ A : List R, A = [] ++ B := ⟨_, rfl⟩
        rw [← hA] at h3 HOA
        have hAl : A.length = xn := by rw [hA, HN.out]; rfl
        have HAL := hidm hAl
        have TO := hidm (h3.torn fm hfm2 (by omega) (by omega))
        have hw2 := HMOD.out
        clear h3 k3 CM hA hAl HLV
        go_wp2_with fail
        refine TO.out.mono ?_
        rintro e w4 ⟨rfl, k4, hre⟩
        have HRE := hidm hre
        have HOA4 := hidm (Dsk.ownsRow_of HOA.out (fun g hg => k4 g (HRO.out g hg)))
        clear k4 hre TO HOA
        go_wp2_with fail
        refine HRE.out.mono ?_
        rintro e w5 ⟨co, rfl, hco, k5, ht5⟩
        have HOA5 := hidm (Dsk.ownsRow_of HOA4.out (fun g hg => k5 g (HRO.out g hg)))
        obtain ⟨gg, d, hp, hw, hall⟩ := ht5.ex
        have HW := hidm hw
        have HALL := hidm hall
        obtain ⟨hdi, hcr⟩ := hp.crash
        have HDI := hidm hdi
        have HCRr := hidm hcr
        have HBE := hidm hp.bel
        obtain ⟨nd, hnd⟩ : ∃ nd, nd = d.cs.length := ⟨_, rfl⟩
        have hnd2 : nd ≤ 1000000 := by have := hw.cs; omega
        rw [← hnd] at HDI HCRr
        clear k5 ht5 hp hw hall hdi hcr HRE HOA4 hnd
        obtain ⟨mm, hmm⟩ : ∃ mm, mm = min kn nd := ⟨_, rfl⟩
        have hmin : min (kn : Int) (nd : Int) = (mm : Int) := by omega
        have hmk : mm ≤ kn := by omega
        have hmd : mm ≤ nd := by omega
        have hms : mm ≤ kc := by omega
        have HLT := hidm (show (ks.take mm).length = mm from by rw [List.length_take, ← HKN.out]; omega)
        have HCR := hidm (show ∀ w1, Below w5.heap.size w5 w1 → _ from fun w1 hb => by
          have h9 := HCRr.out w1 hb (ks.take mm) ko kc (by rw [HLT.out]; exact hmd) (bools_take (HKS.out.later (HBE.out.trans (hb.mono HBE.out.size))) mm (by rw [← HKN.out]; exact hmk)) (fun hne p hp => by
            obtain ⟨b9, o9, e9, hlt9, _⟩ := HKS.out.2.2 (fun e => hne (by rw [e]; simp))
            rw [e9] at hp
            cases hp
            exact hlt9)
          rw [HLT.out] at h9
          exact h9)
        clear hmm HCRr
        go_wp2_with fail
        refine HDI.out.mono ?_
        rintro e w6 ⟨vo6, vc6, rfl, hb6⟩
        have HB6 := hidm hb6
        have HOA6 := hidm (Dsk.owns_later HOA5.out hb6)
        clear hb6 HDI HOA5
        go_wp2_with fail
        refine (HCR.out w6 HB6.out).mono ?_
        rintro e w7 ⟨rfl, hm7, k7⟩
        have HOA7 := hidm (Dsk.ownsRow_of HOA6.out (fun g hg => k7 g (HRO.out g hg)))
        have HM7 := hidm hm7
        clear hm7 k7 HCR HOA6
        rcases HALL.out (ks.take mm) with ⟨hco6, hcn⟩ | hcn
        · have OP := hidm (Rest.open (F := 0) (n := 38) (N := 40) (k := 1 + 1001 * i + 1 + 2) (t := 1) (b := 0) (A := A) ⟨_, HM7.out, hcn, ⟨HW.out.n, Nat.zero_le _, HW.out.wr, HW.out.fl⟩, rfl, rfl⟩ 40 rfl (by omega) (by omega) (by omega) (by omega) (by omega))
          subst hco6
          clear hcn hco
          go_wp2_with fail
          refine OP.out.mono ?_
          rintro e w8 ⟨M, rfl, h8, k8, _⟩
          have H8 := hidm h8
          have HOA8 := hidm (Dsk.ownsRow_of HOA7.out (fun g hg => k8 g (HRO.out g hg)))
          have RC := hidm h8.records
          have hAn : (A ++ []).length = xn := by rw [List.append_nil]; exact HAL.out
          rw [hAn, List.append_nil] at RC
          clear h8 k8 OP HOA7
          go_wp2_with fail
          refine RC.out.mono ?_
          rintro e w9 ⟨ao, c9, rfl, hown, hb9⟩
          have B9 := hidm hb9
          have HR9 := hidm hown
          have HOA9 := hidm (Dsk.owns_later HOA8.out hb9)
          clear hown hb9 RC HOA8 hAn
          have TX := hidm (show ∀ w', Below w9.heap.size w9 w' → Calls Try.prog 22 #[.slice ao xn c9, .slice vo xn vc] w' fun e w'' => e = .returned (.bool true) ∧ Below w'.heap.size w' w'' from fun w' hb => by
            have hlen : (A.map Prod.snd).length = xn := by rw [List.length_map]; exact HAL.out
            have s1 : StrsAt (A.map Prod.snd) (.slice ao xn c9) w9 := StrsAt.of_owns (base := w8.heap.size) (by rw [hlen]; exact HR9.out)
            have s2 : StrsAt (A.map Prod.snd) (.slice vo xn vc) w9 := StrsAt.of_owns (base := 0) HOA9.out
            exact rtexts_same _ _ _ w' (s1.later hb) (s2.later hb))
          have G9 := hidm (H8.out.later B9.out)
          have HBW := hidm G9.out.bel
          rcases (show xn = 0 ∨ xn ≠ 0 by omega) with hx0 | hx0
          · subst hx0
            go_wp2_with fail
            refine G9.out.gen.mono ?_
            rintro e wx ⟨rfl, rfl⟩
            go_wp2_with fail
            refine (TX.out w9 (Below.refl _ _)).mono ?_
            rintro e w10 ⟨rfl, hb10⟩
            have HB10 := hidm (HBW.out.trans (hb10.mono HBW.out.size))
            have G10 := hidm (G9.out.later hb10)
            clear hb10
            go_wp2_with fail
            refine G10.out.gen.mono ?_
            rintro e wx ⟨rfl, rfl⟩
            go_wp2_with fail
            refine (known_any _).mono ?_
            rintro e wk ⟨rfl, hb⟩
            have HBK := hidm (HB10.out.trans (hb.mono HB10.out.size))
            clear hb
            go_wp2_with fail
            go_ret
            exact ⟨rfl, HBK.out⟩
          · have hx1 : ((xn : Int) == 0) = false := by simpa using (show ¬ (xn : Int) = 0 by omega)
            go_wp2_with fail
            refine (TX.out w9 (Below.refl _ _)).mono ?_
            rintro e w10 ⟨rfl, hb10⟩
            have HB10 := hidm (HBW.out.trans (hb10.mono HBW.out.size))
            have G10 := hidm (G9.out.later hb10)
            clear hb10
            go_wp2_with fail
            refine G10.out.gen.mono ?_
            rintro e wx ⟨rfl, rfl⟩
            go_wp2_with fail
            refine (known_any _).mono ?_
            rintro e wk ⟨rfl, hb⟩
            have HBK := hidm (HB10.out.trans (hb.mono HB10.out.size))
            clear hb
            go_wp2_with fail
            go_ret
            exact ⟨rfl, HBK.out⟩
        · have OP := hidm (Rest.open (F := 0) (n := 38) (N := 40) (k := 1 + 1001 * i + 1 + 2) (t := 1 + 1) (b := 1 + 1) (A := []) ⟨_, HM7.out, hcn, ⟨HW.out.n, Nat.zero_le _, HW.out.wr, HW.out.fl⟩, rfl, rfl⟩ 40 rfl (by omega) (by omega) (by omega) (by omega) (by omega))
          clear hcn
          rcases hco with rfl | rfl
          · go_wp2_with fail
            refine OP.out.mono ?_
            rintro e w8 ⟨M, rfl, h8, k8, _⟩
            have H8 := hidm h8
            have RC := hidm h8.records
            clear h8 k8 OP
            go_wp2_with fail
            refine RC.out.mono ?_
            rintro e w9 ⟨ao, c9, rfl, hown, hb9⟩
            have G9 := hidm (H8.out.later hb9)
            have HBW := hidm G9.out.bel
            clear hown hb9 RC
            go_wp2_with fail
            refine G9.out.gen.mono ?_
            rintro e wx ⟨rfl, rfl⟩
            go_wp2_with fail
            refine (known_any _).mono ?_
            rintro e wk ⟨rfl, hb⟩
            have HBK := hidm (HBW.out.trans (hb.mono HBW.out.size))
            clear hb
            go_wp2_with fail
            go_ret
            exact ⟨rfl, HBK.out⟩
          · go_wp2_with fail
            refine OP.out.mono ?_
            rintro e w8 ⟨M, rfl, h8, k8, _⟩
            have H8 := hidm h8
            have RC := hidm h8.records
            clear h8 k8 OP
            go_wp2_with fail
            refine RC.out.mono ?_
            rintro e w9 ⟨ao, c9, rfl, hown, hb9⟩
            have G9 := hidm (H8.out.later hb9)
            have HBW := hidm G9.out.bel
            clear hown hb9 RC
            go_wp2_with fail
            refine G9.out.gen.mono ?_
            rintro e wx ⟨rfl, rfl⟩
            go_wp2_with fail
            refine (known_any _).mono ?_
            rintro e wk ⟨rfl, hb⟩
            have HBK := hidm (HBW.out.trans (hb.mono HBW.out.size))
            clear hb
            go_wp2_with fail
            go_ret
            exact ⟨rfl, HBK.out⟩
theorem laidOut : laidOutB Try.prog = true := by kernel_rfl
set_option maxRecDepth 100000 in
theorem contract (H : Type) (enc : TypeId × Value → H) (W : World) (base : Nat) (args : Array Value) (ds gs : List (DataW H)) (before : List MemPlace)
    (hval : ∀ (j : Nat) t v, Try.f5.params[j]? = some t → args[j]? = some v → Value.okWide Try.prog W .any base t v)
    (hW : DataW.Whole enc Try.prog Try.f5.params.toList Rows.walResetsSpec.vars false W args.toList ds gs before)
    (hsz0 : (DataW.weightsEach Try.prog (Try.f5.params.toList ++ Rows.walResetsSpec.plain.varTypes Try.prog) (ds ++ gs)).all (· ≤ reachBytes) = true) :
    Calls Try.prog 5 args W fun e W' => ∃ v, e = .returned v ∧ Rows.walResetsSpec.post enc Try.prog Try.f5 false true false false W args v W' := by
  have hW' := hW
  obtain ⟨p, q, hA0, hV, rfl, hfz, hnd⟩ := hW
  have hA : DataW.TrodAll enc Try.prog W 0 (fun _ => true) true Try.f5.params.toList args.toList ds p := hA0
  rw [Try.params5] at hA hval hsz0
  obtain ⟨v0, vs0, d0, ds0, p0, q0, hargs, rfl, rfl, h0, r0⟩ := trodAll_cons hA
  obtain ⟨v1, vs1, d1, ds1, p1, q1, rfl, rfl, rfl, h1, r1⟩ := trodAll_cons r0
  obtain ⟨v2, vs2, d2, ds2, p2, q2, rfl, rfl, rfl, h2, r2⟩ := trodAll_cons r1
  obtain ⟨rfl, rfl, rfl⟩ := trodAll_nil r2
  obtain rfl : args = #[v0, v1, v2] := by cases args; simp_all
  obtain ⟨rfl, rfl⟩ := trodVars_none hV
  have hsz := fun n hn => of_decide_eq_true (List.all_eq_true.1 hsz0 n hn)
  obtain ⟨l, hml⟩ := open_strs (hval 0 37 v0 rfl rfl) h0
  obtain ⟨n, rfl, hd1, hp1, wn⟩ := open_int Try.underlying5 (hval 1 5 v1 rfl rfl) h1
  have bn := bounds_u8 wn
  obtain ⟨n, rfl⟩ := Int.eq_ofNat_of_zero_le bn.1
  obtain ⟨ks, kso, ksc, rfl, hmks⟩ := open_bools (hval 2 28 v2 rfl rfl) h2
  clear hA0 hsz0
  simp only [List.append_nil] at hW'
  have hlt : ∀ x ∈ p0 ++ p1 ++ p2, x.block < W.heap.size := fun x hx => hW'.lt x (by simpa using hx)
  have walk := law_any l _ n (by omega) ks kso ksc W hml hmks
  refine walk.mono fun e W' ⟨he, hg⟩ => ?_
  subst he
  refine ⟨_, rfl, Fr.post_made (pa := p0 ++ (p1 ++ p2)) (pv := []) hW' (fun _ _ _ => trodAll_cons_mk (shut_bool Try.underlying4 _) trodAll_mk0) (fun sp hsp => ?_) (fun _ _ => rfl) (by simp) hg (ok_one (by kernel_rfl) rfl (okWide_bool_mk Try.underlying4 _))⟩
  have g0 : DataW.Trod enc Try.prog W' 0 sp true 37 _ d0 p0 := WideElems.Trod_stays laidOut (by kernel_rfl) (of_decide_eq_true (by kernel_rfl)) h0 (fun x hx => hg.same (hlt x (by simp [hx]))) (fun x hx => hsp x (by simp [hx]))
  have g1 : DataW.Trod enc Try.prog W' 0 sp true 5 _ d1 p1 := WideElems.Trod_stays laidOut (by kernel_rfl) (of_decide_eq_true (by kernel_rfl)) h1 (fun x hx => hg.same (hlt x (by simp [hx]))) (fun x hx => hsp x (by simp [hx]))
  have g2 : DataW.Trod enc Try.prog W' 0 sp true 28 _ d2 p2 := WideElems.Trod_stays laidOut (by kernel_rfl) (of_decide_eq_true (by kernel_rfl)) h2 (fun x hx => hg.same (hlt x (by simp [hx]))) (fun x hx => hsp x (by simp [hx]))
  have hT := (trodAll_cons_mk g0 (trodAll_cons_mk g1 (trodAll_cons_mk g2 trodAll_mk0)))
  simp only [List.append_nil] at hT
  exact hT
set_option maxRecDepth 100000 in
theorem lifted (os : Os) (started : os.Started) (H : Type) (enc : TypeId × Value → H) :
    ReturnsInHanded {} Try.checked os 5 .any (Rows.walResetsSpec.pre6 enc Try.prog Try.f5 Rows.walResetsRow.domain false) (Rows.walResetsSpec.post enc Try.prog Try.f5 false true false false) := by
  refine returnsInHanded_of_change_sized (C := Try.checked) Fr.own started (by kernel_rfl) Try.func5
    (ChangeSpec.witness6 (enc := enc) (C := Try.checked) false ⟨#[], #[.slice none 0 0, .int .u8 0, .slice none 0 0], []⟩ 8 (by kernel_rfl) (by kernel_rfl) (by kernel_rfl) (by kernel_rfl)) ?_
  intro W base args ds gs before hval hW _ hsz _
  exact contract H enc W base args ds gs before hval hW hsz
theorem said : Rows.WalResetsSaid :=
  OpenClaim.holds_of_wide 5 Try.f5 rfl rfl rfl rfl rfl rfl rfl ⟨rfl, rfl, rfl, rfl, rfl⟩ rfl rfl rfl rfl rfl (by kernel_rfl) Try.func5 (by kernel_rfl)
    (of_decide_eq_true (by kernel_rfl)) (by unfold Func.isWrapper; first | (rw [if_pos (by decide +kernel)]; kernel_rfl) | (rw [if_neg (by decide +kernel)]; exact ⟨rfl, rfl⟩))
    (fun os started H enc _ => lifted os started H enc)
end LaWalResets
end Go.Proofs.Ytpamffheapnoaaa
