/- PagerAgain is proved: for every script, two fuses and what is kept the law returns true and its arguments read as they did. No other condition. -/
import Derived.Test.YtkgbemkcnahkoaaGreatDoorZPag
import Derived.Test.YtkgbemkcnahkoaaGreatDoorZMan
import Derived.Test.YtkgbemkcnahkoaaGreatDoorZFrdto
import Derived.Deep.DeepCutAuto
import Derived.Deep.CutBlock
import Derived.WideKeyPair
import Derived.SizedLaws
namespace Go.Proofs.YtkgbemkcnahkoaaGreatDoor
open Go.ChangeShapes Go.WideShapes Go.ChangeAt Go.RowKit
open Go.ChangeMaps (open_string shut_string)
namespace LaPagerAgain
open Pgr
open Dsk (PD Mine KeepQ DiskIs Only Grow upd pad BoolsAt NotGiven zeros open_ops open_bools OpsAt Opv)
open Crc (S S_of S_size)
theorem tmodn (a k : Nat) : ((a : Int).tmod (k : Int)) = ((a % k : Nat) : Int) := by
  rw [Int.tmod_eq_emod_of_nonneg (by omega)]; omega
theorem commit_h2 {W : World} {Q : Nat → Prop} {P L D K : Nat} {u : Bool} {ch : Ch} {V : Nat → List UInt8} {w : World} (h : Lv W Q P L D 38 20 K u ch V w) (hK : K ≤ 700000) : Calls Tryz.prog 35 #[.pointer (some ⟨P, 0, none⟩)] w fun e w' => ∃ c : Int, e = .returned (.int .i64 c) ∧ ∃ V1 V2, H2 W Q D 38 20 (K + 3000) V1 V2 w' := by
  refine (h.commit (by omega) h.fits hK).mono fun e w' h1 => ?_
  rcases h1 with ⟨he, h2, _⟩ | ⟨_, he, h2, _⟩
  · exact ⟨_, he, _, _, h2.h2⟩
  · exact ⟨_, he, _, _, h2.h2⟩
set_option maxHeartbeats 16000000 in
set_option maxRecDepth 100000 in
theorem law_any (l : List Opv) (v0 : Value) (fa fb : Nat) (ks : List Bool) (ko : Option Addr) (kc : Nat) (w0 : World) (hl0 : OpsAt l v0 w0) (hin : ∀ x ∈ l, x.inn) (hfa : fa < 256) (hfb : fb < 256) (hb0 : BoolsAt ks ko kc w0) :
    Calls Tryz.prog 5 #[v0, .agg #[.int .u8 (fa : Int), .int .u8 (fb : Int)], .slice ko ks.length kc] w0 fun e w' => e = .returned (.bool true) ∧ Below w0.heap.size w0 w' := by
  have HIN := hidm hin
  obtain ⟨kn, hkn⟩ : ∃ n, n = ks.length := ⟨_, rfl⟩
  have HKN := hidm hkn
  have hk9 : kn ≤ kc ∧ kc ≤ 9223372036854775807 := by rw [hkn]; exact ⟨hb0.1, hb0.2.1⟩
  rw [← hkn]
  have hkca := hk9.1
  have hkcb := hk9.2
  clear hk9 hkn
  obtain ⟨lo, lc, hv0, _, _⟩ := hl0.form
  have HBX := hidm hb0
  have HOX := hidm hl0
  clear hb0 hl0 hin
  have HFA := hidm (show ((fa : Int).tmod 50) = ((fa % 50 : Nat) : Int) from tmodn fa 50)
  have HFB := hidm (show ((fb : Int).tmod 20) = ((fb % 20 : Nat) : Int) from tmodn fb 20)
  have HAB := hidm (And.intro hfa hfb)
  obtain ⟨ll, hll⟩ : ∃ n, n = l.length := ⟨_, rfl⟩
  have HLLll := hidm hll
  rw [← hll] at hv0
  have HV0 := hidm hv0
  subst hv0
  have hll2 : ll ≤ 9223372036854775807 := by
    obtain ⟨_, _, e, h1, h2⟩ := HOX.out.form
    omega
  clear hll hfa hfb
  go_enter Tryz.func5, Tryz.ntmps5
  go_upto_region 1 with fail
  obtain ⟨w, hw⟩ : ∃ w, w = w0.alloc (.cells #[.int .u8 (fa : Int), .int .u8 (fb : Int)] 22) := ⟨_, rfl⟩
  obtain ⟨B0, hB0⟩ : ∃ B, B = w0.heap.size := ⟨_, rfl⟩
  have HW0 := hidm (show Below w0.heap.size w0 w from by rw [hw]; exact (Below.refl _ _).alloc (Nat.le_refl _) _)
  have hrow : w.heap[B0]? = some (.cells #[.int .u8 (fa : Int), .int .u8 (fb : Int)] 22 (0, 0)) := by rw [hw, hB0]; exact heap_alloc_last w0 _
  have HC0 := hidm (show w.cell? ⟨B0, 0, none⟩ = some (.int .u8 (fa : Int)) from cell_of_row w B0 0 _ _ (0, 0) hrow)
  have HC1 := hidm (show w.cell? ⟨B0, 1, none⟩ = some (.int .u8 (fb : Int)) from cell_of_row w B0 1 _ _ (0, 0) hrow)
  have HB0 := hidm (show B0 < w.heap.size from by rw [hw, hB0]; simp)
  rw [← hw, ← hB0]
  have HBO := hidm (HBX.out.later HW0.out)
  have HSLll := hidm (show OpsAt l (.slice lo l.length lc) w from by have h := HOX.out.later HW0.out; rw [HLLll.out] at h; exact h)
  clear hw hB0 hrow HBX HOX
  obtain ⟨fa5, hfa5⟩ : ∃ f : Int, f = ((fa % 50 : Nat) : Int) := ⟨_, rfl⟩
  obtain ⟨fb5, hfb5⟩ : ∃ f : Int, f = ((fb % 20 : Nat) : Int) := ⟨_, rfl⟩
  have HF50 := hidm (show ((fa : Int).tmod 50) = fa5 from HFA.out.trans hfa5.symm)
  have HF20 := hidm (show ((fb : Int).tmod 20) = fb5 from HFB.out.trans hfb5.symm)
  have HFL := hidm (show fa5 ≤ 9223372036854775807 ∧ fb5 ≤ 9223372036854775807 from by omega)
  have hfa9 : 0 ≤ fa5 ∧ fa5 < 50 := by omega
  have hfb9 : 0 ≤ fb5 ∧ fb5 < 20 := by omega
  have hfa8 : IntKind.i64.wrap fa5 = fa5 := by simp only [IntKind.wrap_i64]; omega
  have hfb8 : IntKind.i64.wrap fb5 = fb5 := by simp only [IntKind.wrap_i64]; omega
  have hfa7 : IntKind.i64.wrap (fa : Int) = (fa : Int) := by have := HAB.out; simp only [IntKind.wrap_i64]; omega
  have hfb7 : IntKind.i64.wrap (fb : Int) = (fb : Int) := by have := HAB.out; simp only [IntKind.wrap_i64]; omega
  clear hfa5 hfb5 HFA HFB hfa9 hfb9
  have N0 := hidm (Dsk.m_new (W := w) (w := w) 60 (by omega) (by omega) (Below.refl _ _))
  by_cases hkl : 100 < kn
  · have g0 : (100 : Int) < (kn : Int) := by omega
    clear hkl
    go_wp2_with fail
    refine N0.out.mono ?_
    rintro e w1 ⟨rfl, hm1, hb1⟩
    have HX := hidm hm1
    clear hm1 hb1 N0
    go_wp2_with fail
    refine (known_any _).mono ?_
    rintro e wk ⟨rfl, hb⟩
    have HB := hidm (HX.out.bel.trans (hb.mono HX.out.bel.size))
    clear hb
    go_wp2_with fail
    go_ret
    exact ⟨by trivial, HW0.out.trans (HB.out.mono HW0.out.size)⟩
  · have g0 : ¬ (100 : Int) < (kn : Int) := by omega
    clear hkl
    go_wp2_with fail
    refine N0.out.mono ?_
    rintro e w1 ⟨rfl, hm1, hb1⟩
    have R1 := hidm (Re.new (n := 38) (N := 20) (by omega) hm1)
    obtain ⟨D, hD⟩ : ∃ D, D = w.heap.size + 1 := ⟨_, rfl⟩
    rw [← hD] at R1 ⊢
    clear hD hm1 hb1 N0
    go_wp2_with fail
    refine (R1.out.open (by omega) (by omega) (by omega) 40 rfl).mono ?_
    rintro e w2 ⟨P, L, rfl, h2, _⟩
    have H2 := hidm (show Lv w (fun _ => False) P L D 38 20 2000 true [] (fun _ => zeros) w2 from h2.more (by omega))
    clear h2 R1
    go_upto_block 0 with fail
    go_cut [11] (fun _ wx => ∃ (ch : Ch) (V : Nat → List UInt8), Hid (Lv w (fun _ => False) P L D 38 20 (2000 + 90000) true ch V wx))
    case first =>
      go_wp2_with fail
      go_loopw [11] (fun ii wr => ∃ (i : Nat) (ch : Ch) (V : Nat → List UInt8), ii = .int .i64 i ∧ i ≤ ll ∧ i ≤ 30 ∧ Hid (Lv w (fun _ => False) P L D 38 20 (2000 + 3000 * i) true ch V wr)) (fun ii _ => (ll - (intOf ii).toNat))
      case atStart => exact ⟨0, _, _, rfl, by omega, by omega, H2⟩
      case round =>
        rename World => wr
        obtain ⟨i, ch, V, rfl, hi, hi3, HLV⟩ := hrel
        by_cases hlt : i < ll ∧ i < 30
        · obtain ⟨hlt, hlt2⟩ := hlt
          have g1 : (i : Int) < (ll : Int) := by omega
          have g2 : (i : Int) < 30 := by omega
          have hil : i < l.length := by rw [← HLLll.out]; exact hlt
          obtain ⟨b', o, cp, he, hbl, q0, q1, q2, q3⟩ := HSLll.out.at i hil
          have HXI0 := HIN.out _ (List.getElem_mem hil)
          have he2 : (Value.slice lo ll lc) = .slice (some ⟨b', o, none⟩) l.length cp := by rw [HLLll.out]; exact he
          simp only [Value.slice.injEq] at he2
          obtain ⟨rfl, -, rfl⟩ := he2
          clear he
          obtain ⟨x, hx⟩ : ∃ x, x = l[i] := ⟨_, rfl⟩
          rw [← hx] at q0 q1 q2 q3 HXI0
          have HXI := hidm HXI0
          clear hx HXI0
          have hbel := HLV.out.bel
          have c0 := (hbel.cell (p := ⟨b', o + i * 4, none⟩) hbl).trans q0
          have c1 := (hbel.cell (p := ⟨b', o + i * 4 + 1, none⟩) hbl).trans q1
          have c2 := (hbel.cell (p := ⟨b', o + i * 4 + 2, none⟩) hbl).trans q2
          have c3 := (hbel.cell (p := ⟨b', o + i * 4 + 3, none⟩) hbl).trans q3
          have i1 : (i : Int) + 1 = ((i + 1 : Nat) : Int) := by omega
          obtain ⟨j, hj⟩ : ∃ j, j = i + 1 := ⟨_, rfl⟩
          rw [← hj] at i1
          have i1w : IntKind.i64.wrap (j : Int) = (j : Int) := by simp only [IntKind.wrap_i64]; omega
          have HJ := hidm hj
          have HJ2 := hidm (show j ≤ ll ∧ j ≤ 30 from by omega)
          clear hj hbel q0 q1 q2 q3
          by_cases hkd : x.kind < 3
          · have HKD := hidm hkd
            by_cases hsz : x.s.size < 200
            · have g3 : (x.s.size : Int) < 200 := by omega
              clear hsz
              go_wp2_with fail
              refine (HLV.out.do x HXI.out (by have := HKD.out; omega)).mono ?_
              rintro e w3 ⟨a, c, sx, ch3, rfl, h3, k3⟩
              have H3 := hidm h3
              clear h3 k3 c0 c1 c2 c3
              go_wp2_with fail
              go_roundw
              case rel => exact ⟨j, ch3, V, rfl, HJ2.out.1, HJ2.out.2, hidm (H3.out.more (by rw [HJ.out]; omega))⟩
              case measure => have := HJ.out; simp [intOf]; omega
            · have g3 : ¬ (x.s.size : Int) < 200 := by omega
              clear hsz
              go_wp2_with fail
              go_roundw
              case rel => exact ⟨j, ch, V, rfl, HJ2.out.1, HJ2.out.2, hidm (HLV.out.more (by rw [HJ.out]; omega))⟩
              case measure => have := HJ.out; simp [intOf]; omega
          · go_wp2_with fail
            go_roundw
            case rel => exact ⟨j, ch, V, rfl, HJ2.out.1, HJ2.out.2, hidm (HLV.out.more (by rw [HJ.out]; omega))⟩
            case measure => have := HJ.out; simp [intOf]; omega
        · have HLVE := hidm (show Lv w (fun _ => False) P L D 38 20 (2000 + 90000) true ch V wr from HLV.out.more (by omega))
          clear HLV H2
          by_cases hge : i < ll
          · have g1 : (i : Int) < (ll : Int) := by omega
            have g2 : ¬ (i : Int) < 30 := by omega
            go_wp2_with fail
            go_meet
            exact ⟨_, _, HLVE⟩
          · obtain rfl : i = ll := by omega
            have g1 : ¬ (i : Int) < (i : Int) := by omega
            go_wp2_with fail
            go_meet
            exact ⟨_, _, HLVE⟩
    case rest =>
      obtain ⟨ch, V, HLVE⟩ := hcut
      clear H2
      have hbx := HLVE.out.bel
      have cf0 := (hbx.cell (p := ⟨B0, 0, none⟩) HB0.out).trans HC0.out
      have f50 := HF50.out
      clear hbx
      go_wp2_with fail
      refine (HLVE.out.fuse _ (by first | omega | (rw [HF50.out]; omega) | exact HFL.out.1)).mono ?_
      rintro e w4 ⟨rfl, h4, k4⟩
      have HL4 := hidm h4
      clear h4 k4 HLVE f50 cf0
      go_wp2_with fail
      refine (commit_h2 HL4.out (by omega)).mono ?_
      rintro e w5 ⟨c5, rfl, V1, V2, h5⟩
      have HH := hidm h5
      have HHbel := hidm h5.bel
      clear h5 HL4
      obtain ⟨nd, hnd, hdi, hcr⟩ := HH.out.crash
      have HDI := hidm hdi
      have HCR0 := hidm hcr
      clear hdi hcr
      obtain ⟨mm, hmm⟩ : ∃ mm, mm = min kn nd := ⟨_, rfl⟩
      have hmin : min (kn : Int) (nd : Int) = (mm : Int) := by omega
      have hmk : mm ≤ kn := by omega
      have hmd : mm ≤ nd := by omega
      have hnd9 : nd ≤ 9223372036854775807 := by omega
      have hkc0 : mm ≤ kc := by omega
      have HMK := hidm (show mm ≤ ks.length ∧ mm ≤ nd from ⟨by rw [← HKN.out]; exact hmk, hmd⟩)
      have HND := hidm hnd
      clear hmm hnd
      go_wp2_with fail
      refine HDI.out.mono ?_
      rintro e w6a ⟨vo6, vc6, rfl, hb10⟩
      have HB10 := hidm hb10
      clear hb10
      go_wp2_with fail
      have HLT := hidm (show (ks.take mm).length = mm from by rw [List.length_take]; have := HMK.out; omega)
      have hCR := HCR0.out w6a HB10.out (ks.take mm) ko kc (by rw [HLT.out]; exact HMK.out.2) (bools_take (HBO.out.later (HHbel.out.trans (HB10.out.mono HHbel.out.size))) mm HMK.out.1) (fun hne p hp => .inl (by
        obtain ⟨b9, o9, e9, hlt9, _⟩ := HBO.out.2.2 (fun e => hne (by rw [e]; simp))
        rw [e9] at hp
        cases hp
        exact hlt9))
      rw [HLT.out] at hCR
      have HCR := hidm hCR
      clear hCR HCR0 HDI
      refine HCR.out.mono ?_
      rintro e w6b ⟨rfl, hbk, hkq⟩
      have HKQ6 := hidm (show ∀ k : Nat, k < w5.heap.size → _ from fun k hb => HB10.out.block k hb)
      have HR6 := hidm (show ∃ V', Re w (fun _ => False) D 38 20 (2000 + 90000 + 3000) V' w6b from hbk.elim (fun h => ⟨_, h⟩) (fun h => ⟨_, h⟩))
      clear hbk hkq HCR HB10 HMK HLT HND hmin hmk hmd hnd9 hkc0
      obtain ⟨V, hr6⟩ := HR6.out
      have HR := hidm hr6
      have HRW := hidm hr6.bel.size
      clear hr6 HR6 HH HHbel HKQ6
      go_wp2_with fail
      refine HR.out.copy.mono ?_
      rintro e w7 ⟨rfl, h7, hb7⟩
      obtain ⟨O, hO⟩ : ∃ O, O = w6b.heap.size := ⟨_, rfl⟩
      rw [← hO] at h7 ⊢
      have HRO := hidm h7
      have HB7 := hidm hb7
      have HOL := hidm (show w6b.heap.size < w7.heap.size from by
        obtain ⟨d, ⟨⟨T, hT, _⟩, _, _⟩, _⟩ := h7.ex
        have := hT.lt O hT.tD
        omega)
      clear h7 hb7 hO
      go_wp2_with fail
      refine (HRO.out.open (by omega) (by omega) (by omega) 40 rfl).mono ?_
      rintro e w8 ⟨Pa, La, rfl, h8, _⟩
      have HA := hidm h8
      have HR8 := hidm ((HR.out.guard h8.bel).less (Q' := fun k => w6b.heap.size ≤ k ∧ k < w8.heap.size) (fun k hk => .inr hk))
      have HS8 := hidm (show w6b.heap.size < w8.heap.size from by
        have h1 := h8.kw
        omega)
      clear h8 HR HRO HB7 HOL
      have hbx := HR8.out.bel
      have cf1 := (hbx.cell (p := ⟨B0, 1, none⟩) HB0.out).trans HC1.out
      have f20 := HF20.out
      clear hbx
      go_wp2_with fail
      refine (HR8.out.fuse _ (by first | omega | (rw [HF20.out]; omega) | exact HFL.out.2)).mono ?_
      rintro e w9 ⟨rfl, ⟨d, hd1, hd2, hd3, hd4, hd5, hd6⟩, k9⟩
      have HK9 := hidm k9
      have HD9 := hidm (open_fused hd1 hd2 hd3 hd4 hd5 hd6 (by omega) (by omega) (by omega) 40 rfl)
      clear hd1 hd2 hd3 hd4 hd5 hd6 k9 cf1 f20
      go_wp2_with fail
      refine HD9.out.mono ?_
      rintro e w10 ⟨p10, c10, rfl, h10, k10⟩
      have HH := hidm h10
      have HHbel := hidm h10.bel
      have HK10 := hidm (HK9.out.trans k10)
      have HQL := hidm h10.qlt
      clear h10 k10 HK9 HD9
      obtain ⟨nd, hnd, hdi, hcr⟩ := HH.out.crash
      have HDI := hidm hdi
      have HCR0 := hidm hcr
      clear hdi hcr
      obtain ⟨mm, hmm⟩ : ∃ mm, mm = min kn nd := ⟨_, rfl⟩
      have hmin : min (kn : Int) (nd : Int) = (mm : Int) := by omega
      have hmk : mm ≤ kn := by omega
      have hmd : mm ≤ nd := by omega
      have hnd9 : nd ≤ 9223372036854775807 := by omega
      have hkc0 : mm ≤ kc := by omega
      have HMK := hidm (show mm ≤ ks.length ∧ mm ≤ nd from ⟨by rw [← HKN.out]; exact hmk, hmd⟩)
      have HND := hidm hnd
      clear hmm hnd
      go_wp2_with fail
      refine HDI.out.mono ?_
      rintro e w11a ⟨vo11, vc11, rfl, hb10⟩
      have HB10 := hidm hb10
      clear hb10
      go_wp2_with fail
      have HLT := hidm (show (ks.take mm).length = mm from by rw [List.length_take]; have := HMK.out; omega)
      have hCR := HCR0.out w11a HB10.out (ks.take mm) ko kc (by rw [HLT.out]; exact HMK.out.2) (bools_take (HBO.out.later (HHbel.out.trans (HB10.out.mono HHbel.out.size))) mm HMK.out.1) (fun hne p hp => .inl (by
        obtain ⟨b9, o9, e9, hlt9, _⟩ := HBO.out.2.2 (fun e => hne (by rw [e]; simp))
        rw [e9] at hp
        cases hp
        exact hlt9))
      rw [HLT.out] at hCR
      have HCR := hidm hCR
      clear hCR HCR0 HDI
      refine HCR.out.mono ?_
      rintro e w11b ⟨rfl, hbk, hkq⟩
      have HKQ11 := hidm (show ∀ k : Nat, k < w10.heap.size → _ from fun k hb => HB10.out.block k hb)
      have HR11 := hidm hbk
      have HK11 := hidm (HK10.out.trans ((show KeepQ _ w10 w11a from fun k hk => HKQ11.out k (HQL.out k hk)).trans hkq))
      clear hbk hkq HCR HB10 HMK HLT HND hmin hmk hmd hnd9 hkc0
      clear HH HHbel HKQ11 HQL HK10
      go_wp2_with fail
      refine (HR11.out.open (by omega) (by omega) (by omega) 40 rfl).mono ?_
      rintro e w12 ⟨Pb, Lb, rfl, h12, k12⟩
      have hk12 := HK11.out.trans k12
      have hs12 : w8.heap.size ≤ w12.heap.size := by
        have h1 := h12.qlt (w8.heap.size - 1) ⟨by have := HS8.out; omega, by have := HS8.out; omega⟩
        omega
      have HM := hidm (show Lv w (fun _ => False) Pa La O 38 20 _ true [] V w12 from HA.out.move (only_of (W := w) (B := w6b) hk12 (fun k h1 h2 => ⟨h1, h2⟩) HR8.out.bel h12.bel hs12) (fun k hk => hk) h12.bel HRW.out)
      have HB := hidm h12
      clear h12 k12 hk12 hs12 HR11 HK11 HA HR8 HS8
      go_wp2_with fail
      refine HM.out.pages.mono ?_
      rintro e w13 ⟨x13, rfl, ht13, hb13⟩
      obtain ⟨xo, xc, rfl, _, _⟩ := ht13.1.form
      rw [all_len]
      have HB13 := hidm (HB.out.guard hb13)
      have HT13 := hidm (ht13.mono (Q' := fun k => (w6b.heap.size ≤ k ∧ k < w8.heap.size) ∨ (w12.heap.size ≤ k ∧ k < w13.heap.size)) (fun k hk => .inr hk))
      clear ht13 hb13 HM HB
      go_wp2_with fail
      refine HB13.out.pagesQ.mono ?_
      rintro e w14 ⟨yo, yc, Q14, rfl, hq14, ht14, h14, k14⟩
      have HT14 := hidm ((HT13.out.keep k14).mono hq14)
      have HY14 := hidm ht14
      have H14 := hidm h14
      clear hq14 ht14 h14 k14 HT13 HB13
      go_wp2_with fail
      have hte := texts_any (all 20 (over [] V)) (all 20 (over [] V)) (.slice xo 20 xc) (.slice yo 20 yc) w14 rfl (by have h := HT14.out.1; rw [all_len] at h; exact h) HY14.out.1
      refine hte.mono ?_
      clear hte
      rintro e w15 ⟨rfl, hb15⟩
      rw [decide_eq_true (show all 20 (over [] V) = all 20 (over [] V) from rfl)]
      have HX := hidm (H14.out.later hb15)
      clear hb15 H14 HT14 HY14
      go_wp2_with fail
      refine (known_any _).mono ?_
      rintro e wk ⟨rfl, hb⟩
      have HB := hidm (HX.out.bel.trans (hb.mono HX.out.bel.size))
      clear hb
      go_wp2_with fail
      go_ret
      exact ⟨by trivial, HW0.out.trans (HB.out.mono HW0.out.size)⟩
theorem laidOut : laidOutB Tryz.prog = true := by kernel_rfl
set_option maxRecDepth 100000 in
theorem contract (H : Type) (enc : TypeId × Value → H) (W : World) (base : Nat) (args : Array Value) (ds gs : List (DataW H)) (before : List MemPlace)
    (hval : ∀ (j : Nat) t v, Tryz.f5.params[j]? = some t → args[j]? = some v → Value.okWide Tryz.prog W .any base t v)
    (hW : DataW.Whole enc Tryz.prog Tryz.f5.params.toList Rows.pagerAgainSpec.vars false W args.toList ds gs before) :
    Calls Tryz.prog 5 args W fun e W' => ∃ v, e = .returned v ∧ Rows.pagerAgainSpec.post enc Tryz.prog Tryz.f5 false true false false W args v W' := by
  have hW' := hW
  obtain ⟨p, q, hA0, hV, rfl, hfz, hnd⟩ := hW
  have hA : DataW.TrodAll enc Tryz.prog W 0 (fun _ => true) true Tryz.f5.params.toList args.toList ds p := hA0
  rw [Tryz.params5] at hA hval
  obtain ⟨v0, vs0, d0, ds0, p0, q0, hargs, rfl, rfl, h0, r0⟩ := trodAll_cons hA
  obtain ⟨v1, vs1, d1, ds1, p1, q1, rfl, rfl, rfl, h1, r1⟩ := trodAll_cons r0
  obtain ⟨v2, vs2, d2, ds2, p2, q2, rfl, rfl, rfl, h2, r2⟩ := trodAll_cons r1
  obtain ⟨rfl, rfl, rfl⟩ := trodAll_nil r2
  obtain rfl : args = #[v0, v1, v2] := by cases args; simp_all
  obtain ⟨rfl, rfl⟩ := trodVars_none hV
  obtain ⟨l, hml, hnl⟩ := open_ops (hval 0 23 v0 rfl rfl) h0
  obtain ⟨x1a, x1b, rfl, bx1⟩ := Dsk.open_pair (hval 1 22 v1 rfl rfl) h1
  obtain ⟨x2, x2o, x2c, rfl, hmx2⟩ := open_bools (hval 2 37 v2 rfl rfl) h2
  clear hA0
  simp only [List.append_nil] at hW'
  have hlt : ∀ x ∈ p0 ++ p1 ++ p2, x.block < W.heap.size := fun x hx => hW'.lt x (by simpa using hx)
  have walk := law_any l _ x1a x1b x2 x2o x2c W hml hnl bx1.1 bx1.2 hmx2
  refine walk.mono fun e W' ⟨he, hg⟩ => ?_
  subst he
  refine ⟨_, rfl, Fr.post_made (pa := p0 ++ (p1 ++ p2)) (pv := []) hW' (fun _ _ _ => trodAll_cons_mk (shut_bool Tryz.underlying4 _) trodAll_mk0) (fun sp hsp => ?_) (fun _ _ => rfl) (by simp) hg (ok_one (by kernel_rfl) rfl (okWide_bool_mk Tryz.underlying4 _))⟩
  have g0 : DataW.Trod enc Tryz.prog W' 0 sp true 23 _ d0 p0 := WideElems.Trod_stays laidOut (by kernel_rfl) (of_decide_eq_true (by kernel_rfl)) h0 (fun x hx => hg.same (hlt x (by simp [hx]))) (fun x hx => hsp x (by simp [hx]))
  have g1 : DataW.Trod enc Tryz.prog W' 0 sp true 22 _ d1 p1 := WideElems.Trod_stays laidOut (by kernel_rfl) (of_decide_eq_true (by kernel_rfl)) h1 (fun x hx => hg.same (hlt x (by simp [hx]))) (fun x hx => hsp x (by simp [hx]))
  have g2 : DataW.Trod enc Tryz.prog W' 0 sp true 37 _ d2 p2 := WideElems.Trod_stays laidOut (by kernel_rfl) (of_decide_eq_true (by kernel_rfl)) h2 (fun x hx => hg.same (hlt x (by simp [hx]))) (fun x hx => hsp x (by simp [hx]))
  have hT := (trodAll_cons_mk g0 (trodAll_cons_mk g1 (trodAll_cons_mk g2 trodAll_mk0)))
  simp only [List.append_nil] at hT
  exact hT
set_option maxRecDepth 100000 in
theorem reads (os : Os) {H : Type} (enc : TypeId × Value → H) : ∃ places, DataW.whole enc Tryz.prog ((World.laidAll Tryz.prog os Rows.pagerAgainRow.laid).forCall (fun _ _ => 0) ⟨#[], #[.slice none 0 0, .agg #[.int .u8 0, .int .u8 0], .slice none 0 0], []⟩).memory Tryz.f5.params.toList Rows.pagerAgainSpec.vars false (#[.slice none 0 0, .agg #[.int .u8 0, .int .u8 0], .slice none 0 0] : Array Value).toList 8 = some ([.nil, .agg [.lit (.int .u8 0), .lit (.int .u8 0)], .nil], [], places) :=
  ⟨[], by kernel_rfl⟩
set_option maxRecDepth 100000 in
theorem lifted (os : Os) (started : os.Started) (H : Type) (enc : TypeId × Value → H) (F : Stop.Interp) :
    ReturnsInHanded {} Tryz.checked os 5 .any ((OpenSpec.ofChange Rows.pagerAgainSpec).preRow enc Tryz.prog Tryz.f5 Rows.pagerAgainRow.domain false Rows.pagerAgainRow.laid) (((OpenSpec.ofChange Rows.pagerAgainSpec).at F).post enc Tryz.prog Tryz.f5 false true false false) := by
  obtain ⟨places, hx⟩ := reads os enc
  refine returnsInHanded_of_row (C := Tryz.checked) (s := OpenSpec.ofChange Rows.pagerAgainSpec) Fr.own started (by kernel_rfl) Tryz.func5
    (Fr.wit (World.laidAll Tryz.prog os Rows.pagerAgainRow.laid) #[.slice none 0 0, .agg #[.int .u8 0, .int .u8 0], .slice none 0 0] (World.laidAll_os _ _ _) (World.shaped_of_ZipB (by kernel_rfl) (by kernel_rfl)) (by kernel_rfl)
      (OpenSpec.preRow_of_cond 8 hx (by kernel_rfl) (fun k hk => by cases hk) (by kernel_rfl) (laidMet_laidAll _ (by kernel_rfl) (by kernel_rfl)))) ?_
  intro W base args ds gs before hval hW _ _ _ _ _ _
  exact contract H enc W base args ds gs before hval hW
set_option maxRecDepth 100000 in
theorem said : Rows.PagerAgainSaid :=
  OpenClaim.holds_of_cond 5 Tryz.f5 rfl rfl rfl rfl rfl rfl rfl ⟨rfl, rfl, rfl, rfl, rfl⟩ rfl rfl rfl rfl rfl (by kernel_rfl) Tryz.func5 (by kernel_rfl)
    (of_decide_eq_true (by kernel_rfl)) (by unfold Func.isWrapper; first | (rw [if_pos (by decide +kernel)]; kernel_rfl) | (rw [if_neg (by decide +kernel)]; exact ⟨rfl, rfl⟩))
    (fun os started H enc _ F => by rw [OpenClaim.pre_eq_preRow]; exact lifted os started H enc F)
set_option maxRecDepth 100000 in
theorem plain (f : FuncId) (fn : Func) (hf : Tryz.pinned.checked.prog.funcNamed "memoir/memoirlaw09.PagerAgain" = some f) (hfn : Tryz.pinned.checked.prog.funcs[f]? = some fn) :
    true = Tryz.pinned.checked.prog.looks [] ∧ ∀ (j : Nat) t, fn.params[j]? = some t → Tryz.pinned.checked.prog.wantsStandIn t = false := by
  obtain rfl : f = 5 := Option.some.inj ((show Tryz.prog.funcNamed "memoir/memoirlaw09.PagerAgain" = some 5 by kernel_rfl).symm.trans hf) |>.symm
  obtain rfl : fn = Tryz.f5 := (Option.some.inj (Tryz.func5.symm.trans hfn)).symm
  refine ⟨by kernel_rfl, fun j t ht => ?_⟩
  rw [Tryz.params5] at ht
  have hm := Array.mem_of_getElem? ht
  simp only [List.mem_toArray, List.mem_cons, List.not_mem_nil, or_false] at hm
  rcases hm with rfl | rfl | rfl
  all_goals first | exact (show Tryz.prog.wantsStandIn 37 = false by kernel_rfl) | exact (show Tryz.prog.wantsStandIn 23 = false by kernel_rfl) | exact (show Tryz.prog.wantsStandIn 22 = false by kernel_rfl)
set_option maxRecDepth 100000 in
theorem card : Rows.PagerAgainCardSaid :=
  Claim7.holds_tied_plain_at .later [] _ _ _ _ said (fun _ h => by cases h) (by kernel_rfl) (fun _ h => by cases h) pagerAgain_row_tie rfl ⟨rfl, rfl⟩ (by kernel_rfl) rfl plain (by kernel_rfl)
end LaPagerAgain
end Go.Proofs.YtkgbemkcnahkoaaGreatDoor
