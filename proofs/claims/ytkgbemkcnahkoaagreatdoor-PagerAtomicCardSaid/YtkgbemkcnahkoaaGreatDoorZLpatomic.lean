/- PagerAtomic is proved: for every two scripts and every fuse the law returns true and its arguments read as they did. No other condition. -/
import Derived.Test.YtkgbemkcnahkoaaGreatDoorZPw
import Derived.Test.YtkgbemkcnahkoaaGreatDoorZMan
import Derived.Test.YtkgbemkcnahkoaaGreatDoorZFrdto
import Derived.Deep.DeepCutAuto
import Derived.Deep.CutBlock
import Derived.WideKeyPair
import Derived.SizedLaws
namespace Go.Proofs.YtkgbemkcnahkoaaGreatDoor
open Go.ChangeShapes Go.WideShapes Go.ChangeAt Go.RowKit
open Go.ChangeMaps (open_string shut_string)
namespace LaPagerAtomic
open Pgr
open Dsk (PD Mine KeepQ DiskIs Only Grow upd pad BoolsAt NotGiven zeros open_ops open_bools OpsAt Opv)
open Crc (S S_of S_size)
theorem tmod50 (a : Nat) : ((a : Int).tmod 50) = ((a % 50 : Nat) : Int) := by
  rw [Int.tmod_eq_emod_of_nonneg (by omega)]; omega
theorem wp_append_run {o : Oper} {a : Act} {K : Act → World → Prop} {Q : Exit → Act → World → Prop} {w w' : World} {s y : Operand} {vs vy v' : Value}
    (ho : o.op = .call { callee := .builtin .append, args := #[s, y], argTypes := #[37, 37] }) (he : a.eval s = vs ∧ a.eval y = vy)
    (hr : (Builtin.append_ #[37, 37] o.type #[vs, vy]).run Tryz.prog w = .ok v' w') (hK : K (a.put o.dst v') w') : o.wp Tryz.prog a w K Q := by
  unfold Oper.wp execOp
  simp only [ho, resolve, invoke, builtin, Sem.run_bind, Sem.run_pure, Result.andThen_ok, List.map_toArray, List.map_cons, List.map_nil, he.1, he.2, hr]
  exact hK
/-- What holds behind i calls of the second script. -/
structure Inv (w : World) (Q : Nat → Prop) (P L D i : Nat) (V : Nat → List UInt8) (wv kv : Value) (kn : Nat) (wr : World) : Prop where
  lv : ∃ ch, Lv w Q P L D 38 20 92000 true ch V wr
  ra : TextsQ Q (all 20 V) wv wr
  rk : ∃ ks, BoolsQ w.heap.size Q ks kv wr ∧ kn = ks.length
  few : kn ≤ 20 * i
set_option maxHeartbeats 16000000 in
set_option maxRecDepth 100000 in
theorem law_any (bs ss : List Opv) (v0 v1 : Value) (f : Nat) (w : World) (hf : (f : Int) ≤ 255) (hl : OpsAt bs v0 w) (hin : ∀ x ∈ bs, x.inn) (hs : OpsAt ss v1 w) (his : ∀ x ∈ ss, x.inn) :
    Calls Tryz.prog 4 #[v0, v1, .int .u8 (f : Int)] w fun e w' => e = .returned (.bool true) ∧ Below w.heap.size w w' := by
  have N0 := hidm (Dsk.m_new (W := w) (w := w) 60 (by omega) (by omega) (Below.refl _ _))
  have HIN := hidm hin
  have HINS := hidm his
  obtain ⟨lo, lc, rfl, hlc, hlcm⟩ := hl.form
  obtain ⟨ll, hll⟩ : ∃ n, n = bs.length := ⟨_, rfl⟩
  have HLLll := hidm hll
  have HSLll := hidm hl
  rw [← hll]
  have hll2 : ll ≤ 9223372036854775807 := by omega
  clear hl hll hlc hlcm
  obtain ⟨so, sc, rfl, hsc, hscm⟩ := hs.form
  obtain ⟨sl, hsl⟩ : ∃ n, n = ss.length := ⟨_, rfl⟩
  have HLLsl := hidm hsl
  have HSLsl := hidm hs
  rw [← hsl]
  have hsl2 : sl ≤ 9223372036854775807 := by omega
  clear hs hsl hsc hscm
  clear hin his
  have f50 := tmod50 f
  go_enter Tryz.func4, Tryz.ntmps4
  go_wp2_with fail
  refine N0.out.mono ?_
  rintro e w1 ⟨rfl, hm1, hb1⟩
  have R1 := hidm (Re.new (n := 38) (N := 20) (by omega) hm1)
  obtain ⟨D, hD⟩ : ∃ D, D = w.heap.size + 1 := ⟨_, rfl⟩
  rw [← hD] at R1 ⊢
  clear hD hm1 hb1 N0
  go_wp2_with fail
  refine (R1.out.open (by omega) (by omega) (by omega) 40 rfl).mono ?_
  rintro e w2 ⟨P, L, rfl, h2, _⟩
  have H2 := hidm (show Lv w (fun _ => False) P L D 38 20 2000 true [] (fun _ => zeros) w2 from h2.more (by omega))
  clear h2 R1
  go_upto_block 0 with fail
  go_cut [11] (fun _ wx => ∃ (ch : Ch) (V : Nat → List UInt8), Hid (Lv w (fun _ => False) P L D 38 20 (2000 + 90000) true ch V wx))
  case first =>
    go_wp2_with fail
    go_loopw [11] (fun ii wr => ∃ (i : Nat) (ch : Ch) (V : Nat → List UInt8), ii = .int .i64 i ∧ i ≤ ll ∧ i ≤ 30 ∧ Hid (Lv w (fun _ => False) P L D 38 20 (2000 + 3000 * i) true ch V wr)) (fun ii _ => (ll - (intOf ii).toNat))
    case atStart => exact ⟨0, _, _, rfl, by omega, by omega, H2⟩
    case round =>
      rename World => wr
      obtain ⟨i, ch, V, rfl, hi, hi3, HLV⟩ := hrel
      by_cases hlt : i < ll ∧ i < 30
      · obtain ⟨hlt, hlt2⟩ := hlt
        have g1 : (i : Int) < (ll : Int) := by omega
        have g2 : (i : Int) < 30 := by omega
        have hil : i < bs.length := by rw [← HLLll.out]; exact hlt
        obtain ⟨b', o, cp, he, hbl, q0, q1, q2, q3⟩ := HSLll.out.at i hil
        have HXI0 := HIN.out _ (List.getElem_mem hil)
        have he2 : (Value.slice lo ll lc) = .slice (some ⟨b', o, none⟩) bs.length cp := by rw [HLLll.out]; exact he
        simp only [Value.slice.injEq] at he2
        obtain ⟨rfl, -, rfl⟩ := he2
        clear he
        obtain ⟨x, hx⟩ : ∃ x, x = bs[i] := ⟨_, rfl⟩
        rw [← hx] at q0 q1 q2 q3 HXI0
        have HXI := hidm HXI0
        clear hx HXI0
        have hbel := HLV.out.bel
        have c0 := (hbel.cell (p := ⟨b', o + i * 4, none⟩) hbl).trans q0
        have c1 := (hbel.cell (p := ⟨b', o + i * 4 + 1, none⟩) hbl).trans q1
        have c2 := (hbel.cell (p := ⟨b', o + i * 4 + 2, none⟩) hbl).trans q2
        have c3 := (hbel.cell (p := ⟨b', o + i * 4 + 3, none⟩) hbl).trans q3
        have i1 : (i : Int) + 1 = ((i + 1 : Nat) : Int) := by omega
        obtain ⟨j, hj⟩ : ∃ j, j = i + 1 := ⟨_, rfl⟩
        rw [← hj] at i1
        have i1w : IntKind.i64.wrap (j : Int) = (j : Int) := by simp only [IntKind.wrap_i64]; omega
        have HJ := hidm hj
        have HJ2 := hidm (show j ≤ ll ∧ j ≤ 30 from by omega)
        clear hj hbel q0 q1 q2 q3
        by_cases hkd : x.kind < 5
        · have HKD := hidm hkd
          by_cases hsz : x.s.size < 200
          · have g3 : (x.s.size : Int) < 200 := by omega
            clear hsz
            go_wp2_with fail
            refine (HLV.out.do_all x HXI.out (by omega) HLV.out.fits (by omega)).mono ?_
            rintro e w3 ⟨a, c, sx, ch3, V3, rfl, h3, k3⟩
            have H3 := hidm h3
            clear h3 k3 c0 c1 c2 c3
            go_wp2_with fail
            go_roundw
            case rel => exact ⟨j, ch3, V3, rfl, HJ2.out.1, HJ2.out.2, hidm (H3.out.more (by rw [HJ.out]; omega))⟩
            case measure => have := HJ.out; simp [intOf]; omega
          · have g3 : ¬ (x.s.size : Int) < 200 := by omega
            clear hsz
            go_wp2_with fail
            go_roundw
            case rel => exact ⟨j, ch, V, rfl, HJ2.out.1, HJ2.out.2, hidm (HLV.out.more (by rw [HJ.out]; omega))⟩
            case measure => have := HJ.out; simp [intOf]; omega
        · go_wp2_with fail
          go_roundw
          case rel => exact ⟨j, ch, V, rfl, HJ2.out.1, HJ2.out.2, hidm (HLV.out.more (by rw [HJ.out]; omega))⟩
          case measure => have := HJ.out; simp [intOf]; omega
      · have HLVE := hidm (show Lv w (fun _ => False) P L D 38 20 (2000 + 90000) true ch V wr from HLV.out.more (by omega))
        clear HLV H2
        by_cases hge : i < ll
        · have g1 : (i : Int) < (ll : Int) := by omega
          have g2 : ¬ (i : Int) < 30 := by omega
          go_wp2_with fail
          go_meet
          exact ⟨_, _, HLVE⟩
        · obtain rfl : i = ll := by omega
          have g1 : ¬ (i : Int) < (i : Int) := by omega
          go_wp2_with fail
          go_meet
          exact ⟨_, _, HLVE⟩
  case rest =>
    obtain ⟨ch, V, HLVE⟩ := hcut
    clear H2
    go_wp2_with fail
    refine HLVE.out.abort.mono ?_
    rintro e w4 ⟨rfl, h4, k4⟩
    have HL4 := hidm h4
    clear h4 k4 HLVE
    obtain ⟨V1, hV1⟩ : ∃ V1, V1 = V := ⟨_, rfl⟩
    rw [← hV1] at HL4
    clear hV1
    go_wp2_with fail
    refine HL4.out.pagesQ.mono ?_
    rintro e w5 ⟨wo, wcap, Q5, rfl, _, ht5, h5, _⟩
    have HL5 := hidm h5
    have HW5 := hidm (show TextsQ Q5 (all 20 V1) (.slice wo 20 wcap) w5 from ht5)
    clear ht5 h5 HL4
    go_upto_block 2 with fail
    go_cut [13, 14] (fun kv _ wx => ∃ (ko0 : Option Addr) (kn kc0 : Nat) (Q : Nat → Prop), kv = .slice ko0 kn kc0 ∧ Hid (Inv w Q P L D 30 V1 (.slice wo 20 wcap) (.slice ko0 kn kc0) kn wx))
    case first =>
      go_wp2_with fail
      go_loopw [13, 14] (fun kv ii wr => ∃ (i : Nat) (ko0 : Option Addr) (kn kc0 : Nat) (Q : Nat → Prop), kv = .slice ko0 kn kc0 ∧ ii = .int .i64 i ∧ i ≤ sl ∧ i ≤ 30 ∧ Hid (Inv w Q P L D i V1 (.slice wo 20 wcap) (.slice ko0 kn kc0) kn wr)) (fun _ ii _ => (sl - (intOf ii).toNat))
      case atStart => exact ⟨0, none, 0, 0, _, rfl, rfl, by omega, by omega, hidm ⟨⟨_, HL5.out⟩, HW5.out, ⟨[], BoolsQ.nil _ _ _, rfl⟩, by omega⟩⟩
      case round =>
        rename World => wr
        obtain ⟨i, ko0, kn, kc0, Q, rfl, rfl, hi, hi3, HINV⟩ := hrel
        by_cases hlt : i < sl ∧ i < 30
        · obtain ⟨hlt, hlt2⟩ := hlt
          have g1 : (i : Int) < (sl : Int) := by omega
          have g2 : (i : Int) < 30 := by omega
          have hil : i < ss.length := by rw [← HLLsl.out]; exact hlt
          obtain ⟨b', o, cp, he, hbl, q0, q1, q2, q3⟩ := HSLsl.out.at i hil
          have HXI0 := HINS.out _ (List.getElem_mem hil)
          have HBO := hidm (HSLsl.out.bools i hil)
          have he2 : (Value.slice so sl sc) = .slice (some ⟨b', o, none⟩) ss.length cp := by rw [HLLsl.out]; exact he
          simp only [Value.slice.injEq] at he2
          obtain ⟨rfl, -, rfl⟩ := he2
          clear he
          obtain ⟨x, hx⟩ : ∃ x, x = ss[i] := ⟨_, rfl⟩
          rw [← hx] at q0 q1 q2 q3 HXI0 HBO
          have HXI := hidm HXI0
          clear hx HXI0
          obtain ⟨ch, hlv⟩ := HINV.out.lv
          obtain ⟨ks0, hks0, hkn0⟩ := HINV.out.rk
          have HLV := hidm hlv
          have HRA := hidm HINV.out.ra
          have HRK := hidm hks0
          have HKN := hidm (show kn = ks0.length ∧ kn ≤ 20 * i from ⟨hkn0, HINV.out.few⟩)
          clear hlv hks0 hkn0 HINV
          obtain ⟨sn, hsn⟩ : ∃ n, n = x.ks.length := ⟨_, rfl⟩
          obtain ⟨kc, hkc⟩ : ∃ c, c = x.kc := ⟨_, rfl⟩
          obtain ⟨ko, hko⟩ : ∃ c, c = x.ko := ⟨_, rfl⟩
          have hk9 : sn ≤ kc ∧ kc ≤ 9223372036854775807 := by rw [hsn, hkc]; exact ⟨HBO.out.1, HBO.out.2.1⟩
          rw [← hsn, ← hkc, ← hko] at q3
          rw [← hkc, ← hko] at HBO
          have HOPV := hidm (show opV x = .agg #[.int .i64 x.kind, .int .i64 x.pos, .string x.s, .slice ko sn kc] from by rw [hsn, hkc, hko]; rfl)
          obtain ⟨m2, hm2⟩ : ∃ m, m = min sn 20 := ⟨_, rfl⟩
          have HM2 := hidm (show m2 ≤ x.ks.length from by rw [← hsn]; omega)
          have HM2b := hidm (show m2 ≤ 20 from by omega)
          have HBT2 := hidm (show (x.ks.take m2).length = m2 from by rw [List.length_take, ← hsn]; omega)
          have hmin : min (sn : Int) 20 = (m2 : Int) := by omega
          have hm2a : m2 ≤ sn := by omega
          have hm2b : m2 ≤ kc := by omega
          have hbel := HLV.out.bel
          have HBL := hidm hbl
          have HQ3 := hidm q3
          have c0 := (hbel.cell (p := ⟨b', o + i * 4, none⟩) hbl).trans q0
          have c1 := (hbel.cell (p := ⟨b', o + i * 4 + 1, none⟩) hbl).trans q1
          have c2 := (hbel.cell (p := ⟨b', o + i * 4 + 2, none⟩) hbl).trans q2
          have c3 := (hbel.cell (p := ⟨b', o + i * 4 + 3, none⟩) hbl).trans q3
          have i1 : (i : Int) + 1 = ((i + 1 : Nat) : Int) := by omega
          obtain ⟨j, hj⟩ : ∃ j, j = i + 1 := ⟨_, rfl⟩
          rw [← hj] at i1
          have i1w : IntKind.i64.wrap (j : Int) = (j : Int) := by simp only [IntKind.wrap_i64]; omega
          have HJ := hidm hj
          have HJ2 := hidm (show j ≤ sl ∧ j ≤ 30 from by omega)
          clear hj hbel q0 q1 q2 q3 hsn hkc hko hm2 hbl
          by_cases hkd : x.kind < 3
          · have HKD := hidm hkd
            by_cases hsz : x.s.size < 200
            · have g3 : (x.s.size : Int) < 200 := by omega
              clear hsz
              go_wp2_with fail
              rw [← HOPV.out]
              refine (HLV.out.do x HXI.out (by have := HKD.out; omega)).mono ?_
              rintro e w3 ⟨a, c, sx, ch3, rfl, h3, k3⟩
              have HL3 := hidm h3
              have HW3 := hidm (HRA.out.keep k3)
              have HK3 := hidm (HRK.out.keep k3)
              clear h3 k3 c0 c1 c2 c3
              go_upto_region 20 with fail
              have HDR := hidm ((Below.refl w3.heap.size w3).drew)
              have HLd := hidm (HL3.out.later HDR.out)
              have HWd := hidm (HW3.out.keep (HL3.out.kept HDR.out))
              have HBKd := hidm (HK3.out.keep (HL3.out.kept HDR.out))
              have HSZd := hidm (show w.heap.size ≤ w3.drew.heap.size from HLd.out.bel.size)
              have HBT := hidm (bools_take (HBO.out.later HLd.out.bel) m2 HM2.out)
              have HCL := hidm (fun (u : World) (hg : World.grownBy w3.drew u (Value.slice ko0 kn kc0).ownBlock) => (show u.cell? ⟨b', o + i * 4 + 3, none⟩ = some (.slice ko sn kc) from by
                rw [hg.cell_far _ (by exact Nat.lt_of_lt_of_le HBL.out HSZd.out) (fun e => by
                  have := (HBKd.out.inq b' e.symm).2
                  have := HBL.out
                  omega), HLd.out.bel.cell (p := ⟨b', o + i * 4 + 3, none⟩) HBL.out]
                exact HQ3.out))
              refine wp_region_held_drew (S := fun u => u.cell? ⟨b', o + i * 4 + 3, none⟩ = some (.slice ko sn kc)) (by kernel_rfl) (by rw [HLd.out.bel.cell (p := ⟨b', o + i * 4 + 3, none⟩) HBL.out]; exact HQ3.out) (fun hHeld => ?_)
              refine Man.take1 (i := 0) (v := ?_) rfl (by kernel_rfl) (by kernel_rfl) (by kernel_rfl) (fun _ _ _ h => h) (by rfl) ?_ (by assumption) ?_
              rotate_left
              · (intro u hSu; (try dsimp only at hSu); go_simp; (try with_reducible rfl))
              (try simp only [Act.put, List.setIfInBounds_toArray, List.set_cons_zero, List.set_cons_succ])
              refine Man.take1 (i := 1) (v := ?_) rfl (by kernel_rfl) (by kernel_rfl) (by kernel_rfl) (fun _ _ _ h => h) (by rfl) ?_ (by assumption) ?_
              rotate_left
              · (intro u hSu; (try dsimp only at hSu); go_simp; (try with_reducible rfl))
              (try simp only [Act.put, List.setIfInBounds_toArray, List.set_cons_zero, List.set_cons_succ])
              refine Man.take1 (i := 2) (v := ?_) rfl (by kernel_rfl) (by kernel_rfl) (by kernel_rfl) (fun _ _ _ h => h) (by rfl) ?_ (by assumption) ?_
              rotate_left
              · (intro u hSu; (try dsimp only at hSu); go_simp; (try with_reducible rfl))
              (try simp only [Act.put, List.setIfInBounds_toArray, List.set_cons_zero, List.set_cons_succ])
              refine Man.take1 (i := 3) (v := ?_) rfl (by kernel_rfl) (by kernel_rfl) (by kernel_rfl) (fun _ _ _ h => h) (by rfl) ?_ (by assumption) ?_
              rotate_left
              · (intro u hSu; (try dsimp only at hSu); go_simp; (try with_reducible rfl))
              (try simp only [Act.put, List.setIfInBounds_toArray, List.set_cons_zero, List.set_cons_succ])
              refine Man.take1 (i := 4) (v := ?_) rfl (by kernel_rfl) (by kernel_rfl) (by kernel_rfl) (fun _ _ _ h => h) (by rfl) ?_ (by assumption) ?_
              rotate_left
              · (intro u hSu; (try dsimp only at hSu); go_simp; (try with_reducible rfl))
              (try simp only [Act.put, List.setIfInBounds_toArray, List.set_cons_zero, List.set_cons_succ])
              refine Man.take1 (i := 5) (v := ?_) rfl (by kernel_rfl) (by kernel_rfl) (by kernel_rfl) (fun _ _ _ h => h) (by rfl) ?_ (by assumption) ?_
              rotate_left
              · (intro u hSu; (try dsimp only at hSu); go_simp; (try with_reducible rfl))
              (try simp only [Act.put, List.setIfInBounds_toArray, List.set_cons_zero, List.set_cons_succ])
              refine Man.take1 (i := 6) (v := ?_) rfl (by kernel_rfl) (by kernel_rfl) (by kernel_rfl) (fun _ _ _ h => h) (by rfl) ?_ (by assumption) ?_
              rotate_left
              · (intro u hSu; (try dsimp only at hSu); go_simp; (try with_reducible rfl))
              (try simp only [Act.put, List.setIfInBounds_toArray, List.set_cons_zero, List.set_cons_succ])
              refine Man.take1 (i := 7) (v := ?_) rfl (by kernel_rfl) (by kernel_rfl) (by kernel_rfl) (fun _ _ _ h => h) (by rfl) ?_ (by assumption) ?_
              rotate_left
              · (intro u hSu; (try dsimp only at hSu); go_simp; (try with_reducible rfl))
              (try simp only [Act.put, List.setIfInBounds_toArray, List.set_cons_zero, List.set_cons_succ])
              refine Man.take1 (i := 8) (v := ?_) rfl (by kernel_rfl) (by kernel_rfl) (by kernel_rfl) (fun _ _ _ h => h) (by rfl) ?_ (by assumption) ?_
              rotate_left
              · (intro u hSu; (try dsimp only at hSu); go_simp; (try with_reducible rfl))
              (try simp only [Act.put, List.setIfInBounds_toArray, List.set_cons_zero, List.set_cons_succ])
              refine Man.take1 (i := 9) (v := ?_) rfl (by kernel_rfl) (by kernel_rfl) (by kernel_rfl) (fun _ _ _ h => h) (by rfl) ?_ (by assumption) ?_
              rotate_left
              · (intro u hSu; (try dsimp only at hSu); go_simp; (try with_reducible rfl))
              (try simp only [Act.put, List.setIfInBounds_toArray, List.set_cons_zero, List.set_cons_succ])
              refine Man.take1 (i := 10) (v := ?_) rfl (by kernel_rfl) (by kernel_rfl) (by kernel_rfl) (fun _ _ _ h => h) (by rfl) ?_ (by assumption) ?_
              rotate_left
              · (intro u hSu; (try dsimp only at hSu); go_simp; (try with_reducible rfl))
              (try simp only [Act.put, List.setIfInBounds_toArray, List.set_cons_zero, List.set_cons_succ])
              refine Man.take1 (i := 11) (v := ?_) rfl (by kernel_rfl) (by kernel_rfl) (by kernel_rfl) (fun _ _ _ h => h) (by rfl) ?_ (by assumption) ?_
              rotate_left
              · (intro u hSu; (try dsimp only at hSu); go_simp; (try with_reducible rfl))
              (try simp only [Act.put, List.setIfInBounds_toArray, List.set_cons_zero, List.set_cons_succ])
              refine Man.take1 (i := 12) (v := ?_) rfl (by kernel_rfl) (by kernel_rfl) (by kernel_rfl) (fun _ _ _ h => h) (by rfl) ?_ (by assumption) ?_
              rotate_left
              · (intro u hSu; (try dsimp only at hSu); go_simp; (try with_reducible rfl))
              (try simp only [Act.put, List.setIfInBounds_toArray, List.set_cons_zero, List.set_cons_succ])
              refine Man.take1 (i := 13) (v := ?_) rfl (by kernel_rfl) (by kernel_rfl) (by kernel_rfl) (fun _ _ _ h => h) (by rfl) ?_ (by assumption) ?_
              rotate_left
              · (intro u hSu; (try dsimp only at hSu); go_simp; (try with_reducible rfl))
              (try simp only [Act.put, List.setIfInBounds_toArray, List.set_cons_zero, List.set_cons_succ])
              refine Man.one (i := 14) rfl (by kernel_rfl) (fun K hK => ?_)
              have hAP := bools_append HBKd.out (x.ks.take m2) ko kc HBT.out (by rw [HBT2.out, ← HKN.out.1]; have := HKN.out.2; omega) HSZd.out 37
              rw [HBT2.out] at hAP
              obtain ⟨v', wA, hrun, hbq, hgr⟩ := hAP
              refine wp_append_run rfl ⟨rfl, rfl⟩ hrun ?_
              have HBQ := hidm hbq
              have HGR := hidm hgr
              clear hbq hgr hrun
              refine hK.out _ _ (HCL.out _ HGR.out) (fun hNew => ?_)
              clear hK K hHeld
              have hHeld := hNew
              clear hNew
              (try simp only [Act.put, List.setIfInBounds_toArray, List.set_cons_zero, List.set_cons_succ])
              refine Man.take1 (i := 15) (v := ?_) rfl (by kernel_rfl) (by kernel_rfl) (by kernel_rfl) (fun _ _ _ h => h) (by rfl) ?_ (by assumption) ?_
              rotate_left
              · (intro u hSu; (try dsimp only at hSu); go_simp; (try with_reducible rfl))
              (try simp only [Act.put, List.setIfInBounds_toArray, List.set_cons_zero, List.set_cons_succ])
              refine wpAnyH_done (by kernel_rfl) ?_ _
              have HL9 := hidm (HLd.out.grown HBKd.out HGR.out)
              have HW9 := hidm (HWd.out.grown HBKd.out HGR.out)
              obtain ⟨k9, c9, hv9, _, _⟩ := HBQ.out.form
              have hkl9 : (ks0 ++ x.ks.take m2).length = kn + m2 := by rw [List.length_append, HBT2.out, ← HKN.out.1]
              clear hHeld
              rw [hkl9] at hv9
              subst hv9
              have HKL9 := hidm hkl9
              clear hkl9
              go_wp2_with fail
              go_roundw
              case rel => exact ⟨j, k9, kn + m2, c9, _, rfl, rfl, HJ2.out.1, HJ2.out.2, hidm ⟨⟨_, HL9.out⟩, HW9.out.mono (fun k hk => .inl hk), ⟨_, HBQ.out, HKL9.out.symm⟩, by have := HKN.out.2; have := HM2b.out; rw [HJ.out]; omega⟩⟩
              case measure => have := HJ.out; simp [intOf]; omega
            · have g3 : ¬ (x.s.size : Int) < 200 := by omega
              clear hsz
              go_wp2_with fail
              go_upto_region 20 with fail
              have HDR := hidm ((Below.refl wr.heap.size wr).drew)
              have HLd := hidm (HLV.out.later HDR.out)
              have HWd := hidm (HRA.out.keep (HLV.out.kept HDR.out))
              have HBKd := hidm (HRK.out.keep (HLV.out.kept HDR.out))
              have HSZd := hidm (show w.heap.size ≤ wr.drew.heap.size from HLd.out.bel.size)
              have HBT := hidm (bools_take (HBO.out.later HLd.out.bel) m2 HM2.out)
              have HCL := hidm (fun (u : World) (hg : World.grownBy wr.drew u (Value.slice ko0 kn kc0).ownBlock) => (show u.cell? ⟨b', o + i * 4 + 3, none⟩ = some (.slice ko sn kc) from by
                rw [hg.cell_far _ (by exact Nat.lt_of_lt_of_le HBL.out HSZd.out) (fun e => by
                  have := (HBKd.out.inq b' e.symm).2
                  have := HBL.out
                  omega), HLd.out.bel.cell (p := ⟨b', o + i * 4 + 3, none⟩) HBL.out]
                exact HQ3.out))
              refine wp_region_held_drew (S := fun u => u.cell? ⟨b', o + i * 4 + 3, none⟩ = some (.slice ko sn kc)) (by kernel_rfl) (by rw [HLd.out.bel.cell (p := ⟨b', o + i * 4 + 3, none⟩) HBL.out]; exact HQ3.out) (fun hHeld => ?_)
              refine Man.take1 (i := 0) (v := ?_) rfl (by kernel_rfl) (by kernel_rfl) (by kernel_rfl) (fun _ _ _ h => h) (by rfl) ?_ (by assumption) ?_
              rotate_left
              · (intro u hSu; (try dsimp only at hSu); go_simp; (try with_reducible rfl))
              (try simp only [Act.put, List.setIfInBounds_toArray, List.set_cons_zero, List.set_cons_succ])
              refine Man.take1 (i := 1) (v := ?_) rfl (by kernel_rfl) (by kernel_rfl) (by kernel_rfl) (fun _ _ _ h => h) (by rfl) ?_ (by assumption) ?_
              rotate_left
              · (intro u hSu; (try dsimp only at hSu); go_simp; (try with_reducible rfl))
              (try simp only [Act.put, List.setIfInBounds_toArray, List.set_cons_zero, List.set_cons_succ])
              refine Man.take1 (i := 2) (v := ?_) rfl (by kernel_rfl) (by kernel_rfl) (by kernel_rfl) (fun _ _ _ h => h) (by rfl) ?_ (by assumption) ?_
              rotate_left
              · (intro u hSu; (try dsimp only at hSu); go_simp; (try with_reducible rfl))
              (try simp only [Act.put, List.setIfInBounds_toArray, List.set_cons_zero, List.set_cons_succ])
              refine Man.take1 (i := 3) (v := ?_) rfl (by kernel_rfl) (by kernel_rfl) (by kernel_rfl) (fun _ _ _ h => h) (by rfl) ?_ (by assumption) ?_
              rotate_left
              · (intro u hSu; (try dsimp only at hSu); go_simp; (try with_reducible rfl))
              (try simp only [Act.put, List.setIfInBounds_toArray, List.set_cons_zero, List.set_cons_succ])
              refine Man.take1 (i := 4) (v := ?_) rfl (by kernel_rfl) (by kernel_rfl) (by kernel_rfl) (fun _ _ _ h => h) (by rfl) ?_ (by assumption) ?_
              rotate_left
              · (intro u hSu; (try dsimp only at hSu); go_simp; (try with_reducible rfl))
              (try simp only [Act.put, List.setIfInBounds_toArray, List.set_cons_zero, List.set_cons_succ])
              refine Man.take1 (i := 5) (v := ?_) rfl (by kernel_rfl) (by kernel_rfl) (by kernel_rfl) (fun _ _ _ h => h) (by rfl) ?_ (by assumption) ?_
              rotate_left
              · (intro u hSu; (try dsimp only at hSu); go_simp; (try with_reducible rfl))
              (try simp only [Act.put, List.setIfInBounds_toArray, List.set_cons_zero, List.set_cons_succ])
              refine Man.take1 (i := 6) (v := ?_) rfl (by kernel_rfl) (by kernel_rfl) (by kernel_rfl) (fun _ _ _ h => h) (by rfl) ?_ (by assumption) ?_
              rotate_left
              · (intro u hSu; (try dsimp only at hSu); go_simp; (try with_reducible rfl))
              (try simp only [Act.put, List.setIfInBounds_toArray, List.set_cons_zero, List.set_cons_succ])
              refine Man.take1 (i := 7) (v := ?_) rfl (by kernel_rfl) (by kernel_rfl) (by kernel_rfl) (fun _ _ _ h => h) (by rfl) ?_ (by assumption) ?_
              rotate_left
              · (intro u hSu; (try dsimp only at hSu); go_simp; (try with_reducible rfl))
              (try simp only [Act.put, List.setIfInBounds_toArray, List.set_cons_zero, List.set_cons_succ])
              refine Man.take1 (i := 8) (v := ?_) rfl (by kernel_rfl) (by kernel_rfl) (by kernel_rfl) (fun _ _ _ h => h) (by rfl) ?_ (by assumption) ?_
              rotate_left
              · (intro u hSu; (try dsimp only at hSu); go_simp; (try with_reducible rfl))
              (try simp only [Act.put, List.setIfInBounds_toArray, List.set_cons_zero, List.set_cons_succ])
              refine Man.take1 (i := 9) (v := ?_) rfl (by kernel_rfl) (by kernel_rfl) (by kernel_rfl) (fun _ _ _ h => h) (by rfl) ?_ (by assumption) ?_
              rotate_left
              · (intro u hSu; (try dsimp only at hSu); go_simp; (try with_reducible rfl))
              (try simp only [Act.put, List.setIfInBounds_toArray, List.set_cons_zero, List.set_cons_succ])
              refine Man.take1 (i := 10) (v := ?_) rfl (by kernel_rfl) (by kernel_rfl) (by kernel_rfl) (fun _ _ _ h => h) (by rfl) ?_ (by assumption) ?_
              rotate_left
              · (intro u hSu; (try dsimp only at hSu); go_simp; (try with_reducible rfl))
              (try simp only [Act.put, List.setIfInBounds_toArray, List.set_cons_zero, List.set_cons_succ])
              refine Man.take1 (i := 11) (v := ?_) rfl (by kernel_rfl) (by kernel_rfl) (by kernel_rfl) (fun _ _ _ h => h) (by rfl) ?_ (by assumption) ?_
              rotate_left
              · (intro u hSu; (try dsimp only at hSu); go_simp; (try with_reducible rfl))
              (try simp only [Act.put, List.setIfInBounds_toArray, List.set_cons_zero, List.set_cons_succ])
              refine Man.take1 (i := 12) (v := ?_) rfl (by kernel_rfl) (by kernel_rfl) (by kernel_rfl) (fun _ _ _ h => h) (by rfl) ?_ (by assumption) ?_
              rotate_left
              · (intro u hSu; (try dsimp only at hSu); go_simp; (try with_reducible rfl))
              (try simp only [Act.put, List.setIfInBounds_toArray, List.set_cons_zero, List.set_cons_succ])
              refine Man.take1 (i := 13) (v := ?_) rfl (by kernel_rfl) (by kernel_rfl) (by kernel_rfl) (fun _ _ _ h => h) (by rfl) ?_ (by assumption) ?_
              rotate_left
              · (intro u hSu; (try dsimp only at hSu); go_simp; (try with_reducible rfl))
              (try simp only [Act.put, List.setIfInBounds_toArray, List.set_cons_zero, List.set_cons_succ])
              refine Man.one (i := 14) rfl (by kernel_rfl) (fun K hK => ?_)
              have hAP := bools_append HBKd.out (x.ks.take m2) ko kc HBT.out (by rw [HBT2.out, ← HKN.out.1]; have := HKN.out.2; omega) HSZd.out 37
              rw [HBT2.out] at hAP
              obtain ⟨v', wA, hrun, hbq, hgr⟩ := hAP
              refine wp_append_run rfl ⟨rfl, rfl⟩ hrun ?_
              have HBQ := hidm hbq
              have HGR := hidm hgr
              clear hbq hgr hrun
              refine hK.out _ _ (HCL.out _ HGR.out) (fun hNew => ?_)
              clear hK K hHeld
              have hHeld := hNew
              clear hNew
              (try simp only [Act.put, List.setIfInBounds_toArray, List.set_cons_zero, List.set_cons_succ])
              refine Man.take1 (i := 15) (v := ?_) rfl (by kernel_rfl) (by kernel_rfl) (by kernel_rfl) (fun _ _ _ h => h) (by rfl) ?_ (by assumption) ?_
              rotate_left
              · (intro u hSu; (try dsimp only at hSu); go_simp; (try with_reducible rfl))
              (try simp only [Act.put, List.setIfInBounds_toArray, List.set_cons_zero, List.set_cons_succ])
              refine wpAnyH_done (by kernel_rfl) ?_ _
              have HL9 := hidm (HLd.out.grown HBKd.out HGR.out)
              have HW9 := hidm (HWd.out.grown HBKd.out HGR.out)
              obtain ⟨k9, c9, hv9, _, _⟩ := HBQ.out.form
              have hkl9 : (ks0 ++ x.ks.take m2).length = kn + m2 := by rw [List.length_append, HBT2.out, ← HKN.out.1]
              clear hHeld
              rw [hkl9] at hv9
              subst hv9
              have HKL9 := hidm hkl9
              clear hkl9
              go_wp2_with fail
              go_roundw
              case rel => exact ⟨j, k9, kn + m2, c9, _, rfl, rfl, HJ2.out.1, HJ2.out.2, hidm ⟨⟨_, HL9.out⟩, HW9.out.mono (fun k hk => .inl hk), ⟨_, HBQ.out, HKL9.out.symm⟩, by have := HKN.out.2; have := HM2b.out; rw [HJ.out]; omega⟩⟩
              case measure => have := HJ.out; simp [intOf]; omega
          · go_wp2_with fail
            go_upto_region 20 with fail
            have HDR := hidm ((Below.refl wr.heap.size wr).drew)
            have HLd := hidm (HLV.out.later HDR.out)
            have HWd := hidm (HRA.out.keep (HLV.out.kept HDR.out))
            have HBKd := hidm (HRK.out.keep (HLV.out.kept HDR.out))
            have HSZd := hidm (show w.heap.size ≤ wr.drew.heap.size from HLd.out.bel.size)
            have HBT := hidm (bools_take (HBO.out.later HLd.out.bel) m2 HM2.out)
            have HCL := hidm (fun (u : World) (hg : World.grownBy wr.drew u (Value.slice ko0 kn kc0).ownBlock) => (show u.cell? ⟨b', o + i * 4 + 3, none⟩ = some (.slice ko sn kc) from by
              rw [hg.cell_far _ (by exact Nat.lt_of_lt_of_le HBL.out HSZd.out) (fun e => by
                have := (HBKd.out.inq b' e.symm).2
                have := HBL.out
                omega), HLd.out.bel.cell (p := ⟨b', o + i * 4 + 3, none⟩) HBL.out]
              exact HQ3.out))
            refine wp_region_held_drew (S := fun u => u.cell? ⟨b', o + i * 4 + 3, none⟩ = some (.slice ko sn kc)) (by kernel_rfl) (by rw [HLd.out.bel.cell (p := ⟨b', o + i * 4 + 3, none⟩) HBL.out]; exact HQ3.out) (fun hHeld => ?_)
            refine Man.take1 (i := 0) (v := ?_) rfl (by kernel_rfl) (by kernel_rfl) (by kernel_rfl) (fun _ _ _ h => h) (by rfl) ?_ (by assumption) ?_
            rotate_left
            · (intro u hSu; (try dsimp only at hSu); go_simp; (try with_reducible rfl))
            (try simp only [Act.put, List.setIfInBounds_toArray, List.set_cons_zero, List.set_cons_succ])
            refine Man.take1 (i := 1) (v := ?_) rfl (by kernel_rfl) (by kernel_rfl) (by kernel_rfl) (fun _ _ _ h => h) (by rfl) ?_ (by assumption) ?_
            rotate_left
            · (intro u hSu; (try dsimp only at hSu); go_simp; (try with_reducible rfl))
            (try simp only [Act.put, List.setIfInBounds_toArray, List.set_cons_zero, List.set_cons_succ])
            refine Man.take1 (i := 2) (v := ?_) rfl (by kernel_rfl) (by kernel_rfl) (by kernel_rfl) (fun _ _ _ h => h) (by rfl) ?_ (by assumption) ?_
            rotate_left
            · (intro u hSu; (try dsimp only at hSu); go_simp; (try with_reducible rfl))
            (try simp only [Act.put, List.setIfInBounds_toArray, List.set_cons_zero, List.set_cons_succ])
            refine Man.take1 (i := 3) (v := ?_) rfl (by kernel_rfl) (by kernel_rfl) (by kernel_rfl) (fun _ _ _ h => h) (by rfl) ?_ (by assumption) ?_
            rotate_left
            · (intro u hSu; (try dsimp only at hSu); go_simp; (try with_reducible rfl))
            (try simp only [Act.put, List.setIfInBounds_toArray, List.set_cons_zero, List.set_cons_succ])
            refine Man.take1 (i := 4) (v := ?_) rfl (by kernel_rfl) (by kernel_rfl) (by kernel_rfl) (fun _ _ _ h => h) (by rfl) ?_ (by assumption) ?_
            rotate_left
            · (intro u hSu; (try dsimp only at hSu); go_simp; (try with_reducible rfl))
            (try simp only [Act.put, List.setIfInBounds_toArray, List.set_cons_zero, List.set_cons_succ])
            refine Man.take1 (i := 5) (v := ?_) rfl (by kernel_rfl) (by kernel_rfl) (by kernel_rfl) (fun _ _ _ h => h) (by rfl) ?_ (by assumption) ?_
            rotate_left
            · (intro u hSu; (try dsimp only at hSu); go_simp; (try with_reducible rfl))
            (try simp only [Act.put, List.setIfInBounds_toArray, List.set_cons_zero, List.set_cons_succ])
            refine Man.take1 (i := 6) (v := ?_) rfl (by kernel_rfl) (by kernel_rfl) (by kernel_rfl) (fun _ _ _ h => h) (by rfl) ?_ (by assumption) ?_
            rotate_left
            · (intro u hSu; (try dsimp only at hSu); go_simp; (try with_reducible rfl))
            (try simp only [Act.put, List.setIfInBounds_toArray, List.set_cons_zero, List.set_cons_succ])
            refine Man.take1 (i := 7) (v := ?_) rfl (by kernel_rfl) (by kernel_rfl) (by kernel_rfl) (fun _ _ _ h => h) (by rfl) ?_ (by assumption) ?_
            rotate_left
            · (intro u hSu; (try dsimp only at hSu); go_simp; (try with_reducible rfl))
            (try simp only [Act.put, List.setIfInBounds_toArray, List.set_cons_zero, List.set_cons_succ])
            refine Man.take1 (i := 8) (v := ?_) rfl (by kernel_rfl) (by kernel_rfl) (by kernel_rfl) (fun _ _ _ h => h) (by rfl) ?_ (by assumption) ?_
            rotate_left
            · (intro u hSu; (try dsimp only at hSu); go_simp; (try with_reducible rfl))
            (try simp only [Act.put, List.setIfInBounds_toArray, List.set_cons_zero, List.set_cons_succ])
            refine Man.take1 (i := 9) (v := ?_) rfl (by kernel_rfl) (by kernel_rfl) (by kernel_rfl) (fun _ _ _ h => h) (by rfl) ?_ (by assumption) ?_
            rotate_left
            · (intro u hSu; (try dsimp only at hSu); go_simp; (try with_reducible rfl))
            (try simp only [Act.put, List.setIfInBounds_toArray, List.set_cons_zero, List.set_cons_succ])
            refine Man.take1 (i := 10) (v := ?_) rfl (by kernel_rfl) (by kernel_rfl) (by kernel_rfl) (fun _ _ _ h => h) (by rfl) ?_ (by assumption) ?_
            rotate_left
            · (intro u hSu; (try dsimp only at hSu); go_simp; (try with_reducible rfl))
            (try simp only [Act.put, List.setIfInBounds_toArray, List.set_cons_zero, List.set_cons_succ])
            refine Man.take1 (i := 11) (v := ?_) rfl (by kernel_rfl) (by kernel_rfl) (by kernel_rfl) (fun _ _ _ h => h) (by rfl) ?_ (by assumption) ?_
            rotate_left
            · (intro u hSu; (try dsimp only at hSu); go_simp; (try with_reducible rfl))
            (try simp only [Act.put, List.setIfInBounds_toArray, List.set_cons_zero, List.set_cons_succ])
            refine Man.take1 (i := 12) (v := ?_) rfl (by kernel_rfl) (by kernel_rfl) (by kernel_rfl) (fun _ _ _ h => h) (by rfl) ?_ (by assumption) ?_
            rotate_left
            · (intro u hSu; (try dsimp only at hSu); go_simp; (try with_reducible rfl))
            (try simp only [Act.put, List.setIfInBounds_toArray, List.set_cons_zero, List.set_cons_succ])
            refine Man.take1 (i := 13) (v := ?_) rfl (by kernel_rfl) (by kernel_rfl) (by kernel_rfl) (fun _ _ _ h => h) (by rfl) ?_ (by assumption) ?_
            rotate_left
            · (intro u hSu; (try dsimp only at hSu); go_simp; (try with_reducible rfl))
            (try simp only [Act.put, List.setIfInBounds_toArray, List.set_cons_zero, List.set_cons_succ])
            refine Man.one (i := 14) rfl (by kernel_rfl) (fun K hK => ?_)
            have hAP := bools_append HBKd.out (x.ks.take m2) ko kc HBT.out (by rw [HBT2.out, ← HKN.out.1]; have := HKN.out.2; omega) HSZd.out 37
            rw [HBT2.out] at hAP
            obtain ⟨v', wA, hrun, hbq, hgr⟩ := hAP
            refine wp_append_run rfl ⟨rfl, rfl⟩ hrun ?_
            have HBQ := hidm hbq
            have HGR := hidm hgr
            clear hbq hgr hrun
            refine hK.out _ _ (HCL.out _ HGR.out) (fun hNew => ?_)
            clear hK K hHeld
            have hHeld := hNew
            clear hNew
            (try simp only [Act.put, List.setIfInBounds_toArray, List.set_cons_zero, List.set_cons_succ])
            refine Man.take1 (i := 15) (v := ?_) rfl (by kernel_rfl) (by kernel_rfl) (by kernel_rfl) (fun _ _ _ h => h) (by rfl) ?_ (by assumption) ?_
            rotate_left
            · (intro u hSu; (try dsimp only at hSu); go_simp; (try with_reducible rfl))
            (try simp only [Act.put, List.setIfInBounds_toArray, List.set_cons_zero, List.set_cons_succ])
            refine wpAnyH_done (by kernel_rfl) ?_ _
            have HL9 := hidm (HLd.out.grown HBKd.out HGR.out)
            have HW9 := hidm (HWd.out.grown HBKd.out HGR.out)
            obtain ⟨k9, c9, hv9, _, _⟩ := HBQ.out.form
            have hkl9 : (ks0 ++ x.ks.take m2).length = kn + m2 := by rw [List.length_append, HBT2.out, ← HKN.out.1]
            clear hHeld
            rw [hkl9] at hv9
            subst hv9
            have HKL9 := hidm hkl9
            clear hkl9
            go_wp2_with fail
            go_roundw
            case rel => exact ⟨j, k9, kn + m2, c9, _, rfl, rfl, HJ2.out.1, HJ2.out.2, hidm ⟨⟨_, HL9.out⟩, HW9.out.mono (fun k hk => .inl hk), ⟨_, HBQ.out, HKL9.out.symm⟩, by have := HKN.out.2; have := HM2b.out; rw [HJ.out]; omega⟩⟩
            case measure => have := HJ.out; simp [intOf]; omega
        · have HINVE := hidm (show Inv w Q P L D 30 V1 (.slice wo 20 wcap) (.slice ko0 kn kc0) kn wr from ⟨HINV.out.lv, HINV.out.ra, HINV.out.rk, by have := HINV.out.few; omega⟩)
          clear HINV HL5 HW5
          by_cases hge : i < sl
          · have g1 : (i : Int) < (sl : Int) := by omega
            have g2 : ¬ (i : Int) < 30 := by omega
            go_wp2_with fail
            go_meet
            exact ⟨_, _, _, _, rfl, HINVE⟩
          · obtain rfl : i = sl := by omega
            have g1 : ¬ (i : Int) < (i : Int) := by omega
            go_wp2_with fail
            go_meet
            exact ⟨_, _, _, _, rfl, HINVE⟩
    case rest =>
      obtain ⟨ko0, kn, kc0, Q, rfl, HINV⟩ := hcut
      clear HL5 HW5
      obtain ⟨ch2, hlv⟩ := HINV.out.lv
      obtain ⟨ks, hks, hkn⟩ := HINV.out.rk
      have HL6 := hidm hlv
      have HK6 := hidm hks
      have HW6 := hidm HINV.out.ra
      have HKN := hidm hkn
      have hkn6 : kn ≤ 600 := HINV.out.few
      clear hlv hks hkn HINV
      go_wp2_with fail
      refine HL6.out.pagesQ.mono ?_
      rintro e w7 ⟨no, nc, Q7, rfl, hq7, ht7, h7, k7⟩
      have HL7 := hidm h7
      have HN7 := hidm ht7
      have HW7 := hidm ((HW6.out.keep k7).mono hq7)
      have HK7 := hidm ((HK6.out.keep k7).mono hq7)
      clear h7 ht7 k7 hq7 HL6 HK6 HW6
      go_wp2_with fail
      refine (HL7.out.fuse _ (by first | omega | (rw [HFU.out]; omega))).mono ?_
      rintro e w8 ⟨rfl, h8, k8⟩
      have HL8 := hidm h8
      have HN8 := hidm (HN7.out.keep k8)
      have HW8 := hidm (HW7.out.keep k8)
      have HK8 := hidm (HK7.out.keep k8)
      clear h8 k8 HL7 HN7 HW7 HK7 f50
      go_wp2_with fail
      refine (HL8.out.commit (by omega) HL8.out.fits (by omega)).mono ?_
      rintro e w9 hcm
      obtain ⟨na, hna⟩ : ∃ l, l = all 20 (over ch2 V1) := ⟨_, rfl⟩
      obtain ⟨wa, hwa⟩ : ∃ l, l = all 20 V1 := ⟨_, rfl⟩
      have hcs := hcm.st
      rw [← hna] at HN8
      rw [← hwa] at HW8
      rw [← hna, ← hwa] at hcs
      clear hna hwa hcm
      rcases hcs with ⟨rfl, hst, k9⟩ | ⟨rfl, hst, k9⟩
      · have TW := hidm (show Two w Q7 P L D 95000 na na (.slice no 20 nc) (.slice no 20 nc) w9 from ⟨hst, HN8.out.keep k9, HN8.out.keep k9⟩)
        have HK9 := hidm (HK8.out.keep k9)
        clear hst k9 HL8 HN8 HW8 HK8
        have HTB := hidm TW.out.bel
        obtain ⟨nd, hnd, hdi, hcr⟩ := TW.out.crash
        have HDI := hidm hdi
        have HCR0 := hidm hcr
        clear hdi hcr
        obtain ⟨mm, hmm⟩ : ∃ mm, mm = min kn nd := ⟨_, rfl⟩
        have hmin : min (kn : Int) (nd : Int) = (mm : Int) := by omega
        have hmk : mm ≤ kn := by omega
        have hmd : mm ≤ nd := by omega
        have hnd9 : nd ≤ 9223372036854775807 := by omega
        have HKF := hidm (show kn ≤ kc0 ∧ kc0 ≤ 9223372036854775807 from by
          obtain ⟨_, _, e1, h1, h2⟩ := HK9.out.form
          simp only [Value.slice.injEq] at e1
          omega)
        have hkc0 : mm ≤ kc0 := by have := HKF.out; omega
        have hkc9 : kc0 ≤ 9223372036854775807 := HKF.out.2
        have hknc : kn ≤ kc0 := HKF.out.1
        have HMK := hidm (show mm ≤ ks.length ∧ mm ≤ nd from ⟨by rw [← HKN.out]; exact hmk, hmd⟩)
        clear hmm
        go_wp2_with fail
        refine HDI.out.mono ?_
        rintro e w10 ⟨vo, vc, rfl, hb10⟩
        have HB10 := hidm hb10
        clear hb10
        go_wp2_with fail
        have HLT := hidm (show (ks.take mm).length = mm from by rw [List.length_take]; have := HMK.out; omega)
        have hat := BoolsQ.at (by have h := HK9.out.keep (TW.out.kept HB10.out); rw [HKN.out] at h; exact h)
        have hCR := HCR0.out w10 HB10.out (ks.take mm) ko0 kc0 (by rw [HLT.out]; exact HMK.out.2) (bools_take hat.1 mm HMK.out.1) (fun hne p hp => .inr (hat.2 (fun e => hne (by rw [e]; simp)) p hp))
        rw [HLT.out] at hCR
        have HCR := hidm hCR
        clear hat hCR HCR0
        refine HCR.out.mono ?_
        rintro e w11 ⟨rfl, hbk, _⟩
        have HBK := hidm hbk
        clear hbk HCR
        go_wp2_with fail
        refine (HBK.out.open (by omega)).mono ?_
        rintro e w12 ⟨P2, L2, rfl, _, hpg⟩
        have HPG := hidm hpg
        clear hpg HBK
        go_wp2_with fail
        refine HPG.out.mono ?_
        rintro e w13 ⟨lo9, lc9, Q9, l9, rfl, _, _, hl9, hor, ra9, rb9, h9⟩
        have TW9 := hidm h9
        have RA9 := hidm ra9
        have RB9 := hidm rb9
        clear h9 HPG
        have HLL := hidm (show l9 = na from by
          rcases hor with h | h
          · exact h
          · exact h)
        clear hor
        go_wp2_with fail
        refine (texts_any l9 na _ _ _ (by rw [HLL.out]) TW9.out.ra.1 RA9.out.1).mono ?_
        rintro e w13 ⟨rfl, hb13⟩
        have TW13 := hidm (TW9.out.later hb13)
        clear hb13
        rw [decide_eq_true HLL.out]
        go_wp2_with fail
        refine (known_any _).mono ?_
        rintro e wk ⟨rfl, hb⟩
        have HB := hidm (TW13.out.bel.trans (hb.mono TW13.out.bel.size))
        clear hb
        go_wp2_with fail
        go_ret
        exact ⟨by trivial, HB.out⟩
      · have TW := hidm (show Two w Q7 P L D 95000 wa na (.slice wo 20 wcap) (.slice no 20 nc) w9 from ⟨hst, HW8.out.keep k9, HN8.out.keep k9⟩)
        have HK9 := hidm (HK8.out.keep k9)
        clear hst k9 HL8 HN8 HW8 HK8
        have HTB := hidm TW.out.bel
        obtain ⟨nd, hnd, hdi, hcr⟩ := TW.out.crash
        have HDI := hidm hdi
        have HCR0 := hidm hcr
        clear hdi hcr
        obtain ⟨mm, hmm⟩ : ∃ mm, mm = min kn nd := ⟨_, rfl⟩
        have hmin : min (kn : Int) (nd : Int) = (mm : Int) := by omega
        have hmk : mm ≤ kn := by omega
        have hmd : mm ≤ nd := by omega
        have hnd9 : nd ≤ 9223372036854775807 := by omega
        have HKF := hidm (show kn ≤ kc0 ∧ kc0 ≤ 9223372036854775807 from by
          obtain ⟨_, _, e1, h1, h2⟩ := HK9.out.form
          simp only [Value.slice.injEq] at e1
          omega)
        have hkc0 : mm ≤ kc0 := by have := HKF.out; omega
        have hkc9 : kc0 ≤ 9223372036854775807 := HKF.out.2
        have hknc : kn ≤ kc0 := HKF.out.1
        have HMK := hidm (show mm ≤ ks.length ∧ mm ≤ nd from ⟨by rw [← HKN.out]; exact hmk, hmd⟩)
        clear hmm
        go_wp2_with fail
        refine HDI.out.mono ?_
        rintro e w10 ⟨vo, vc, rfl, hb10⟩
        have HB10 := hidm hb10
        clear hb10
        go_wp2_with fail
        have HLT := hidm (show (ks.take mm).length = mm from by rw [List.length_take]; have := HMK.out; omega)
        have hat := BoolsQ.at (by have h := HK9.out.keep (TW.out.kept HB10.out); rw [HKN.out] at h; exact h)
        have hCR := HCR0.out w10 HB10.out (ks.take mm) ko0 kc0 (by rw [HLT.out]; exact HMK.out.2) (bools_take hat.1 mm HMK.out.1) (fun hne p hp => .inr (hat.2 (fun e => hne (by rw [e]; simp)) p hp))
        rw [HLT.out] at hCR
        have HCR := hidm hCR
        clear hat hCR HCR0
        refine HCR.out.mono ?_
        rintro e w11 ⟨rfl, hbk, _⟩
        have HBK := hidm hbk
        clear hbk HCR
        go_wp2_with fail
        refine (HBK.out.open (by omega)).mono ?_
        rintro e w12 ⟨P2, L2, rfl, _, hpg⟩
        have HPG := hidm hpg
        clear hpg HBK
        go_wp2_with fail
        refine HPG.out.mono ?_
        rintro e w13 ⟨lo9, lc9, Q9, l9, rfl, _, _, hl9, hor, ra9, rb9, h9⟩
        have TW9 := hidm h9
        have RA9 := hidm ra9
        have RB9 := hidm rb9
        clear h9 HPG
        have HLA := hidm (show l9.length = wa.length from by
          obtain ⟨_, _, e1, _⟩ := ra9.1.form
          simp only [Value.slice.injEq] at e1
          omega)
        have HLB := hidm (show l9.length = na.length from by
          obtain ⟨_, _, e1, _⟩ := rb9.1.form
          simp only [Value.slice.injEq] at e1
          omega)
        have HOR := hidm hor
        clear hor hl9 ra9 rb9
        go_wp2_with fail
        refine (texts_any l9 wa _ _ _ HLA.out TW9.out.ra.1 RA9.out.1).mono ?_
        rintro e w13 ⟨rfl, hb13⟩
        have TW13 := hidm (TW9.out.later hb13)
        have RB13 := hidm (RB9.out.keep (TW9.out.kept hb13))
        clear hb13
        by_cases hla : l9 = wa
        · rw [decide_eq_true hla]
          clear hla
          go_wp2_with fail
          refine (known_any _).mono ?_
          rintro e wk ⟨rfl, hb⟩
          have HB := hidm (TW13.out.bel.trans (hb.mono TW13.out.bel.size))
          clear hb
          go_wp2_with fail
          go_ret
          exact ⟨by trivial, HB.out⟩
        · have hlb : l9 = na := by
            rcases HOR.out with h | h
            · exact absurd h hla
            · exact h
          rw [decide_eq_false hla]
          have HLBE := hidm hlb
          clear hla hlb
          go_wp2_with fail
          refine (texts_any l9 na _ _ _ HLB.out TW13.out.ra.1 RB13.out.1).mono ?_
          rintro e w14 ⟨rfl, hb14⟩
          have TW14 := hidm (TW13.out.later hb14)
          clear hb14
          rw [decide_eq_true HLBE.out]
          go_wp2_with fail
          refine (known_any _).mono ?_
          rintro e wk ⟨rfl, hb⟩
          have HB := hidm (TW14.out.bel.trans (hb.mono TW14.out.bel.size))
          clear hb
          go_wp2_with fail
          go_ret
          exact ⟨by trivial, HB.out⟩
theorem laidOut : laidOutB Tryz.prog = true := by kernel_rfl
set_option maxRecDepth 100000 in
theorem contract (H : Type) (enc : TypeId × Value → H) (W : World) (base : Nat) (args : Array Value) (ds gs : List (DataW H)) (before : List MemPlace)
    (hval : ∀ (j : Nat) t v, Tryz.f4.params[j]? = some t → args[j]? = some v → Value.okWide Tryz.prog W .any base t v)
    (hW : DataW.Whole enc Tryz.prog Tryz.f4.params.toList Rows.pagerAtomicSpec.vars false W args.toList ds gs before) :
    Calls Tryz.prog 4 args W fun e W' => ∃ v, e = .returned v ∧ Rows.pagerAtomicSpec.post enc Tryz.prog Tryz.f4 false true false false W args v W' := by
  have hW' := hW
  obtain ⟨p, q, hA0, hV, rfl, hfz, hnd⟩ := hW
  have hA : DataW.TrodAll enc Tryz.prog W 0 (fun _ => true) true Tryz.f4.params.toList args.toList ds p := hA0
  rw [Tryz.params4] at hA hval
  obtain ⟨v0, vs0, d0, ds0, p0, q0, hargs, rfl, rfl, h0, r0⟩ := trodAll_cons hA
  obtain ⟨v1, vs1, d1, ds1, p1, q1, rfl, rfl, rfl, h1, r1⟩ := trodAll_cons r0
  obtain ⟨v2, vs2, d2, ds2, p2, q2, rfl, rfl, rfl, h2, r2⟩ := trodAll_cons r1
  obtain ⟨rfl, rfl, rfl⟩ := trodAll_nil r2
  obtain rfl : args = #[v0, v1, v2] := by cases args; simp_all
  obtain ⟨rfl, rfl⟩ := trodVars_none hV
  obtain ⟨x0, hmx0, hnx0⟩ := open_ops (hval 0 23 v0 rfl rfl) h0
  obtain ⟨x1, hmx1, hnx1⟩ := open_ops (hval 1 23 v1 rfl rfl) h1
  obtain ⟨f, rfl, hd2, hp2, wf⟩ := open_int Tryz.underlying5 (hval 2 5 v2 rfl rfl) h2
  have bf := bounds_u8 wf
  obtain ⟨f, rfl⟩ := Int.eq_ofNat_of_zero_le bf.1
  clear hA0
  simp only [List.append_nil] at hW'
  have hlt : ∀ x ∈ p0 ++ p1 ++ p2, x.block < W.heap.size := fun x hx => hW'.lt x (by simpa using hx)
  have walk := law_any x0 x1 _ _ f W (by omega) hmx0 hnx0 hmx1 hnx1
  refine walk.mono fun e W' ⟨he, hg⟩ => ?_
  subst he
  refine ⟨_, rfl, Fr.post_made (pa := p0 ++ (p1 ++ p2)) (pv := []) hW' (fun _ _ _ => trodAll_cons_mk (shut_bool Tryz.underlying4 _) trodAll_mk0) (fun sp hsp => ?_) (fun _ _ => rfl) (by simp) hg (ok_one (by kernel_rfl) rfl (okWide_bool_mk Tryz.underlying4 _))⟩
  have g0 : DataW.Trod enc Tryz.prog W' 0 sp true 23 _ d0 p0 := WideElems.Trod_stays laidOut (by kernel_rfl) (of_decide_eq_true (by kernel_rfl)) h0 (fun x hx => hg.same (hlt x (by simp [hx]))) (fun x hx => hsp x (by simp [hx]))
  have g1 : DataW.Trod enc Tryz.prog W' 0 sp true 23 _ d1 p1 := WideElems.Trod_stays laidOut (by kernel_rfl) (of_decide_eq_true (by kernel_rfl)) h1 (fun x hx => hg.same (hlt x (by simp [hx]))) (fun x hx => hsp x (by simp [hx]))
  have g2 : DataW.Trod enc Tryz.prog W' 0 sp true 5 _ d2 p2 := WideElems.Trod_stays laidOut (by kernel_rfl) (of_decide_eq_true (by kernel_rfl)) h2 (fun x hx => hg.same (hlt x (by simp [hx]))) (fun x hx => hsp x (by simp [hx]))
  have hT := (trodAll_cons_mk g0 (trodAll_cons_mk g1 (trodAll_cons_mk g2 trodAll_mk0)))
  simp only [List.append_nil] at hT
  exact hT
set_option maxRecDepth 100000 in
theorem reads (os : Os) {H : Type} (enc : TypeId × Value → H) : ∃ places, DataW.whole enc Tryz.prog ((World.laidAll Tryz.prog os Rows.pagerAtomicRow.laid).forCall (fun _ _ => 0) ⟨#[], #[.slice none 0 0, .slice none 0 0, .int .u8 0], []⟩).memory Tryz.f4.params.toList Rows.pagerAtomicSpec.vars false (#[.slice none 0 0, .slice none 0 0, .int .u8 0] : Array Value).toList 8 = some ([.nil, .nil, .lit (.int .u8 0)], [], places) :=
  ⟨[], by kernel_rfl⟩
set_option maxRecDepth 100000 in
theorem lifted (os : Os) (started : os.Started) (H : Type) (enc : TypeId × Value → H) (F : Stop.Interp) :
    ReturnsInHanded {} Tryz.checked os 4 .any ((OpenSpec.ofChange Rows.pagerAtomicSpec).preRow enc Tryz.prog Tryz.f4 Rows.pagerAtomicRow.domain false Rows.pagerAtomicRow.laid) (((OpenSpec.ofChange Rows.pagerAtomicSpec).at F).post enc Tryz.prog Tryz.f4 false true false false) := by
  obtain ⟨places, hx⟩ := reads os enc
  refine returnsInHanded_of_row (C := Tryz.checked) (s := OpenSpec.ofChange Rows.pagerAtomicSpec) Fr.own started (by kernel_rfl) Tryz.func4
    (Fr.wit (World.laidAll Tryz.prog os Rows.pagerAtomicRow.laid) #[.slice none 0 0, .slice none 0 0, .int .u8 0] (World.laidAll_os _ _ _) (World.shaped_of_ZipB (by kernel_rfl) (by kernel_rfl)) (by kernel_rfl)
      (OpenSpec.preRow_of_cond 8 hx (by kernel_rfl) (fun k hk => by cases hk) (by kernel_rfl) (laidMet_laidAll _ (by kernel_rfl) (by kernel_rfl)))) ?_
  intro W base args ds gs before hval hW _ _ _ _ _ _
  exact contract H enc W base args ds gs before hval hW
set_option maxRecDepth 100000 in
theorem said : Rows.PagerAtomicSaid :=
  OpenClaim.holds_of_cond 4 Tryz.f4 rfl rfl rfl rfl rfl rfl rfl ⟨rfl, rfl, rfl, rfl, rfl⟩ rfl rfl rfl rfl rfl (by kernel_rfl) Tryz.func4 (by kernel_rfl)
    (of_decide_eq_true (by kernel_rfl)) (by unfold Func.isWrapper; first | (rw [if_pos (by decide +kernel)]; kernel_rfl) | (rw [if_neg (by decide +kernel)]; exact ⟨rfl, rfl⟩))
    (fun os started H enc _ F => by rw [OpenClaim.pre_eq_preRow]; exact lifted os started H enc F)
set_option maxRecDepth 100000 in
theorem plain (f : FuncId) (fn : Func) (hf : Tryz.pinned.checked.prog.funcNamed "memoir/memoirlaw09.PagerAtomic" = some f) (hfn : Tryz.pinned.checked.prog.funcs[f]? = some fn) :
    true = Tryz.pinned.checked.prog.looks [] ∧ ∀ (j : Nat) t, fn.params[j]? = some t → Tryz.pinned.checked.prog.wantsStandIn t = false := by
  obtain rfl : f = 4 := Option.some.inj ((show Tryz.prog.funcNamed "memoir/memoirlaw09.PagerAtomic" = some 4 by kernel_rfl).symm.trans hf) |>.symm
  obtain rfl : fn = Tryz.f4 := (Option.some.inj (Tryz.func4.symm.trans hfn)).symm
  refine ⟨by kernel_rfl, fun j t ht => ?_⟩
  rw [Tryz.params4] at ht
  have hm := Array.mem_of_getElem? ht
  simp only [List.mem_toArray, List.mem_cons, List.not_mem_nil, or_false] at hm
  rcases hm with rfl | rfl | rfl
  all_goals first | exact (show Tryz.prog.wantsStandIn 23 = false by kernel_rfl) | exact (show Tryz.prog.wantsStandIn 5 = false by kernel_rfl)
set_option maxRecDepth 100000 in
theorem card : Rows.PagerAtomicCardSaid :=
  Claim7.holds_tied_plain_at .later [] _ _ _ _ said (fun _ h => by cases h) (by kernel_rfl) (fun _ h => by cases h) pagerAtomic_row_tie rfl ⟨rfl, rfl⟩ (by kernel_rfl) rfl plain (by kernel_rfl)
end LaPagerAtomic
end Go.Proofs.YtkgbemkcnahkoaaGreatDoor
