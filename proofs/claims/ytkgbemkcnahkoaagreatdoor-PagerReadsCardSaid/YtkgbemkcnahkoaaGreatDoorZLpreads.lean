/- PagerReads is proved: for every script, page and text the law returns true and its arguments read as they did. No other condition. -/
import Derived.Test.YtkgbemkcnahkoaaGreatDoorZPxto
import Derived.Test.YtkgbemkcnahkoaaGreatDoorZFrdto
import Derived.Deep.DeepCutAuto
import Derived.Deep.CutBlock
import Derived.WideKeyPair
import Derived.SizedLaws
namespace Go.Proofs.YtkgbemkcnahkoaaGreatDoor
open Go.ChangeShapes Go.WideShapes Go.ChangeAt Go.RowKit
open Go.ChangeMaps (open_string shut_string)
namespace LaPagerReads
open Pgr
open Dsk (PD Mine KeepQ DiskIs Only Grow upd pad BoolsAt NotGiven zeros open_ops open_bools OpsAt Opv)
open Crc (S S_of S_size)
set_option maxHeartbeats 16000000 in
set_option maxRecDepth 100000 in
theorem law_long (v0 : Value) (page : Int) (s : ByteArray) (w : World) (hs : 300 < s.size) :
    Calls Tryz.prog 8 #[v0, .int .i64 page, .string s] w fun e w' => e = .returned (.bool true) ∧ Below w.heap.size w w' := by
  have g0 : (300 : Int) < (s.size : Int) := by omega
  have N0 := hidm (Dsk.m_new (W := w) (w := w) 60 (by omega) (by omega) (Below.refl _ _))
  clear hs
  go_enter Tryz.func8, Tryz.ntmps8
  go_wp2_with fail
  refine N0.out.mono ?_
  rintro e w1 ⟨rfl, hm1, hb1⟩
  have HM := hidm hm1
  clear hm1 hb1 N0
  go_wp2_with fail
  refine (known_any _).mono ?_
  rintro e wk ⟨rfl, hb⟩
  have HB := hidm (HM.out.bel.trans (hb.mono HM.out.bel.size))
  clear hb
  go_wp2_with fail
  go_ret
  exact ⟨by trivial, HB.out⟩
set_option maxHeartbeats 16000000 in
set_option maxRecDepth 100000 in
theorem law_A (l : List Opv) (v0 : Value) (page : Int) (s : ByteArray) (w : World) (hl : OpsAt l v0 w) (hin : ∀ x ∈ l, x.inn) (hs : ¬ 300 < s.size) (hcase : ¬ 1 ≤ page) :
    Calls Tryz.prog 8 #[v0, .int .i64 page, .string s] w fun e w' => e = .returned (.bool true) ∧ Below w.heap.size w w' := by
  have g0 : ¬ (300 : Int) < (s.size : Int) := by omega
  have N0 := hidm (Dsk.m_new (W := w) (w := w) 60 (by omega) (by omega) (Below.refl _ _))
  have HIN := hidm hin
  have p1 : ¬ (1 : Int) ≤ page := hcase
  obtain ⟨lo, lc, rfl, hlc, hlcm⟩ := hl.form
  obtain ⟨ll, hll⟩ : ∃ n, n = l.length := ⟨_, rfl⟩
  have HLLll := hidm hll
  have HSLll := hidm hl
  rw [← hll]
  have hll2 : ll ≤ 9223372036854775807 := by omega
  clear hl hll hlc hlcm
  clear hin
  go_enter Tryz.func8, Tryz.ntmps8
  go_wp2_with fail
  refine N0.out.mono ?_
  rintro e w1 ⟨rfl, hm1, hb1⟩
  have R1 := hidm (Re.new (n := 38) (N := 20) (by omega) hm1)
  obtain ⟨D, hD⟩ : ∃ D, D = w.heap.size + 1 := ⟨_, rfl⟩
  rw [← hD] at R1 ⊢
  clear hD hm1 hb1 N0
  go_wp2_with fail
  refine (R1.out.open (by omega) (by omega) (by omega) 40 rfl).mono ?_
  rintro e w2 ⟨P, L, rfl, h2, _⟩
  have H2 := hidm (show Lv w (fun _ => False) P L D 38 20 2000 true [] (fun _ => zeros) w2 from h2.more (by omega))
  clear h2 R1
  go_upto_block 0 with fail
  go_cut [11] (fun _ wx => ∃ (ch : Ch) (V : Nat → List UInt8), Hid (Lv w (fun _ => False) P L D 38 20 (2000 + 90000) true ch V wx))
  case first =>
    go_wp2_with fail
    go_loopw [11] (fun ii wr => ∃ (i : Nat) (ch : Ch) (V : Nat → List UInt8), ii = .int .i64 i ∧ i ≤ ll ∧ i ≤ 30 ∧ Hid (Lv w (fun _ => False) P L D 38 20 (2000 + 3000 * i) true ch V wr)) (fun ii _ => (ll - (intOf ii).toNat))
    case atStart => exact ⟨0, _, _, rfl, by omega, by omega, H2⟩
    case round =>
      rename World => wr
      obtain ⟨i, ch, V, rfl, hi, hi3, HLV⟩ := hrel
      by_cases hlt : i < ll ∧ i < 30
      · obtain ⟨hlt, hlt2⟩ := hlt
        have g1 : (i : Int) < (ll : Int) := by omega
        have g2 : (i : Int) < 30 := by omega
        have hil : i < l.length := by rw [← HLLll.out]; exact hlt
        obtain ⟨b', o, cp, he, hbl, q0, q1, q2, q3⟩ := HSLll.out.at i hil
        have HXI0 := HIN.out _ (List.getElem_mem hil)
        have he2 : (Value.slice lo ll lc) = .slice (some ⟨b', o, none⟩) l.length cp := by rw [HLLll.out]; exact he
        simp only [Value.slice.injEq] at he2
        obtain ⟨rfl, -, rfl⟩ := he2
        clear he
        obtain ⟨x, hx⟩ : ∃ x, x = l[i] := ⟨_, rfl⟩
        rw [← hx] at q0 q1 q2 q3 HXI0
        have HXI := hidm HXI0
        clear hx HXI0
        have hbel := HLV.out.bel
        have c0 := (hbel.cell (p := ⟨b', o + i * 4, none⟩) hbl).trans q0
        have c1 := (hbel.cell (p := ⟨b', o + i * 4 + 1, none⟩) hbl).trans q1
        have c2 := (hbel.cell (p := ⟨b', o + i * 4 + 2, none⟩) hbl).trans q2
        have c3 := (hbel.cell (p := ⟨b', o + i * 4 + 3, none⟩) hbl).trans q3
        have i1 : (i : Int) + 1 = ((i + 1 : Nat) : Int) := by omega
        obtain ⟨j, hj⟩ : ∃ j, j = i + 1 := ⟨_, rfl⟩
        rw [← hj] at i1
        have i1w : IntKind.i64.wrap (j : Int) = (j : Int) := by simp only [IntKind.wrap_i64]; omega
        have HJ := hidm hj
        have HJ2 := hidm (show j ≤ ll ∧ j ≤ 30 from by omega)
        clear hj hbel q0 q1 q2 q3
        by_cases hkd : x.kind < 5
        · have HKD := hidm hkd
          by_cases hsz : x.s.size < 200
          · have g3 : (x.s.size : Int) < 200 := by omega
            clear hsz
            go_wp2_with fail
            refine (HLV.out.do_all x HXI.out (by omega) HLV.out.fits (by omega)).mono ?_
            rintro e w3 ⟨a, c, sx, ch3, V3, rfl, h3, k3⟩
            have H3 := hidm h3
            clear h3 k3 c0 c1 c2 c3
            go_wp2_with fail
            go_roundw
            case rel => exact ⟨j, ch3, V3, rfl, HJ2.out.1, HJ2.out.2, hidm (H3.out.more (by rw [HJ.out]; omega))⟩
            case measure => have := HJ.out; simp [intOf]; omega
          · have g3 : ¬ (x.s.size : Int) < 200 := by omega
            clear hsz
            go_wp2_with fail
            go_roundw
            case rel => exact ⟨j, ch, V, rfl, HJ2.out.1, HJ2.out.2, hidm (HLV.out.more (by rw [HJ.out]; omega))⟩
            case measure => have := HJ.out; simp [intOf]; omega
        · go_wp2_with fail
          go_roundw
          case rel => exact ⟨j, ch, V, rfl, HJ2.out.1, HJ2.out.2, hidm (HLV.out.more (by rw [HJ.out]; omega))⟩
          case measure => have := HJ.out; simp [intOf]; omega
      · have HLVE := hidm (show Lv w (fun _ => False) P L D 38 20 (2000 + 90000) true ch V wr from HLV.out.more (by omega))
        clear HLV H2
        by_cases hge : i < ll
        · have g1 : (i : Int) < (ll : Int) := by omega
          have g2 : ¬ (i : Int) < 30 := by omega
          go_wp2_with fail
          go_meet
          exact ⟨_, _, HLVE⟩
        · obtain rfl : i = ll := by omega
          have g1 : ¬ (i : Int) < (i : Int) := by omega
          go_wp2_with fail
          go_meet
          exact ⟨_, _, HLVE⟩
  case rest =>
    obtain ⟨ch, V, HLVE⟩ := hcut
    clear H2
    go_wp2_with fail
    refine (HLVE.out.commit (by omega) HLVE.out.fits (by omega)).mono ?_
    rintro e w4 hcm
    rcases hcm with ⟨rfl, h4, k4⟩ | ⟨hu, _⟩
    rotate_left
    · cases hu
    have H4 := hidm h4
    clear h4 k4 HLVE
    obtain ⟨V2, hV2⟩ : ∃ V2, V2 = over ch V := ⟨_, rfl⟩
    rw [← hV2] at H4
    clear hV2
    go_wp2_with fail
    refine H4.out.pagesQ.mono ?_
    rintro e w5 ⟨wo, wc, Q5, rfl, _, ht5, h5, _⟩
    have HW5 := hidm ht5
    have H5 := hidm h5
    clear ht5 h5 H4
    go_wp2_with fail
    refine (H5.out.write_any page s).mono ?_
    rintro e w6 ⟨cg, chW, rfl, h6, k6, hr6⟩
    have H6 := hidm h6
    have HW6 := hidm (HW5.out.keep k6)
    obtain ⟨hcg, hch⟩ : cg ≠ 0 ∧ chW = [] := by
      rcases hr6 with ⟨h1, h2, _⟩ | ⟨_, h2, h3, h4, _⟩
      · exact ⟨h1, h2⟩
      · omega
    have HCH := hidm hch
    have c0f : (cg == 0) = false := by simpa using hcg
    have c0t : (cg != 0) = true := by simp [bne, c0f]
    clear hr6 hch h6 k6 H5 HW5 hcg
    go_wp2_with fail
    refine H6.out.pagesQ.mono ?_
    rintro e w7 ⟨no, nc, Q7, rfl, hq7, ht7, h7, k7⟩
    have HN7 := hidm ht7
    have H7 := hidm h7
    have HW7 := hidm ((HW6.out.keep k7).mono hq7)
    clear ht7 h7 k7 hq7 H6 HW6
    go_wp2_with fail
    refine H7.out.abort.mono ?_
    rintro e w8 ⟨rfl, h8, k8⟩
    have H8 := hidm h8
    have HN8 := hidm (HN7.out.keep k8)
    have HW8 := hidm (HW7.out.keep k8)
    clear h8 k8 H7 HN7 HW7
    go_wp2_with fail
    refine H8.out.pagesQ.mono ?_
    rintro e w9 ⟨ao, ac, Q9, rfl, hq9, ht9, h9, k9⟩
    have HA9 := hidm ht9
    have H9 := hidm h9
    have HN9 := hidm ((HN8.out.keep k9).mono hq9)
    have HW9 := hidm ((HW8.out.keep k9).mono hq9)
    clear ht9 h9 k9 hq9 H8 HN8 HW8
    go_wp2_with fail
    refine (texts_any _ _ _ _ _ (by rw [all_len]) HA9.out.1 HW9.out.1).mono ?_
    rintro e w10 ⟨rfl, hb10⟩
    rw [decide_eq_true (show all 20 (over [] V2) = all 20 (over [] V2) from rfl)]
    have H10 := hidm (H9.out.later hb10)
    have HN10 := hidm (HN9.out.keep (H9.out.kept hb10))
    have HW10 := hidm (HW9.out.keep (H9.out.kept hb10))
    clear hb10 H9 HN9 HW9 HA9
    go_wp2_with fail
    go_loopw [15] (fun kk wz => ∃ k : Nat, kk = .int .i64 k ∧ k ≤ 20 ∧ Hid (TextsQ Q9 (all 20 (over [] V2)) (.slice wo 20 wc) wz ∧ TextsQ Q9 (all 20 (over chW V2)) (.slice no 20 nc) wz ∧ Lv w Q9 P L D 38 20 95000 true [] V2 wz)) (fun kk _ => (20 - (intOf kk).toNat))
    case atStart => exact ⟨0, rfl, by omega, hidm ⟨HW10.out, HN10.out, H10.out⟩⟩
    case round =>
      rename World => wz
      obtain ⟨k, rfl, hk20, HALL⟩ := hrel
      have HWZ := hidm HALL.out.1
      have HNZ := hidm HALL.out.2.1
      have HZ := hidm HALL.out.2.2
      clear HALL
      rcases Nat.lt_or_ge k 20 with hkl | hkg
      · have k1 : (k : Int) < 20 := by omega
        have k1a : ¬ (k : Int) < 0 := by omega
        have ki : (k : Int) + 1 = ((k + 1 : Nat) : Int) := by omega
        obtain ⟨kj, hkj⟩ : ∃ j, j = k + 1 := ⟨_, rfl⟩
        rw [← hkj] at ki
        have kiw : IntKind.i64.wrap (kj : Int) = (kj : Int) := by simp only [IntKind.wrap_i64]; omega
        have HKJ := hidm hkj
        have HKJ2 := hidm (show kj ≤ 20 from by omega)
        clear hkj
        by_cases hkp : (k : Int) = page
        · have k2 : ((k : Int) != page) = false := by simp [hkp]
          have k3 : ((k : Int) == page) = true := by simp [hkp]
          clear hkp
          obtain ⟨ng, nc, hne1, cn⟩ := TextsAt.at HNZ.out.1 k (by rw [all_len]; exact hkl)
          obtain ⟨wg, wc, hwe1, cw⟩ := TextsAt.at HWZ.out.1 k (by rw [all_len]; exact hkl)
          rw [all_at] at cn cw
          simp only [Value.slice.injEq] at hne1 hwe1
          obtain ⟨rfl, -, rfl⟩ := hne1
          obtain ⟨rfl, -, rfl⟩ := hwe1
          have hov : over chW V2 k = over [] V2 k := by rw [HCH.out]
          rw [hov] at cn
          obtain ⟨tx, htx⟩ : ∃ t, t = over [] V2 k := ⟨_, rfl⟩
          rw [← htx] at cw cn
          clear htx hov
          go_upto_region 22 with fail
          have HBD := hidm ((Below.refl wz.heap.size wz).drew)
          have HZd := hidm (HZ.out.later HBD.out)
          refine wp_region_held_drew (S := fun u => u.cell? ⟨ng, k, none⟩ = some (.string (S tx)) ∧ u.cell? ⟨wg, k, none⟩ = some (.string (S tx))) (by kernel_rfl) ⟨cn, cw⟩ (fun hHeld => ?_)
          clear cn cw
          refine Man.take1 (i := 0) (v := ?_) rfl (by kernel_rfl) (by kernel_rfl) (by kernel_rfl) (fun _ _ _ h => h) (by rfl) ?_ hHeld ?_
          rotate_left
          · (intro u hSu; (try dsimp only at hSu); go_simp; (try with_reducible rfl))
          (try simp only [Act.put, List.setIfInBounds_toArray, List.set_cons_zero, List.set_cons_succ])
          refine Man.take1 (i := 1) (v := ?_) rfl (by kernel_rfl) (by kernel_rfl) (by kernel_rfl) (fun _ _ _ h => h) (by rfl) ?_ hHeld ?_
          rotate_left
          · (intro u hSu; (try dsimp only at hSu); go_simp; (try with_reducible rfl))
          (try simp only [Act.put, List.setIfInBounds_toArray, List.set_cons_zero, List.set_cons_succ])
          refine Man.take1 (i := 2) (v := ?_) rfl (by kernel_rfl) (by kernel_rfl) (by kernel_rfl) (fun _ _ _ h => h) (by rfl) ?_ hHeld ?_
          rotate_left
          · (intro u hSu; (try dsimp only at hSu); go_simp; (try with_reducible rfl))
          (try simp only [Act.put, List.setIfInBounds_toArray, List.set_cons_zero, List.set_cons_succ])
          refine Man.take1 (i := 3) (v := ?_) rfl (by kernel_rfl) (by kernel_rfl) (by kernel_rfl) (fun _ _ _ h => h) (by rfl) ?_ hHeld ?_
          rotate_left
          · (intro u hSu; (try dsimp only at hSu); go_simp; (try with_reducible rfl))
          (try simp only [Act.put, List.setIfInBounds_toArray, List.set_cons_zero, List.set_cons_succ])
          refine Man.take1 (i := 4) (v := ?_) rfl (by kernel_rfl) (by kernel_rfl) (by kernel_rfl) (fun _ _ _ h => h) (by rfl) ?_ hHeld ?_
          rotate_left
          · (intro u hSu; (try dsimp only at hSu); go_simp; (try with_reducible rfl))
          (try simp only [Act.put, List.setIfInBounds_toArray, List.set_cons_zero, List.set_cons_succ])
          refine Man.take1 (i := 5) (v := ?_) rfl (by kernel_rfl) (by kernel_rfl) (by kernel_rfl) (fun _ _ _ h => h) (by rfl) ?_ hHeld ?_
          rotate_left
          · (intro u hSu; (try dsimp only at hSu); go_simp; (try with_reducible rfl))
          (try simp only [Act.put, List.setIfInBounds_toArray, List.set_cons_zero, List.set_cons_succ])
          refine Man.take1 (i := 6) (v := ?_) rfl (by kernel_rfl) (by kernel_rfl) (by kernel_rfl) (fun _ _ _ h => h) (by rfl) ?_ hHeld ?_
          rotate_left
          · (intro u hSu; (try dsimp only at hSu); go_simp; (try with_reducible rfl))
          (try simp only [Act.put, List.setIfInBounds_toArray, List.set_cons_zero, List.set_cons_succ])
          refine Man.take1 (i := 7) (v := ?_) rfl (by kernel_rfl) (by kernel_rfl) (by kernel_rfl) (fun _ _ _ h => h) (by rfl) ?_ hHeld ?_
          rotate_left
          · (intro u hSu; (try dsimp only at hSu); go_simp; (try with_reducible rfl))
          (try simp only [Act.put, List.setIfInBounds_toArray, List.set_cons_zero, List.set_cons_succ])
          refine Man.take1 (i := 8) (v := ?_) rfl (by kernel_rfl) (by kernel_rfl) (by kernel_rfl) (fun _ _ _ h => h) (by rfl) ?_ hHeld ?_
          rotate_left
          · (intro u hSu; (try dsimp only at hSu); go_simp; (try with_reducible rfl))
          (try simp only [Act.put, List.setIfInBounds_toArray, List.set_cons_zero, List.set_cons_succ])
          refine Man.take1 (i := 9) (v := ?_) rfl (by kernel_rfl) (by kernel_rfl) (by kernel_rfl) (fun _ _ _ h => h) (by rfl) ?_ hHeld ?_
          rotate_left
          · (intro u hSu; (try dsimp only at hSu); go_simp; (try with_reducible rfl))
          (try simp only [Act.put, List.setIfInBounds_toArray, List.set_cons_zero, List.set_cons_succ])
          refine Man.take1 (i := 10) (v := ?_) rfl (by kernel_rfl) (by kernel_rfl) (by kernel_rfl) (fun _ _ _ h => h) (by rfl) ?_ hHeld ?_
          rotate_left
          · (intro u hSu; (try dsimp only at hSu); go_simp; (try with_reducible rfl))
          (try simp only [Act.put, List.setIfInBounds_toArray, List.set_cons_zero, List.set_cons_succ])
          refine Man.take1 (i := 11) (v := ?_) rfl (by kernel_rfl) (by kernel_rfl) (by kernel_rfl) (fun _ _ _ h => h) (by rfl) ?_ hHeld ?_
          rotate_left
          · (intro u hSu; (try dsimp only at hSu); go_simp; (try with_reducible rfl))
          (try simp only [Act.put, List.setIfInBounds_toArray, List.set_cons_zero, List.set_cons_succ])
          refine Man.take1 (i := 12) (v := ?_) rfl (by kernel_rfl) (by kernel_rfl) (by kernel_rfl) (fun _ _ _ h => h) (by rfl) ?_ hHeld ?_
          rotate_left
          · (intro u hSu; (try dsimp only at hSu); go_simp; (try with_reducible rfl))
          (try simp only [Act.put, List.setIfInBounds_toArray, List.set_cons_zero, List.set_cons_succ])
          refine Man.take1 (i := 13) (v := ?_) rfl (by kernel_rfl) (by kernel_rfl) (by kernel_rfl) (fun _ _ _ h => h) (by rfl) ?_ hHeld ?_
          rotate_left
          · (intro u hSu; (try dsimp only at hSu); go_simp; (try with_reducible rfl))
          (try simp only [Act.put, List.setIfInBounds_toArray, List.set_cons_zero, List.set_cons_succ])
          refine Man.take1 (i := 14) (v := ?_) rfl (by kernel_rfl) (by kernel_rfl) (by kernel_rfl) (fun _ _ _ h => h) (by rfl) ?_ hHeld ?_
          rotate_left
          · (intro u hSu; (try dsimp only at hSu); go_simp; (try with_reducible rfl))
          (try simp only [Act.put, List.setIfInBounds_toArray, List.set_cons_zero, List.set_cons_succ])
          refine Man.take1 (i := 15) (v := ?_) rfl (by kernel_rfl) (by kernel_rfl) (by kernel_rfl) (fun _ _ _ h => h) (by rfl) ?_ hHeld ?_
          rotate_left
          · (intro u hSu; (try dsimp only at hSu); go_simp; (try with_reducible rfl))
          (try simp only [Act.put, List.setIfInBounds_toArray, List.set_cons_zero, List.set_cons_succ])
          refine Man.take1 (i := 16) (v := ?_) rfl (by kernel_rfl) (by kernel_rfl) (by kernel_rfl) (fun _ _ _ h => h) (by rfl) ?_ hHeld ?_
          rotate_left
          · (intro u hSu; (try dsimp only at hSu); go_simp; (try with_reducible rfl))
          (try simp only [Act.put, List.setIfInBounds_toArray, List.set_cons_zero, List.set_cons_succ])
          refine Man.take1 (i := 17) (v := ?_) rfl (by kernel_rfl) (by kernel_rfl) (by kernel_rfl) (fun _ _ _ h => h) (by rfl) ?_ hHeld ?_
          rotate_left
          · (intro u hSu; (try dsimp only at hSu); go_simp; (try with_reducible rfl))
          (try simp only [Act.put, List.setIfInBounds_toArray, List.set_cons_zero, List.set_cons_succ])
          refine Man.take1 (i := 18) (v := ?_) rfl (by kernel_rfl) (by kernel_rfl) (by kernel_rfl) (fun _ _ _ h => h) (by rfl) ?_ hHeld ?_
          rotate_left
          · (intro u hSu; (try dsimp only at hSu); go_simp; (try with_reducible rfl))
          (try simp only [Act.put, List.setIfInBounds_toArray, List.set_cons_zero, List.set_cons_succ])
          refine Man.take1 (i := 19) (v := ?_) rfl (by kernel_rfl) (by kernel_rfl) (by kernel_rfl) (fun _ _ _ h => h) (by rfl) ?_ hHeld ?_
          rotate_left
          · (intro u hSu; (try dsimp only at hSu); go_simp; (try with_reducible rfl))
          (try simp only [Act.put, List.setIfInBounds_toArray, List.set_cons_zero, List.set_cons_succ])
          refine Man.take1 (i := 20) (v := ?_) rfl (by kernel_rfl) (by kernel_rfl) (by kernel_rfl) (fun _ _ _ h => h) (by rfl) ?_ hHeld ?_
          rotate_left
          · (intro u hSu; (try dsimp only at hSu); go_simp; (try with_reducible rfl))
          (try simp only [Act.put, List.setIfInBounds_toArray, List.set_cons_zero, List.set_cons_succ])
          refine Man.take1 (i := 21) (v := ?_) rfl (by kernel_rfl) (by kernel_rfl) (by kernel_rfl) (fun _ _ _ h => h) (by rfl) ?_ hHeld ?_
          rotate_left
          · (intro u hSu; (try dsimp only at hSu); go_simp; (try with_reducible rfl))
          (try simp only [Act.put, List.setIfInBounds_toArray, List.set_cons_zero, List.set_cons_succ])
          refine Man.take1 (i := 22) (v := ?_) rfl (by kernel_rfl) (by kernel_rfl) (by kernel_rfl) (fun _ _ _ h => h) (by rfl) ?_ hHeld ?_
          rotate_left
          · (intro u hSu; (try dsimp only at hSu); go_simp; (try with_reducible rfl))
          (try simp only [Act.put, List.setIfInBounds_toArray, List.set_cons_zero, List.set_cons_succ])
          refine Man.take1 (i := 23) (v := ?_) rfl (by kernel_rfl) (by kernel_rfl) (by kernel_rfl) (fun _ _ _ h => h) (by rfl) ?_ hHeld ?_
          rotate_left
          · (intro u hSu; (try dsimp only at hSu); go_simp; (try with_reducible rfl))
          (try simp only [Act.put, List.setIfInBounds_toArray, List.set_cons_zero, List.set_cons_succ])
          refine Man.take1 (i := 24) (v := ?_) rfl (by kernel_rfl) (by kernel_rfl) (by kernel_rfl) (fun _ _ _ h => h) (by rfl) ?_ hHeld ?_
          rotate_left
          · (intro u hSu; (try dsimp only at hSu); go_simp; (try with_reducible rfl))
          (try simp only [Act.put, List.setIfInBounds_toArray, List.set_cons_zero, List.set_cons_succ])
          refine Man.take1 (i := 25) (v := ?_) rfl (by kernel_rfl) (by kernel_rfl) (by kernel_rfl) (fun _ _ _ h => h) (by rfl) ?_ hHeld ?_
          rotate_left
          · (intro u hSu; (try dsimp only at hSu); go_simp; (try with_reducible rfl))
          (try simp only [Act.put, List.setIfInBounds_toArray, List.set_cons_zero, List.set_cons_succ])
          refine Man.take1 (i := 26) (v := ?_) rfl (by kernel_rfl) (by kernel_rfl) (by kernel_rfl) (fun _ _ _ h => h) (by rfl) ?_ hHeld ?_
          rotate_left
          · (intro u hSu; (try dsimp only at hSu); go_simp; (try with_reducible rfl))
          (try simp only [Act.put, List.setIfInBounds_toArray, List.set_cons_zero, List.set_cons_succ])
          refine Man.take0 (i := 27) rfl (by kernel_rfl) (by kernel_rfl) (by kernel_rfl) (fun _ _ _ h => h) (by rfl) hHeld ?_
          (try simp only [Act.put, List.setIfInBounds_toArray, List.set_cons_zero, List.set_cons_succ])
          refine Man.take0 (i := 28) rfl (by kernel_rfl) (by kernel_rfl) (by kernel_rfl) (fun _ _ _ h => h) (by rfl) hHeld ?_
          (try simp only [Act.put, List.setIfInBounds_toArray, List.set_cons_zero, List.set_cons_succ])
          refine Man.take0 (i := 29) rfl (by kernel_rfl) (by kernel_rfl) (by kernel_rfl) (fun _ _ _ h => h) (by rfl) hHeld ?_
          (try simp only [Act.put, List.setIfInBounds_toArray, List.set_cons_zero, List.set_cons_succ])
          refine Man.take0 (i := 30) rfl (by kernel_rfl) (by kernel_rfl) (by kernel_rfl) (fun _ _ _ h => h) (by rfl) hHeld ?_
          (try simp only [Act.put, List.setIfInBounds_toArray, List.set_cons_zero, List.set_cons_succ])
          refine Man.take0 (i := 31) rfl (by kernel_rfl) (by kernel_rfl) (by kernel_rfl) (fun _ _ _ h => h) (by rfl) hHeld ?_
          (try simp only [Act.put, List.setIfInBounds_toArray, List.set_cons_zero, List.set_cons_succ])
          refine Man.take0 (i := 32) rfl (by kernel_rfl) (by kernel_rfl) (by kernel_rfl) (fun _ _ _ h => h) (by rfl) hHeld ?_
          (try simp only [Act.put, List.setIfInBounds_toArray, List.set_cons_zero, List.set_cons_succ])
          refine Man.take0 (i := 33) rfl (by kernel_rfl) (by kernel_rfl) (by kernel_rfl) (fun _ _ _ h => h) (by rfl) hHeld ?_
          (try simp only [Act.put, List.setIfInBounds_toArray, List.set_cons_zero, List.set_cons_succ])
          refine Man.take1 (i := 34) (v := ?_) rfl (by kernel_rfl) (by kernel_rfl) (by kernel_rfl) (fun _ _ _ h => h) (by rfl) ?_ hHeld ?_
          rotate_left
          · (intro u hSu; (try dsimp only at hSu); go_simp; (try with_reducible rfl))
          (try simp only [Act.put, List.setIfInBounds_toArray, List.set_cons_zero, List.set_cons_succ])
          refine Man.take1 (i := 35) (v := ?_) rfl (by kernel_rfl) (by kernel_rfl) (by kernel_rfl) (fun _ _ _ h => h) (by rfl) ?_ hHeld ?_
          rotate_left
          · (intro u hSu; (try dsimp only at hSu); go_simp; (try with_reducible rfl))
          (try simp only [Act.put, List.setIfInBounds_toArray, List.set_cons_zero, List.set_cons_succ])
          refine wpAnyH_done (by kernel_rfl) ?_ _
          go_wp2_with fail
          go_roundw
          case rel => exact ⟨kj, rfl, HKJ2.out, hidm ⟨HWZ.out.keep (HZ.out.kept HBD.out), HNZ.out.keep (HZ.out.kept HBD.out), HZ.out.later HBD.out⟩⟩
          case measure => have := HKJ.out; simp [intOf]; omega
        · have k2 : ((k : Int) != page) = true := by simp [hkp]
          have k3 : ((k : Int) == page) = false := by simp [hkp]
          obtain ⟨ng, nc, hne1, cn⟩ := TextsAt.at HNZ.out.1 k (by rw [all_len]; exact hkl)
          obtain ⟨wg, wc, hwe1, cw⟩ := TextsAt.at HWZ.out.1 k (by rw [all_len]; exact hkl)
          rw [all_at] at cn cw
          simp only [Value.slice.injEq] at hne1 hwe1
          obtain ⟨rfl, -, rfl⟩ := hne1
          obtain ⟨rfl, -, rfl⟩ := hwe1
          have hov : over chW V2 k = over [] V2 k := by rw [HCH.out]
          rw [hov] at cn
          obtain ⟨tx, htx⟩ : ∃ t, t = over [] V2 k := ⟨_, rfl⟩
          rw [← htx] at cw cn
          clear htx hov
          go_upto_region 22 with fail
          have HBD := hidm ((Below.refl wz.heap.size wz).drew)
          have HZd := hidm (HZ.out.later HBD.out)
          refine wp_region_held_drew (S := fun u => u.cell? ⟨ng, k, none⟩ = some (.string (S tx)) ∧ u.cell? ⟨wg, k, none⟩ = some (.string (S tx))) (by kernel_rfl) ⟨cn, cw⟩ (fun hHeld => ?_)
          clear cn cw
          refine Man.take1 (i := 0) (v := ?_) rfl (by kernel_rfl) (by kernel_rfl) (by kernel_rfl) (fun _ _ _ h => h) (by rfl) ?_ hHeld ?_
          rotate_left
          · (intro u hSu; (try dsimp only at hSu); go_simp; (try with_reducible rfl))
          (try simp only [Act.put, List.setIfInBounds_toArray, List.set_cons_zero, List.set_cons_succ])
          refine Man.take1 (i := 1) (v := ?_) rfl (by kernel_rfl) (by kernel_rfl) (by kernel_rfl) (fun _ _ _ h => h) (by rfl) ?_ hHeld ?_
          rotate_left
          · (intro u hSu; (try dsimp only at hSu); go_simp; (try with_reducible rfl))
          (try simp only [Act.put, List.setIfInBounds_toArray, List.set_cons_zero, List.set_cons_succ])
          refine Man.take1 (i := 2) (v := ?_) rfl (by kernel_rfl) (by kernel_rfl) (by kernel_rfl) (fun _ _ _ h => h) (by rfl) ?_ hHeld ?_
          rotate_left
          · (intro u hSu; (try dsimp only at hSu); go_simp; (try with_reducible rfl))
          (try simp only [Act.put, List.setIfInBounds_toArray, List.set_cons_zero, List.set_cons_succ])
          refine Man.take1 (i := 3) (v := ?_) rfl (by kernel_rfl) (by kernel_rfl) (by kernel_rfl) (fun _ _ _ h => h) (by rfl) ?_ hHeld ?_
          rotate_left
          · (intro u hSu; (try dsimp only at hSu); go_simp; (try with_reducible rfl))
          (try simp only [Act.put, List.setIfInBounds_toArray, List.set_cons_zero, List.set_cons_succ])
          refine Man.take0 (i := 4) rfl (by kernel_rfl) (by kernel_rfl) (by kernel_rfl) (fun _ _ _ h => h) (by rfl) hHeld ?_
          (try simp only [Act.put, List.setIfInBounds_toArray, List.set_cons_zero, List.set_cons_succ])
          refine Man.take0 (i := 5) rfl (by kernel_rfl) (by kernel_rfl) (by kernel_rfl) (fun _ _ _ h => h) (by rfl) hHeld ?_
          (try simp only [Act.put, List.setIfInBounds_toArray, List.set_cons_zero, List.set_cons_succ])
          refine Man.take1 (i := 6) (v := ?_) rfl (by kernel_rfl) (by kernel_rfl) (by kernel_rfl) (fun _ _ _ h => h) (by rfl) ?_ hHeld ?_
          rotate_left
          · (intro u hSu; (try dsimp only at hSu); go_simp; (try with_reducible rfl))
          (try simp only [Act.put, List.setIfInBounds_toArray, List.set_cons_zero, List.set_cons_succ])
          refine Man.take1 (i := 7) (v := ?_) rfl (by kernel_rfl) (by kernel_rfl) (by kernel_rfl) (fun _ _ _ h => h) (by rfl) ?_ hHeld ?_
          rotate_left
          · (intro u hSu; (try dsimp only at hSu); go_simp; (try with_reducible rfl))
          (try simp only [Act.put, List.setIfInBounds_toArray, List.set_cons_zero, List.set_cons_succ])
          refine Man.take1 (i := 8) (v := ?_) rfl (by kernel_rfl) (by kernel_rfl) (by kernel_rfl) (fun _ _ _ h => h) (by rfl) ?_ hHeld ?_
          rotate_left
          · (intro u hSu; (try dsimp only at hSu); go_simp; (try with_reducible rfl))
          (try simp only [Act.put, List.setIfInBounds_toArray, List.set_cons_zero, List.set_cons_succ])
          refine Man.take1 (i := 9) (v := ?_) rfl (by kernel_rfl) (by kernel_rfl) (by kernel_rfl) (fun _ _ _ h => h) (by rfl) ?_ hHeld ?_
          rotate_left
          · (intro u hSu; (try dsimp only at hSu); go_simp; (try with_reducible rfl))
          (try simp only [Act.put, List.setIfInBounds_toArray, List.set_cons_zero, List.set_cons_succ])
          refine Man.take1 (i := 10) (v := ?_) rfl (by kernel_rfl) (by kernel_rfl) (by kernel_rfl) (fun _ _ _ h => h) (by rfl) ?_ hHeld ?_
          rotate_left
          · (intro u hSu; (try dsimp only at hSu); go_simp; (try with_reducible rfl))
          (try simp only [Act.put, List.setIfInBounds_toArray, List.set_cons_zero, List.set_cons_succ])
          refine Man.take1 (i := 11) (v := ?_) rfl (by kernel_rfl) (by kernel_rfl) (by kernel_rfl) (fun _ _ _ h => h) (by rfl) ?_ hHeld ?_
          rotate_left
          · (intro u hSu; (try dsimp only at hSu); go_simp; (try with_reducible rfl))
          (try simp only [Act.put, List.setIfInBounds_toArray, List.set_cons_zero, List.set_cons_succ])
          refine Man.take1 (i := 12) (v := ?_) rfl (by kernel_rfl) (by kernel_rfl) (by kernel_rfl) (fun _ _ _ h => h) (by rfl) ?_ hHeld ?_
          rotate_left
          · (intro u hSu; (try dsimp only at hSu); go_simp; (try with_reducible rfl))
          (try simp only [Act.put, List.setIfInBounds_toArray, List.set_cons_zero, List.set_cons_succ])
          refine Man.take1 (i := 13) (v := ?_) rfl (by kernel_rfl) (by kernel_rfl) (by kernel_rfl) (fun _ _ _ h => h) (by rfl) ?_ hHeld ?_
          rotate_left
          · (intro u hSu; (try dsimp only at hSu); go_simp; (try with_reducible rfl))
          (try simp only [Act.put, List.setIfInBounds_toArray, List.set_cons_zero, List.set_cons_succ])
          refine Man.take1 (i := 14) (v := ?_) rfl (by kernel_rfl) (by kernel_rfl) (by kernel_rfl) (fun _ _ _ h => h) (by rfl) ?_ hHeld ?_
          rotate_left
          · (intro u hSu; (try dsimp only at hSu); go_simp; (try with_reducible rfl))
          (try simp only [Act.put, List.setIfInBounds_toArray, List.set_cons_zero, List.set_cons_succ])
          refine Man.take1 (i := 15) (v := ?_) rfl (by kernel_rfl) (by kernel_rfl) (by kernel_rfl) (fun _ _ _ h => h) (by rfl) ?_ hHeld ?_
          rotate_left
          · (intro u hSu; (try dsimp only at hSu); go_simp; (try with_reducible rfl))
          (try simp only [Act.put, List.setIfInBounds_toArray, List.set_cons_zero, List.set_cons_succ])
          refine Man.take1 (i := 16) (v := ?_) rfl (by kernel_rfl) (by kernel_rfl) (by kernel_rfl) (fun _ _ _ h => h) (by rfl) ?_ hHeld ?_
          rotate_left
          · (intro u hSu; (try dsimp only at hSu); go_simp; (try with_reducible rfl))
          (try simp only [Act.put, List.setIfInBounds_toArray, List.set_cons_zero, List.set_cons_succ])
          refine Man.take1 (i := 17) (v := ?_) rfl (by kernel_rfl) (by kernel_rfl) (by kernel_rfl) (fun _ _ _ h => h) (by rfl) ?_ hHeld ?_
          rotate_left
          · (intro u hSu; (try dsimp only at hSu); go_simp; (try with_reducible rfl))
          (try simp only [Act.put, List.setIfInBounds_toArray, List.set_cons_zero, List.set_cons_succ])
          refine Man.take1 (i := 18) (v := ?_) rfl (by kernel_rfl) (by kernel_rfl) (by kernel_rfl) (fun _ _ _ h => h) (by rfl) ?_ hHeld ?_
          rotate_left
          · (intro u hSu; (try dsimp only at hSu); go_simp; (try with_reducible rfl))
          (try simp only [Act.put, List.setIfInBounds_toArray, List.set_cons_zero, List.set_cons_succ])
          refine Man.take1 (i := 19) (v := ?_) rfl (by kernel_rfl) (by kernel_rfl) (by kernel_rfl) (fun _ _ _ h => h) (by rfl) ?_ hHeld ?_
          rotate_left
          · (intro u hSu; (try dsimp only at hSu); go_simp; (try with_reducible rfl))
          (try simp only [Act.put, List.setIfInBounds_toArray, List.set_cons_zero, List.set_cons_succ])
          refine Man.take1 (i := 20) (v := ?_) rfl (by kernel_rfl) (by kernel_rfl) (by kernel_rfl) (fun _ _ _ h => h) (by rfl) ?_ hHeld ?_
          rotate_left
          · (intro u hSu; (try dsimp only at hSu); go_simp; (try with_reducible rfl))
          (try simp only [Act.put, List.setIfInBounds_toArray, List.set_cons_zero, List.set_cons_succ])
          refine Man.take1 (i := 21) (v := ?_) rfl (by kernel_rfl) (by kernel_rfl) (by kernel_rfl) (fun _ _ _ h => h) (by rfl) ?_ hHeld ?_
          rotate_left
          · (intro u hSu; (try dsimp only at hSu); go_simp; (try with_reducible rfl))
          (try simp only [Act.put, List.setIfInBounds_toArray, List.set_cons_zero, List.set_cons_succ])
          refine Man.take1 (i := 22) (v := ?_) rfl (by kernel_rfl) (by kernel_rfl) (by kernel_rfl) (fun _ _ _ h => h) (by rfl) ?_ hHeld ?_
          rotate_left
          · (intro u hSu; (try dsimp only at hSu); go_simp; (try with_reducible rfl))
          (try simp only [Act.put, List.setIfInBounds_toArray, List.set_cons_zero, List.set_cons_succ])
          refine Man.take0 (i := 23) rfl (by kernel_rfl) (by kernel_rfl) (by kernel_rfl) (fun _ _ _ h => h) (by rfl) hHeld ?_
          (try simp only [Act.put, List.setIfInBounds_toArray, List.set_cons_zero, List.set_cons_succ])
          refine Man.take0 (i := 24) rfl (by kernel_rfl) (by kernel_rfl) (by kernel_rfl) (fun _ _ _ h => h) (by rfl) hHeld ?_
          (try simp only [Act.put, List.setIfInBounds_toArray, List.set_cons_zero, List.set_cons_succ])
          refine Man.take1 (i := 25) (v := ?_) rfl (by kernel_rfl) (by kernel_rfl) (by kernel_rfl) (fun _ _ _ h => h) (by rfl) ?_ hHeld ?_
          rotate_left
          · (intro u hSu; (try dsimp only at hSu); go_simp; (try with_reducible rfl))
          (try simp only [Act.put, List.setIfInBounds_toArray, List.set_cons_zero, List.set_cons_succ])
          refine Man.take1 (i := 26) (v := ?_) rfl (by kernel_rfl) (by kernel_rfl) (by kernel_rfl) (fun _ _ _ h => h) (by rfl) ?_ hHeld ?_
          rotate_left
          · (intro u hSu; (try dsimp only at hSu); go_simp; (try with_reducible rfl))
          (try simp only [Act.put, List.setIfInBounds_toArray, List.set_cons_zero, List.set_cons_succ])
          refine Man.take0 (i := 27) rfl (by kernel_rfl) (by kernel_rfl) (by kernel_rfl) (fun _ _ _ h => h) (by rfl) hHeld ?_
          (try simp only [Act.put, List.setIfInBounds_toArray, List.set_cons_zero, List.set_cons_succ])
          refine Man.take0 (i := 28) rfl (by kernel_rfl) (by kernel_rfl) (by kernel_rfl) (fun _ _ _ h => h) (by rfl) hHeld ?_
          (try simp only [Act.put, List.setIfInBounds_toArray, List.set_cons_zero, List.set_cons_succ])
          refine Man.take0 (i := 29) rfl (by kernel_rfl) (by kernel_rfl) (by kernel_rfl) (fun _ _ _ h => h) (by rfl) hHeld ?_
          (try simp only [Act.put, List.setIfInBounds_toArray, List.set_cons_zero, List.set_cons_succ])
          refine Man.take0 (i := 30) rfl (by kernel_rfl) (by kernel_rfl) (by kernel_rfl) (fun _ _ _ h => h) (by rfl) hHeld ?_
          (try simp only [Act.put, List.setIfInBounds_toArray, List.set_cons_zero, List.set_cons_succ])
          refine Man.take0 (i := 31) rfl (by kernel_rfl) (by kernel_rfl) (by kernel_rfl) (fun _ _ _ h => h) (by rfl) hHeld ?_
          (try simp only [Act.put, List.setIfInBounds_toArray, List.set_cons_zero, List.set_cons_succ])
          refine Man.take0 (i := 32) rfl (by kernel_rfl) (by kernel_rfl) (by kernel_rfl) (fun _ _ _ h => h) (by rfl) hHeld ?_
          (try simp only [Act.put, List.setIfInBounds_toArray, List.set_cons_zero, List.set_cons_succ])
          refine Man.take0 (i := 33) rfl (by kernel_rfl) (by kernel_rfl) (by kernel_rfl) (fun _ _ _ h => h) (by rfl) hHeld ?_
          (try simp only [Act.put, List.setIfInBounds_toArray, List.set_cons_zero, List.set_cons_succ])
          refine Man.take1 (i := 34) (v := ?_) rfl (by kernel_rfl) (by kernel_rfl) (by kernel_rfl) (fun _ _ _ h => h) (by rfl) ?_ hHeld ?_
          rotate_left
          · (intro u hSu; (try dsimp only at hSu); go_simp; (try with_reducible rfl))
          (try simp only [Act.put, List.setIfInBounds_toArray, List.set_cons_zero, List.set_cons_succ])
          refine Man.take1 (i := 35) (v := ?_) rfl (by kernel_rfl) (by kernel_rfl) (by kernel_rfl) (fun _ _ _ h => h) (by rfl) ?_ hHeld ?_
          rotate_left
          · (intro u hSu; (try dsimp only at hSu); go_simp; (try with_reducible rfl))
          (try simp only [Act.put, List.setIfInBounds_toArray, List.set_cons_zero, List.set_cons_succ])
          refine wpAnyH_done (by kernel_rfl) ?_ _
          go_wp2_with fail
          go_roundw
          case rel => exact ⟨kj, rfl, HKJ2.out, hidm ⟨HWZ.out.keep (HZ.out.kept HBD.out), HNZ.out.keep (HZ.out.kept HBD.out), HZ.out.later HBD.out⟩⟩
          case measure => have := HKJ.out; simp [intOf]; omega
      · obtain rfl : k = 20 := by omega
        have k1 : ¬ (20 : Int) < 20 := by omega
        go_wp2_with fail
        refine (known_any _).mono ?_
        rintro e wk ⟨rfl, hb⟩
        have HB := hidm (HZ.out.bel.trans (hb.mono HZ.out.bel.size))
        clear hb
        go_wp2_with fail
        go_ret
        exact ⟨by trivial, HB.out⟩
set_option maxHeartbeats 16000000 in
set_option maxRecDepth 100000 in
theorem law_B (l : List Opv) (v0 : Value) (page : Int) (s : ByteArray) (w : World) (hl : OpsAt l v0 w) (hin : ∀ x ∈ l, x.inn) (hs : ¬ 300 < s.size) (hcase : 1 ≤ page ∧ ¬ page < 20) :
    Calls Tryz.prog 8 #[v0, .int .i64 page, .string s] w fun e w' => e = .returned (.bool true) ∧ Below w.heap.size w w' := by
  have g0 : ¬ (300 : Int) < (s.size : Int) := by omega
  have N0 := hidm (Dsk.m_new (W := w) (w := w) 60 (by omega) (by omega) (Below.refl _ _))
  have HIN := hidm hin
  obtain ⟨p1, p2⟩ := hcase
  obtain ⟨lo, lc, rfl, hlc, hlcm⟩ := hl.form
  obtain ⟨ll, hll⟩ : ∃ n, n = l.length := ⟨_, rfl⟩
  have HLLll := hidm hll
  have HSLll := hidm hl
  rw [← hll]
  have hll2 : ll ≤ 9223372036854775807 := by omega
  clear hl hll hlc hlcm
  clear hin
  go_enter Tryz.func8, Tryz.ntmps8
  go_wp2_with fail
  refine N0.out.mono ?_
  rintro e w1 ⟨rfl, hm1, hb1⟩
  have R1 := hidm (Re.new (n := 38) (N := 20) (by omega) hm1)
  obtain ⟨D, hD⟩ : ∃ D, D = w.heap.size + 1 := ⟨_, rfl⟩
  rw [← hD] at R1 ⊢
  clear hD hm1 hb1 N0
  go_wp2_with fail
  refine (R1.out.open (by omega) (by omega) (by omega) 40 rfl).mono ?_
  rintro e w2 ⟨P, L, rfl, h2, _⟩
  have H2 := hidm (show Lv w (fun _ => False) P L D 38 20 2000 true [] (fun _ => zeros) w2 from h2.more (by omega))
  clear h2 R1
  go_upto_block 0 with fail
  go_cut [11] (fun _ wx => ∃ (ch : Ch) (V : Nat → List UInt8), Hid (Lv w (fun _ => False) P L D 38 20 (2000 + 90000) true ch V wx))
  case first =>
    go_wp2_with fail
    go_loopw [11] (fun ii wr => ∃ (i : Nat) (ch : Ch) (V : Nat → List UInt8), ii = .int .i64 i ∧ i ≤ ll ∧ i ≤ 30 ∧ Hid (Lv w (fun _ => False) P L D 38 20 (2000 + 3000 * i) true ch V wr)) (fun ii _ => (ll - (intOf ii).toNat))
    case atStart => exact ⟨0, _, _, rfl, by omega, by omega, H2⟩
    case round =>
      rename World => wr
      obtain ⟨i, ch, V, rfl, hi, hi3, HLV⟩ := hrel
      by_cases hlt : i < ll ∧ i < 30
      · obtain ⟨hlt, hlt2⟩ := hlt
        have g1 : (i : Int) < (ll : Int) := by omega
        have g2 : (i : Int) < 30 := by omega
        have hil : i < l.length := by rw [← HLLll.out]; exact hlt
        obtain ⟨b', o, cp, he, hbl, q0, q1, q2, q3⟩ := HSLll.out.at i hil
        have HXI0 := HIN.out _ (List.getElem_mem hil)
        have he2 : (Value.slice lo ll lc) = .slice (some ⟨b', o, none⟩) l.length cp := by rw [HLLll.out]; exact he
        simp only [Value.slice.injEq] at he2
        obtain ⟨rfl, -, rfl⟩ := he2
        clear he
        obtain ⟨x, hx⟩ : ∃ x, x = l[i] := ⟨_, rfl⟩
        rw [← hx] at q0 q1 q2 q3 HXI0
        have HXI := hidm HXI0
        clear hx HXI0
        have hbel := HLV.out.bel
        have c0 := (hbel.cell (p := ⟨b', o + i * 4, none⟩) hbl).trans q0
        have c1 := (hbel.cell (p := ⟨b', o + i * 4 + 1, none⟩) hbl).trans q1
        have c2 := (hbel.cell (p := ⟨b', o + i * 4 + 2, none⟩) hbl).trans q2
        have c3 := (hbel.cell (p := ⟨b', o + i * 4 + 3, none⟩) hbl).trans q3
        have i1 : (i : Int) + 1 = ((i + 1 : Nat) : Int) := by omega
        obtain ⟨j, hj⟩ : ∃ j, j = i + 1 := ⟨_, rfl⟩
        rw [← hj] at i1
        have i1w : IntKind.i64.wrap (j : Int) = (j : Int) := by simp only [IntKind.wrap_i64]; omega
        have HJ := hidm hj
        have HJ2 := hidm (show j ≤ ll ∧ j ≤ 30 from by omega)
        clear hj hbel q0 q1 q2 q3
        by_cases hkd : x.kind < 5
        · have HKD := hidm hkd
          by_cases hsz : x.s.size < 200
          · have g3 : (x.s.size : Int) < 200 := by omega
            clear hsz
            go_wp2_with fail
            refine (HLV.out.do_all x HXI.out (by omega) HLV.out.fits (by omega)).mono ?_
            rintro e w3 ⟨a, c, sx, ch3, V3, rfl, h3, k3⟩
            have H3 := hidm h3
            clear h3 k3 c0 c1 c2 c3
            go_wp2_with fail
            go_roundw
            case rel => exact ⟨j, ch3, V3, rfl, HJ2.out.1, HJ2.out.2, hidm (H3.out.more (by rw [HJ.out]; omega))⟩
            case measure => have := HJ.out; simp [intOf]; omega
          · have g3 : ¬ (x.s.size : Int) < 200 := by omega
            clear hsz
            go_wp2_with fail
            go_roundw
            case rel => exact ⟨j, ch, V, rfl, HJ2.out.1, HJ2.out.2, hidm (HLV.out.more (by rw [HJ.out]; omega))⟩
            case measure => have := HJ.out; simp [intOf]; omega
        · go_wp2_with fail
          go_roundw
          case rel => exact ⟨j, ch, V, rfl, HJ2.out.1, HJ2.out.2, hidm (HLV.out.more (by rw [HJ.out]; omega))⟩
          case measure => have := HJ.out; simp [intOf]; omega
      · have HLVE := hidm (show Lv w (fun _ => False) P L D 38 20 (2000 + 90000) true ch V wr from HLV.out.more (by omega))
        clear HLV H2
        by_cases hge : i < ll
        · have g1 : (i : Int) < (ll : Int) := by omega
          have g2 : ¬ (i : Int) < 30 := by omega
          go_wp2_with fail
          go_meet
          exact ⟨_, _, HLVE⟩
        · obtain rfl : i = ll := by omega
          have g1 : ¬ (i : Int) < (i : Int) := by omega
          go_wp2_with fail
          go_meet
          exact ⟨_, _, HLVE⟩
  case rest =>
    obtain ⟨ch, V, HLVE⟩ := hcut
    clear H2
    go_wp2_with fail
    refine (HLVE.out.commit (by omega) HLVE.out.fits (by omega)).mono ?_
    rintro e w4 hcm
    rcases hcm with ⟨rfl, h4, k4⟩ | ⟨hu, _⟩
    rotate_left
    · cases hu
    have H4 := hidm h4
    clear h4 k4 HLVE
    obtain ⟨V2, hV2⟩ : ∃ V2, V2 = over ch V := ⟨_, rfl⟩
    rw [← hV2] at H4
    clear hV2
    go_wp2_with fail
    refine H4.out.pagesQ.mono ?_
    rintro e w5 ⟨wo, wc, Q5, rfl, _, ht5, h5, _⟩
    have HW5 := hidm ht5
    have H5 := hidm h5
    clear ht5 h5 H4
    go_wp2_with fail
    refine (H5.out.write_any page s).mono ?_
    rintro e w6 ⟨cg, chW, rfl, h6, k6, hr6⟩
    have H6 := hidm h6
    have HW6 := hidm (HW5.out.keep k6)
    obtain ⟨hcg, hch⟩ : cg ≠ 0 ∧ chW = [] := by
      rcases hr6 with ⟨h1, h2, _⟩ | ⟨_, h2, h3, h4, _⟩
      · exact ⟨h1, h2⟩
      · omega
    have HCH := hidm hch
    have c0f : (cg == 0) = false := by simpa using hcg
    have c0t : (cg != 0) = true := by simp [bne, c0f]
    clear hr6 hch h6 k6 H5 HW5 hcg
    go_wp2_with fail
    refine H6.out.pagesQ.mono ?_
    rintro e w7 ⟨no, nc, Q7, rfl, hq7, ht7, h7, k7⟩
    have HN7 := hidm ht7
    have H7 := hidm h7
    have HW7 := hidm ((HW6.out.keep k7).mono hq7)
    clear ht7 h7 k7 hq7 H6 HW6
    go_wp2_with fail
    refine H7.out.abort.mono ?_
    rintro e w8 ⟨rfl, h8, k8⟩
    have H8 := hidm h8
    have HN8 := hidm (HN7.out.keep k8)
    have HW8 := hidm (HW7.out.keep k8)
    clear h8 k8 H7 HN7 HW7
    go_wp2_with fail
    refine H8.out.pagesQ.mono ?_
    rintro e w9 ⟨ao, ac, Q9, rfl, hq9, ht9, h9, k9⟩
    have HA9 := hidm ht9
    have H9 := hidm h9
    have HN9 := hidm ((HN8.out.keep k9).mono hq9)
    have HW9 := hidm ((HW8.out.keep k9).mono hq9)
    clear ht9 h9 k9 hq9 H8 HN8 HW8
    go_wp2_with fail
    refine (texts_any _ _ _ _ _ (by rw [all_len]) HA9.out.1 HW9.out.1).mono ?_
    rintro e w10 ⟨rfl, hb10⟩
    rw [decide_eq_true (show all 20 (over [] V2) = all 20 (over [] V2) from rfl)]
    have H10 := hidm (H9.out.later hb10)
    have HN10 := hidm (HN9.out.keep (H9.out.kept hb10))
    have HW10 := hidm (HW9.out.keep (H9.out.kept hb10))
    clear hb10 H9 HN9 HW9 HA9
    go_wp2_with fail
    go_loopw [15] (fun kk wz => ∃ k : Nat, kk = .int .i64 k ∧ k ≤ 20 ∧ Hid (TextsQ Q9 (all 20 (over [] V2)) (.slice wo 20 wc) wz ∧ TextsQ Q9 (all 20 (over chW V2)) (.slice no 20 nc) wz ∧ Lv w Q9 P L D 38 20 95000 true [] V2 wz)) (fun kk _ => (20 - (intOf kk).toNat))
    case atStart => exact ⟨0, rfl, by omega, hidm ⟨HW10.out, HN10.out, H10.out⟩⟩
    case round =>
      rename World => wz
      obtain ⟨k, rfl, hk20, HALL⟩ := hrel
      have HWZ := hidm HALL.out.1
      have HNZ := hidm HALL.out.2.1
      have HZ := hidm HALL.out.2.2
      clear HALL
      rcases Nat.lt_or_ge k 20 with hkl | hkg
      · have k1 : (k : Int) < 20 := by omega
        have k1a : ¬ (k : Int) < 0 := by omega
        have ki : (k : Int) + 1 = ((k + 1 : Nat) : Int) := by omega
        obtain ⟨kj, hkj⟩ : ∃ j, j = k + 1 := ⟨_, rfl⟩
        rw [← hkj] at ki
        have kiw : IntKind.i64.wrap (kj : Int) = (kj : Int) := by simp only [IntKind.wrap_i64]; omega
        have HKJ := hidm hkj
        have HKJ2 := hidm (show kj ≤ 20 from by omega)
        clear hkj
        by_cases hkp : (k : Int) = page
        · have k2 : ((k : Int) != page) = false := by simp [hkp]
          have k3 : ((k : Int) == page) = true := by simp [hkp]
          clear hkp
          obtain ⟨ng, nc, hne1, cn⟩ := TextsAt.at HNZ.out.1 k (by rw [all_len]; exact hkl)
          obtain ⟨wg, wc, hwe1, cw⟩ := TextsAt.at HWZ.out.1 k (by rw [all_len]; exact hkl)
          rw [all_at] at cn cw
          simp only [Value.slice.injEq] at hne1 hwe1
          obtain ⟨rfl, -, rfl⟩ := hne1
          obtain ⟨rfl, -, rfl⟩ := hwe1
          have hov : over chW V2 k = over [] V2 k := by rw [HCH.out]
          rw [hov] at cn
          obtain ⟨tx, htx⟩ : ∃ t, t = over [] V2 k := ⟨_, rfl⟩
          rw [← htx] at cw cn
          clear htx hov
          go_upto_region 22 with fail
          have HBD := hidm ((Below.refl wz.heap.size wz).drew)
          have HZd := hidm (HZ.out.later HBD.out)
          refine wp_region_held_drew (S := fun u => u.cell? ⟨ng, k, none⟩ = some (.string (S tx)) ∧ u.cell? ⟨wg, k, none⟩ = some (.string (S tx))) (by kernel_rfl) ⟨cn, cw⟩ (fun hHeld => ?_)
          clear cn cw
          refine Man.take1 (i := 0) (v := ?_) rfl (by kernel_rfl) (by kernel_rfl) (by kernel_rfl) (fun _ _ _ h => h) (by rfl) ?_ hHeld ?_
          rotate_left
          · (intro u hSu; (try dsimp only at hSu); go_simp; (try with_reducible rfl))
          (try simp only [Act.put, List.setIfInBounds_toArray, List.set_cons_zero, List.set_cons_succ])
          refine Man.take1 (i := 1) (v := ?_) rfl (by kernel_rfl) (by kernel_rfl) (by kernel_rfl) (fun _ _ _ h => h) (by rfl) ?_ hHeld ?_
          rotate_left
          · (intro u hSu; (try dsimp only at hSu); go_simp; (try with_reducible rfl))
          (try simp only [Act.put, List.setIfInBounds_toArray, List.set_cons_zero, List.set_cons_succ])
          refine Man.take1 (i := 2) (v := ?_) rfl (by kernel_rfl) (by kernel_rfl) (by kernel_rfl) (fun _ _ _ h => h) (by rfl) ?_ hHeld ?_
          rotate_left
          · (intro u hSu; (try dsimp only at hSu); go_simp; (try with_reducible rfl))
          (try simp only [Act.put, List.setIfInBounds_toArray, List.set_cons_zero, List.set_cons_succ])
          refine Man.take1 (i := 3) (v := ?_) rfl (by kernel_rfl) (by kernel_rfl) (by kernel_rfl) (fun _ _ _ h => h) (by rfl) ?_ hHeld ?_
          rotate_left
          · (intro u hSu; (try dsimp only at hSu); go_simp; (try with_reducible rfl))
          (try simp only [Act.put, List.setIfInBounds_toArray, List.set_cons_zero, List.set_cons_succ])
          refine Man.take1 (i := 4) (v := ?_) rfl (by kernel_rfl) (by kernel_rfl) (by kernel_rfl) (fun _ _ _ h => h) (by rfl) ?_ hHeld ?_
          rotate_left
          · (intro u hSu; (try dsimp only at hSu); go_simp; (try with_reducible rfl))
          (try simp only [Act.put, List.setIfInBounds_toArray, List.set_cons_zero, List.set_cons_succ])
          refine Man.take1 (i := 5) (v := ?_) rfl (by kernel_rfl) (by kernel_rfl) (by kernel_rfl) (fun _ _ _ h => h) (by rfl) ?_ hHeld ?_
          rotate_left
          · (intro u hSu; (try dsimp only at hSu); go_simp; (try with_reducible rfl))
          (try simp only [Act.put, List.setIfInBounds_toArray, List.set_cons_zero, List.set_cons_succ])
          refine Man.take1 (i := 6) (v := ?_) rfl (by kernel_rfl) (by kernel_rfl) (by kernel_rfl) (fun _ _ _ h => h) (by rfl) ?_ hHeld ?_
          rotate_left
          · (intro u hSu; (try dsimp only at hSu); go_simp; (try with_reducible rfl))
          (try simp only [Act.put, List.setIfInBounds_toArray, List.set_cons_zero, List.set_cons_succ])
          refine Man.take1 (i := 7) (v := ?_) rfl (by kernel_rfl) (by kernel_rfl) (by kernel_rfl) (fun _ _ _ h => h) (by rfl) ?_ hHeld ?_
          rotate_left
          · (intro u hSu; (try dsimp only at hSu); go_simp; (try with_reducible rfl))
          (try simp only [Act.put, List.setIfInBounds_toArray, List.set_cons_zero, List.set_cons_succ])
          refine Man.take1 (i := 8) (v := ?_) rfl (by kernel_rfl) (by kernel_rfl) (by kernel_rfl) (fun _ _ _ h => h) (by rfl) ?_ hHeld ?_
          rotate_left
          · (intro u hSu; (try dsimp only at hSu); go_simp; (try with_reducible rfl))
          (try simp only [Act.put, List.setIfInBounds_toArray, List.set_cons_zero, List.set_cons_succ])
          refine Man.take1 (i := 9) (v := ?_) rfl (by kernel_rfl) (by kernel_rfl) (by kernel_rfl) (fun _ _ _ h => h) (by rfl) ?_ hHeld ?_
          rotate_left
          · (intro u hSu; (try dsimp only at hSu); go_simp; (try with_reducible rfl))
          (try simp only [Act.put, List.setIfInBounds_toArray, List.set_cons_zero, List.set_cons_succ])
          refine Man.take1 (i := 10) (v := ?_) rfl (by kernel_rfl) (by kernel_rfl) (by kernel_rfl) (fun _ _ _ h => h) (by rfl) ?_ hHeld ?_
          rotate_left
          · (intro u hSu; (try dsimp only at hSu); go_simp; (try with_reducible rfl))
          (try simp only [Act.put, List.setIfInBounds_toArray, List.set_cons_zero, List.set_cons_succ])
          refine Man.take1 (i := 11) (v := ?_) rfl (by kernel_rfl) (by kernel_rfl) (by kernel_rfl) (fun _ _ _ h => h) (by rfl) ?_ hHeld ?_
          rotate_left
          · (intro u hSu; (try dsimp only at hSu); go_simp; (try with_reducible rfl))
          (try simp only [Act.put, List.setIfInBounds_toArray, List.set_cons_zero, List.set_cons_succ])
          refine Man.take1 (i := 12) (v := ?_) rfl (by kernel_rfl) (by kernel_rfl) (by kernel_rfl) (fun _ _ _ h => h) (by rfl) ?_ hHeld ?_
          rotate_left
          · (intro u hSu; (try dsimp only at hSu); go_simp; (try with_reducible rfl))
          (try simp only [Act.put, List.setIfInBounds_toArray, List.set_cons_zero, List.set_cons_succ])
          refine Man.take1 (i := 13) (v := ?_) rfl (by kernel_rfl) (by kernel_rfl) (by kernel_rfl) (fun _ _ _ h => h) (by rfl) ?_ hHeld ?_
          rotate_left
          · (intro u hSu; (try dsimp only at hSu); go_simp; (try with_reducible rfl))
          (try simp only [Act.put, List.setIfInBounds_toArray, List.set_cons_zero, List.set_cons_succ])
          refine Man.take1 (i := 14) (v := ?_) rfl (by kernel_rfl) (by kernel_rfl) (by kernel_rfl) (fun _ _ _ h => h) (by rfl) ?_ hHeld ?_
          rotate_left
          · (intro u hSu; (try dsimp only at hSu); go_simp; (try with_reducible rfl))
          (try simp only [Act.put, List.setIfInBounds_toArray, List.set_cons_zero, List.set_cons_succ])
          refine Man.take1 (i := 15) (v := ?_) rfl (by kernel_rfl) (by kernel_rfl) (by kernel_rfl) (fun _ _ _ h => h) (by rfl) ?_ hHeld ?_
          rotate_left
          · (intro u hSu; (try dsimp only at hSu); go_simp; (try with_reducible rfl))
          (try simp only [Act.put, List.setIfInBounds_toArray, List.set_cons_zero, List.set_cons_succ])
          refine Man.take1 (i := 16) (v := ?_) rfl (by kernel_rfl) (by kernel_rfl) (by kernel_rfl) (fun _ _ _ h => h) (by rfl) ?_ hHeld ?_
          rotate_left
          · (intro u hSu; (try dsimp only at hSu); go_simp; (try with_reducible rfl))
          (try simp only [Act.put, List.setIfInBounds_toArray, List.set_cons_zero, List.set_cons_succ])
          refine Man.take1 (i := 17) (v := ?_) rfl (by kernel_rfl) (by kernel_rfl) (by kernel_rfl) (fun _ _ _ h => h) (by rfl) ?_ hHeld ?_
          rotate_left
          · (intro u hSu; (try dsimp only at hSu); go_simp; (try with_reducible rfl))
          (try simp only [Act.put, List.setIfInBounds_toArray, List.set_cons_zero, List.set_cons_succ])
          refine Man.take1 (i := 18) (v := ?_) rfl (by kernel_rfl) (by kernel_rfl) (by kernel_rfl) (fun _ _ _ h => h) (by rfl) ?_ hHeld ?_
          rotate_left
          · (intro u hSu; (try dsimp only at hSu); go_simp; (try with_reducible rfl))
          (try simp only [Act.put, List.setIfInBounds_toArray, List.set_cons_zero, List.set_cons_succ])
          refine Man.take1 (i := 19) (v := ?_) rfl (by kernel_rfl) (by kernel_rfl) (by kernel_rfl) (fun _ _ _ h => h) (by rfl) ?_ hHeld ?_
          rotate_left
          · (intro u hSu; (try dsimp only at hSu); go_simp; (try with_reducible rfl))
          (try simp only [Act.put, List.setIfInBounds_toArray, List.set_cons_zero, List.set_cons_succ])
          refine Man.take1 (i := 20) (v := ?_) rfl (by kernel_rfl) (by kernel_rfl) (by kernel_rfl) (fun _ _ _ h => h) (by rfl) ?_ hHeld ?_
          rotate_left
          · (intro u hSu; (try dsimp only at hSu); go_simp; (try with_reducible rfl))
          (try simp only [Act.put, List.setIfInBounds_toArray, List.set_cons_zero, List.set_cons_succ])
          refine Man.take1 (i := 21) (v := ?_) rfl (by kernel_rfl) (by kernel_rfl) (by kernel_rfl) (fun _ _ _ h => h) (by rfl) ?_ hHeld ?_
          rotate_left
          · (intro u hSu; (try dsimp only at hSu); go_simp; (try with_reducible rfl))
          (try simp only [Act.put, List.setIfInBounds_toArray, List.set_cons_zero, List.set_cons_succ])
          refine Man.take1 (i := 22) (v := ?_) rfl (by kernel_rfl) (by kernel_rfl) (by kernel_rfl) (fun _ _ _ h => h) (by rfl) ?_ hHeld ?_
          rotate_left
          · (intro u hSu; (try dsimp only at hSu); go_simp; (try with_reducible rfl))
          (try simp only [Act.put, List.setIfInBounds_toArray, List.set_cons_zero, List.set_cons_succ])
          refine Man.take1 (i := 23) (v := ?_) rfl (by kernel_rfl) (by kernel_rfl) (by kernel_rfl) (fun _ _ _ h => h) (by rfl) ?_ hHeld ?_
          rotate_left
          · (intro u hSu; (try dsimp only at hSu); go_simp; (try with_reducible rfl))
          (try simp only [Act.put, List.setIfInBounds_toArray, List.set_cons_zero, List.set_cons_succ])
          refine Man.take1 (i := 24) (v := ?_) rfl (by kernel_rfl) (by kernel_rfl) (by kernel_rfl) (fun _ _ _ h => h) (by rfl) ?_ hHeld ?_
          rotate_left
          · (intro u hSu; (try dsimp only at hSu); go_simp; (try with_reducible rfl))
          (try simp only [Act.put, List.setIfInBounds_toArray, List.set_cons_zero, List.set_cons_succ])
          refine Man.take1 (i := 25) (v := ?_) rfl (by kernel_rfl) (by kernel_rfl) (by kernel_rfl) (fun _ _ _ h => h) (by rfl) ?_ hHeld ?_
          rotate_left
          · (intro u hSu; (try dsimp only at hSu); go_simp; (try with_reducible rfl))
          (try simp only [Act.put, List.setIfInBounds_toArray, List.set_cons_zero, List.set_cons_succ])
          refine Man.take1 (i := 26) (v := ?_) rfl (by kernel_rfl) (by kernel_rfl) (by kernel_rfl) (fun _ _ _ h => h) (by rfl) ?_ hHeld ?_
          rotate_left
          · (intro u hSu; (try dsimp only at hSu); go_simp; (try with_reducible rfl))
          (try simp only [Act.put, List.setIfInBounds_toArray, List.set_cons_zero, List.set_cons_succ])
          refine Man.take0 (i := 27) rfl (by kernel_rfl) (by kernel_rfl) (by kernel_rfl) (fun _ _ _ h => h) (by rfl) hHeld ?_
          (try simp only [Act.put, List.setIfInBounds_toArray, List.set_cons_zero, List.set_cons_succ])
          refine Man.take0 (i := 28) rfl (by kernel_rfl) (by kernel_rfl) (by kernel_rfl) (fun _ _ _ h => h) (by rfl) hHeld ?_
          (try simp only [Act.put, List.setIfInBounds_toArray, List.set_cons_zero, List.set_cons_succ])
          refine Man.take0 (i := 29) rfl (by kernel_rfl) (by kernel_rfl) (by kernel_rfl) (fun _ _ _ h => h) (by rfl) hHeld ?_
          (try simp only [Act.put, List.setIfInBounds_toArray, List.set_cons_zero, List.set_cons_succ])
          refine Man.take0 (i := 30) rfl (by kernel_rfl) (by kernel_rfl) (by kernel_rfl) (fun _ _ _ h => h) (by rfl) hHeld ?_
          (try simp only [Act.put, List.setIfInBounds_toArray, List.set_cons_zero, List.set_cons_succ])
          refine Man.take0 (i := 31) rfl (by kernel_rfl) (by kernel_rfl) (by kernel_rfl) (fun _ _ _ h => h) (by rfl) hHeld ?_
          (try simp only [Act.put, List.setIfInBounds_toArray, List.set_cons_zero, List.set_cons_succ])
          refine Man.take0 (i := 32) rfl (by kernel_rfl) (by kernel_rfl) (by kernel_rfl) (fun _ _ _ h => h) (by rfl) hHeld ?_
          (try simp only [Act.put, List.setIfInBounds_toArray, List.set_cons_zero, List.set_cons_succ])
          refine Man.take0 (i := 33) rfl (by kernel_rfl) (by kernel_rfl) (by kernel_rfl) (fun _ _ _ h => h) (by rfl) hHeld ?_
          (try simp only [Act.put, List.setIfInBounds_toArray, List.set_cons_zero, List.set_cons_succ])
          refine Man.take1 (i := 34) (v := ?_) rfl (by kernel_rfl) (by kernel_rfl) (by kernel_rfl) (fun _ _ _ h => h) (by rfl) ?_ hHeld ?_
          rotate_left
          · (intro u hSu; (try dsimp only at hSu); go_simp; (try with_reducible rfl))
          (try simp only [Act.put, List.setIfInBounds_toArray, List.set_cons_zero, List.set_cons_succ])
          refine Man.take1 (i := 35) (v := ?_) rfl (by kernel_rfl) (by kernel_rfl) (by kernel_rfl) (fun _ _ _ h => h) (by rfl) ?_ hHeld ?_
          rotate_left
          · (intro u hSu; (try dsimp only at hSu); go_simp; (try with_reducible rfl))
          (try simp only [Act.put, List.setIfInBounds_toArray, List.set_cons_zero, List.set_cons_succ])
          refine wpAnyH_done (by kernel_rfl) ?_ _
          go_wp2_with fail
          go_roundw
          case rel => exact ⟨kj, rfl, HKJ2.out, hidm ⟨HWZ.out.keep (HZ.out.kept HBD.out), HNZ.out.keep (HZ.out.kept HBD.out), HZ.out.later HBD.out⟩⟩
          case measure => have := HKJ.out; simp [intOf]; omega
        · have k2 : ((k : Int) != page) = true := by simp [hkp]
          have k3 : ((k : Int) == page) = false := by simp [hkp]
          obtain ⟨ng, nc, hne1, cn⟩ := TextsAt.at HNZ.out.1 k (by rw [all_len]; exact hkl)
          obtain ⟨wg, wc, hwe1, cw⟩ := TextsAt.at HWZ.out.1 k (by rw [all_len]; exact hkl)
          rw [all_at] at cn cw
          simp only [Value.slice.injEq] at hne1 hwe1
          obtain ⟨rfl, -, rfl⟩ := hne1
          obtain ⟨rfl, -, rfl⟩ := hwe1
          have hov : over chW V2 k = over [] V2 k := by rw [HCH.out]
          rw [hov] at cn
          obtain ⟨tx, htx⟩ : ∃ t, t = over [] V2 k := ⟨_, rfl⟩
          rw [← htx] at cw cn
          clear htx hov
          go_upto_region 22 with fail
          have HBD := hidm ((Below.refl wz.heap.size wz).drew)
          have HZd := hidm (HZ.out.later HBD.out)
          refine wp_region_held_drew (S := fun u => u.cell? ⟨ng, k, none⟩ = some (.string (S tx)) ∧ u.cell? ⟨wg, k, none⟩ = some (.string (S tx))) (by kernel_rfl) ⟨cn, cw⟩ (fun hHeld => ?_)
          clear cn cw
          refine Man.take1 (i := 0) (v := ?_) rfl (by kernel_rfl) (by kernel_rfl) (by kernel_rfl) (fun _ _ _ h => h) (by rfl) ?_ hHeld ?_
          rotate_left
          · (intro u hSu; (try dsimp only at hSu); go_simp; (try with_reducible rfl))
          (try simp only [Act.put, List.setIfInBounds_toArray, List.set_cons_zero, List.set_cons_succ])
          refine Man.take1 (i := 1) (v := ?_) rfl (by kernel_rfl) (by kernel_rfl) (by kernel_rfl) (fun _ _ _ h => h) (by rfl) ?_ hHeld ?_
          rotate_left
          · (intro u hSu; (try dsimp only at hSu); go_simp; (try with_reducible rfl))
          (try simp only [Act.put, List.setIfInBounds_toArray, List.set_cons_zero, List.set_cons_succ])
          refine Man.take1 (i := 2) (v := ?_) rfl (by kernel_rfl) (by kernel_rfl) (by kernel_rfl) (fun _ _ _ h => h) (by rfl) ?_ hHeld ?_
          rotate_left
          · (intro u hSu; (try dsimp only at hSu); go_simp; (try with_reducible rfl))
          (try simp only [Act.put, List.setIfInBounds_toArray, List.set_cons_zero, List.set_cons_succ])
          refine Man.take1 (i := 3) (v := ?_) rfl (by kernel_rfl) (by kernel_rfl) (by kernel_rfl) (fun _ _ _ h => h) (by rfl) ?_ hHeld ?_
          rotate_left
          · (intro u hSu; (try dsimp only at hSu); go_simp; (try with_reducible rfl))
          (try simp only [Act.put, List.setIfInBounds_toArray, List.set_cons_zero, List.set_cons_succ])
          refine Man.take0 (i := 4) rfl (by kernel_rfl) (by kernel_rfl) (by kernel_rfl) (fun _ _ _ h => h) (by rfl) hHeld ?_
          (try simp only [Act.put, List.setIfInBounds_toArray, List.set_cons_zero, List.set_cons_succ])
          refine Man.take0 (i := 5) rfl (by kernel_rfl) (by kernel_rfl) (by kernel_rfl) (fun _ _ _ h => h) (by rfl) hHeld ?_
          (try simp only [Act.put, List.setIfInBounds_toArray, List.set_cons_zero, List.set_cons_succ])
          refine Man.take1 (i := 6) (v := ?_) rfl (by kernel_rfl) (by kernel_rfl) (by kernel_rfl) (fun _ _ _ h => h) (by rfl) ?_ hHeld ?_
          rotate_left
          · (intro u hSu; (try dsimp only at hSu); go_simp; (try with_reducible rfl))
          (try simp only [Act.put, List.setIfInBounds_toArray, List.set_cons_zero, List.set_cons_succ])
          refine Man.take1 (i := 7) (v := ?_) rfl (by kernel_rfl) (by kernel_rfl) (by kernel_rfl) (fun _ _ _ h => h) (by rfl) ?_ hHeld ?_
          rotate_left
          · (intro u hSu; (try dsimp only at hSu); go_simp; (try with_reducible rfl))
          (try simp only [Act.put, List.setIfInBounds_toArray, List.set_cons_zero, List.set_cons_succ])
          refine Man.take1 (i := 8) (v := ?_) rfl (by kernel_rfl) (by kernel_rfl) (by kernel_rfl) (fun _ _ _ h => h) (by rfl) ?_ hHeld ?_
          rotate_left
          · (intro u hSu; (try dsimp only at hSu); go_simp; (try with_reducible rfl))
          (try simp only [Act.put, List.setIfInBounds_toArray, List.set_cons_zero, List.set_cons_succ])
          refine Man.take1 (i := 9) (v := ?_) rfl (by kernel_rfl) (by kernel_rfl) (by kernel_rfl) (fun _ _ _ h => h) (by rfl) ?_ hHeld ?_
          rotate_left
          · (intro u hSu; (try dsimp only at hSu); go_simp; (try with_reducible rfl))
          (try simp only [Act.put, List.setIfInBounds_toArray, List.set_cons_zero, List.set_cons_succ])
          refine Man.take1 (i := 10) (v := ?_) rfl (by kernel_rfl) (by kernel_rfl) (by kernel_rfl) (fun _ _ _ h => h) (by rfl) ?_ hHeld ?_
          rotate_left
          · (intro u hSu; (try dsimp only at hSu); go_simp; (try with_reducible rfl))
          (try simp only [Act.put, List.setIfInBounds_toArray, List.set_cons_zero, List.set_cons_succ])
          refine Man.take1 (i := 11) (v := ?_) rfl (by kernel_rfl) (by kernel_rfl) (by kernel_rfl) (fun _ _ _ h => h) (by rfl) ?_ hHeld ?_
          rotate_left
          · (intro u hSu; (try dsimp only at hSu); go_simp; (try with_reducible rfl))
          (try simp only [Act.put, List.setIfInBounds_toArray, List.set_cons_zero, List.set_cons_succ])
          refine Man.take1 (i := 12) (v := ?_) rfl (by kernel_rfl) (by kernel_rfl) (by kernel_rfl) (fun _ _ _ h => h) (by rfl) ?_ hHeld ?_
          rotate_left
          · (intro u hSu; (try dsimp only at hSu); go_simp; (try with_reducible rfl))
          (try simp only [Act.put, List.setIfInBounds_toArray, List.set_cons_zero, List.set_cons_succ])
          refine Man.take1 (i := 13) (v := ?_) rfl (by kernel_rfl) (by kernel_rfl) (by kernel_rfl) (fun _ _ _ h => h) (by rfl) ?_ hHeld ?_
          rotate_left
          · (intro u hSu; (try dsimp only at hSu); go_simp; (try with_reducible rfl))
          (try simp only [Act.put, List.setIfInBounds_toArray, List.set_cons_zero, List.set_cons_succ])
          refine Man.take1 (i := 14) (v := ?_) rfl (by kernel_rfl) (by kernel_rfl) (by kernel_rfl) (fun _ _ _ h => h) (by rfl) ?_ hHeld ?_
          rotate_left
          · (intro u hSu; (try dsimp only at hSu); go_simp; (try with_reducible rfl))
          (try simp only [Act.put, List.setIfInBounds_toArray, List.set_cons_zero, List.set_cons_succ])
          refine Man.take1 (i := 15) (v := ?_) rfl (by kernel_rfl) (by kernel_rfl) (by kernel_rfl) (fun _ _ _ h => h) (by rfl) ?_ hHeld ?_
          rotate_left
          · (intro u hSu; (try dsimp only at hSu); go_simp; (try with_reducible rfl))
          (try simp only [Act.put, List.setIfInBounds_toArray, List.set_cons_zero, List.set_cons_succ])
          refine Man.take1 (i := 16) (v := ?_) rfl (by kernel_rfl) (by kernel_rfl) (by kernel_rfl) (fun _ _ _ h => h) (by rfl) ?_ hHeld ?_
          rotate_left
          · (intro u hSu; (try dsimp only at hSu); go_simp; (try with_reducible rfl))
          (try simp only [Act.put, List.setIfInBounds_toArray, List.set_cons_zero, List.set_cons_succ])
          refine Man.take1 (i := 17) (v := ?_) rfl (by kernel_rfl) (by kernel_rfl) (by kernel_rfl) (fun _ _ _ h => h) (by rfl) ?_ hHeld ?_
          rotate_left
          · (intro u hSu; (try dsimp only at hSu); go_simp; (try with_reducible rfl))
          (try simp only [Act.put, List.setIfInBounds_toArray, List.set_cons_zero, List.set_cons_succ])
          refine Man.take1 (i := 18) (v := ?_) rfl (by kernel_rfl) (by kernel_rfl) (by kernel_rfl) (fun _ _ _ h => h) (by rfl) ?_ hHeld ?_
          rotate_left
          · (intro u hSu; (try dsimp only at hSu); go_simp; (try with_reducible rfl))
          (try simp only [Act.put, List.setIfInBounds_toArray, List.set_cons_zero, List.set_cons_succ])
          refine Man.take1 (i := 19) (v := ?_) rfl (by kernel_rfl) (by kernel_rfl) (by kernel_rfl) (fun _ _ _ h => h) (by rfl) ?_ hHeld ?_
          rotate_left
          · (intro u hSu; (try dsimp only at hSu); go_simp; (try with_reducible rfl))
          (try simp only [Act.put, List.setIfInBounds_toArray, List.set_cons_zero, List.set_cons_succ])
          refine Man.take1 (i := 20) (v := ?_) rfl (by kernel_rfl) (by kernel_rfl) (by kernel_rfl) (fun _ _ _ h => h) (by rfl) ?_ hHeld ?_
          rotate_left
          · (intro u hSu; (try dsimp only at hSu); go_simp; (try with_reducible rfl))
          (try simp only [Act.put, List.setIfInBounds_toArray, List.set_cons_zero, List.set_cons_succ])
          refine Man.take1 (i := 21) (v := ?_) rfl (by kernel_rfl) (by kernel_rfl) (by kernel_rfl) (fun _ _ _ h => h) (by rfl) ?_ hHeld ?_
          rotate_left
          · (intro u hSu; (try dsimp only at hSu); go_simp; (try with_reducible rfl))
          (try simp only [Act.put, List.setIfInBounds_toArray, List.set_cons_zero, List.set_cons_succ])
          refine Man.take1 (i := 22) (v := ?_) rfl (by kernel_rfl) (by kernel_rfl) (by kernel_rfl) (fun _ _ _ h => h) (by rfl) ?_ hHeld ?_
          rotate_left
          · (intro u hSu; (try dsimp only at hSu); go_simp; (try with_reducible rfl))
          (try simp only [Act.put, List.setIfInBounds_toArray, List.set_cons_zero, List.set_cons_succ])
          refine Man.take0 (i := 23) rfl (by kernel_rfl) (by kernel_rfl) (by kernel_rfl) (fun _ _ _ h => h) (by rfl) hHeld ?_
          (try simp only [Act.put, List.setIfInBounds_toArray, List.set_cons_zero, List.set_cons_succ])
          refine Man.take0 (i := 24) rfl (by kernel_rfl) (by kernel_rfl) (by kernel_rfl) (fun _ _ _ h => h) (by rfl) hHeld ?_
          (try simp only [Act.put, List.setIfInBounds_toArray, List.set_cons_zero, List.set_cons_succ])
          refine Man.take1 (i := 25) (v := ?_) rfl (by kernel_rfl) (by kernel_rfl) (by kernel_rfl) (fun _ _ _ h => h) (by rfl) ?_ hHeld ?_
          rotate_left
          · (intro u hSu; (try dsimp only at hSu); go_simp; (try with_reducible rfl))
          (try simp only [Act.put, List.setIfInBounds_toArray, List.set_cons_zero, List.set_cons_succ])
          refine Man.take1 (i := 26) (v := ?_) rfl (by kernel_rfl) (by kernel_rfl) (by kernel_rfl) (fun _ _ _ h => h) (by rfl) ?_ hHeld ?_
          rotate_left
          · (intro u hSu; (try dsimp only at hSu); go_simp; (try with_reducible rfl))
          (try simp only [Act.put, List.setIfInBounds_toArray, List.set_cons_zero, List.set_cons_succ])
          refine Man.take0 (i := 27) rfl (by kernel_rfl) (by kernel_rfl) (by kernel_rfl) (fun _ _ _ h => h) (by rfl) hHeld ?_
          (try simp only [Act.put, List.setIfInBounds_toArray, List.set_cons_zero, List.set_cons_succ])
          refine Man.take0 (i := 28) rfl (by kernel_rfl) (by kernel_rfl) (by kernel_rfl) (fun _ _ _ h => h) (by rfl) hHeld ?_
          (try simp only [Act.put, List.setIfInBounds_toArray, List.set_cons_zero, List.set_cons_succ])
          refine Man.take0 (i := 29) rfl (by kernel_rfl) (by kernel_rfl) (by kernel_rfl) (fun _ _ _ h => h) (by rfl) hHeld ?_
          (try simp only [Act.put, List.setIfInBounds_toArray, List.set_cons_zero, List.set_cons_succ])
          refine Man.take0 (i := 30) rfl (by kernel_rfl) (by kernel_rfl) (by kernel_rfl) (fun _ _ _ h => h) (by rfl) hHeld ?_
          (try simp only [Act.put, List.setIfInBounds_toArray, List.set_cons_zero, List.set_cons_succ])
          refine Man.take0 (i := 31) rfl (by kernel_rfl) (by kernel_rfl) (by kernel_rfl) (fun _ _ _ h => h) (by rfl) hHeld ?_
          (try simp only [Act.put, List.setIfInBounds_toArray, List.set_cons_zero, List.set_cons_succ])
          refine Man.take0 (i := 32) rfl (by kernel_rfl) (by kernel_rfl) (by kernel_rfl) (fun _ _ _ h => h) (by rfl) hHeld ?_
          (try simp only [Act.put, List.setIfInBounds_toArray, List.set_cons_zero, List.set_cons_succ])
          refine Man.take0 (i := 33) rfl (by kernel_rfl) (by kernel_rfl) (by kernel_rfl) (fun _ _ _ h => h) (by rfl) hHeld ?_
          (try simp only [Act.put, List.setIfInBounds_toArray, List.set_cons_zero, List.set_cons_succ])
          refine Man.take1 (i := 34) (v := ?_) rfl (by kernel_rfl) (by kernel_rfl) (by kernel_rfl) (fun _ _ _ h => h) (by rfl) ?_ hHeld ?_
          rotate_left
          · (intro u hSu; (try dsimp only at hSu); go_simp; (try with_reducible rfl))
          (try simp only [Act.put, List.setIfInBounds_toArray, List.set_cons_zero, List.set_cons_succ])
          refine Man.take1 (i := 35) (v := ?_) rfl (by kernel_rfl) (by kernel_rfl) (by kernel_rfl) (fun _ _ _ h => h) (by rfl) ?_ hHeld ?_
          rotate_left
          · (intro u hSu; (try dsimp only at hSu); go_simp; (try with_reducible rfl))
          (try simp only [Act.put, List.setIfInBounds_toArray, List.set_cons_zero, List.set_cons_succ])
          refine wpAnyH_done (by kernel_rfl) ?_ _
          go_wp2_with fail
          go_roundw
          case rel => exact ⟨kj, rfl, HKJ2.out, hidm ⟨HWZ.out.keep (HZ.out.kept HBD.out), HNZ.out.keep (HZ.out.kept HBD.out), HZ.out.later HBD.out⟩⟩
          case measure => have := HKJ.out; simp [intOf]; omega
      · obtain rfl : k = 20 := by omega
        have k1 : ¬ (20 : Int) < 20 := by omega
        go_wp2_with fail
        refine (known_any _).mono ?_
        rintro e wk ⟨rfl, hb⟩
        have HB := hidm (HZ.out.bel.trans (hb.mono HZ.out.bel.size))
        clear hb
        go_wp2_with fail
        go_ret
        exact ⟨by trivial, HB.out⟩
set_option maxHeartbeats 16000000 in
set_option maxRecDepth 100000 in
theorem law_C (l : List Opv) (v0 : Value) (page : Int) (s : ByteArray) (w : World) (hl : OpsAt l v0 w) (hin : ∀ x ∈ l, x.inn) (hs : ¬ 300 < s.size) (hcase : 1 ≤ page ∧ page < 20 ∧ ¬ s.size ≤ 128) :
    Calls Tryz.prog 8 #[v0, .int .i64 page, .string s] w fun e w' => e = .returned (.bool true) ∧ Below w.heap.size w w' := by
  have g0 : ¬ (300 : Int) < (s.size : Int) := by omega
  have N0 := hidm (Dsk.m_new (W := w) (w := w) 60 (by omega) (by omega) (Below.refl _ _))
  have HIN := hidm hin
  obtain ⟨p1, p2, p3'⟩ := hcase
  have p3 : ¬ (s.size : Int) ≤ 128 := by omega
  obtain ⟨lo, lc, rfl, hlc, hlcm⟩ := hl.form
  obtain ⟨ll, hll⟩ : ∃ n, n = l.length := ⟨_, rfl⟩
  have HLLll := hidm hll
  have HSLll := hidm hl
  rw [← hll]
  have hll2 : ll ≤ 9223372036854775807 := by omega
  clear hl hll hlc hlcm
  clear hin
  go_enter Tryz.func8, Tryz.ntmps8
  go_wp2_with fail
  refine N0.out.mono ?_
  rintro e w1 ⟨rfl, hm1, hb1⟩
  have R1 := hidm (Re.new (n := 38) (N := 20) (by omega) hm1)
  obtain ⟨D, hD⟩ : ∃ D, D = w.heap.size + 1 := ⟨_, rfl⟩
  rw [← hD] at R1 ⊢
  clear hD hm1 hb1 N0
  go_wp2_with fail
  refine (R1.out.open (by omega) (by omega) (by omega) 40 rfl).mono ?_
  rintro e w2 ⟨P, L, rfl, h2, _⟩
  have H2 := hidm (show Lv w (fun _ => False) P L D 38 20 2000 true [] (fun _ => zeros) w2 from h2.more (by omega))
  clear h2 R1
  go_upto_block 0 with fail
  go_cut [11] (fun _ wx => ∃ (ch : Ch) (V : Nat → List UInt8), Hid (Lv w (fun _ => False) P L D 38 20 (2000 + 90000) true ch V wx))
  case first =>
    go_wp2_with fail
    go_loopw [11] (fun ii wr => ∃ (i : Nat) (ch : Ch) (V : Nat → List UInt8), ii = .int .i64 i ∧ i ≤ ll ∧ i ≤ 30 ∧ Hid (Lv w (fun _ => False) P L D 38 20 (2000 + 3000 * i) true ch V wr)) (fun ii _ => (ll - (intOf ii).toNat))
    case atStart => exact ⟨0, _, _, rfl, by omega, by omega, H2⟩
    case round =>
      rename World => wr
      obtain ⟨i, ch, V, rfl, hi, hi3, HLV⟩ := hrel
      by_cases hlt : i < ll ∧ i < 30
      · obtain ⟨hlt, hlt2⟩ := hlt
        have g1 : (i : Int) < (ll : Int) := by omega
        have g2 : (i : Int) < 30 := by omega
        have hil : i < l.length := by rw [← HLLll.out]; exact hlt
        obtain ⟨b', o, cp, he, hbl, q0, q1, q2, q3⟩ := HSLll.out.at i hil
        have HXI0 := HIN.out _ (List.getElem_mem hil)
        have he2 : (Value.slice lo ll lc) = .slice (some ⟨b', o, none⟩) l.length cp := by rw [HLLll.out]; exact he
        simp only [Value.slice.injEq] at he2
        obtain ⟨rfl, -, rfl⟩ := he2
        clear he
        obtain ⟨x, hx⟩ : ∃ x, x = l[i] := ⟨_, rfl⟩
        rw [← hx] at q0 q1 q2 q3 HXI0
        have HXI := hidm HXI0
        clear hx HXI0
        have hbel := HLV.out.bel
        have c0 := (hbel.cell (p := ⟨b', o + i * 4, none⟩) hbl).trans q0
        have c1 := (hbel.cell (p := ⟨b', o + i * 4 + 1, none⟩) hbl).trans q1
        have c2 := (hbel.cell (p := ⟨b', o + i * 4 + 2, none⟩) hbl).trans q2
        have c3 := (hbel.cell (p := ⟨b', o + i * 4 + 3, none⟩) hbl).trans q3
        have i1 : (i : Int) + 1 = ((i + 1 : Nat) : Int) := by omega
        obtain ⟨j, hj⟩ : ∃ j, j = i + 1 := ⟨_, rfl⟩
        rw [← hj] at i1
        have i1w : IntKind.i64.wrap (j : Int) = (j : Int) := by simp only [IntKind.wrap_i64]; omega
        have HJ := hidm hj
        have HJ2 := hidm (show j ≤ ll ∧ j ≤ 30 from by omega)
        clear hj hbel q0 q1 q2 q3
        by_cases hkd : x.kind < 5
        · have HKD := hidm hkd
          by_cases hsz : x.s.size < 200
          · have g3 : (x.s.size : Int) < 200 := by omega
            clear hsz
            go_wp2_with fail
            refine (HLV.out.do_all x HXI.out (by omega) HLV.out.fits (by omega)).mono ?_
            rintro e w3 ⟨a, c, sx, ch3, V3, rfl, h3, k3⟩
            have H3 := hidm h3
            clear h3 k3 c0 c1 c2 c3
            go_wp2_with fail
            go_roundw
            case rel => exact ⟨j, ch3, V3, rfl, HJ2.out.1, HJ2.out.2, hidm (H3.out.more (by rw [HJ.out]; omega))⟩
            case measure => have := HJ.out; simp [intOf]; omega
          · have g3 : ¬ (x.s.size : Int) < 200 := by omega
            clear hsz
            go_wp2_with fail
            go_roundw
            case rel => exact ⟨j, ch, V, rfl, HJ2.out.1, HJ2.out.2, hidm (HLV.out.more (by rw [HJ.out]; omega))⟩
            case measure => have := HJ.out; simp [intOf]; omega
        · go_wp2_with fail
          go_roundw
          case rel => exact ⟨j, ch, V, rfl, HJ2.out.1, HJ2.out.2, hidm (HLV.out.more (by rw [HJ.out]; omega))⟩
          case measure => have := HJ.out; simp [intOf]; omega
      · have HLVE := hidm (show Lv w (fun _ => False) P L D 38 20 (2000 + 90000) true ch V wr from HLV.out.more (by omega))
        clear HLV H2
        by_cases hge : i < ll
        · have g1 : (i : Int) < (ll : Int) := by omega
          have g2 : ¬ (i : Int) < 30 := by omega
          go_wp2_with fail
          go_meet
          exact ⟨_, _, HLVE⟩
        · obtain rfl : i = ll := by omega
          have g1 : ¬ (i : Int) < (i : Int) := by omega
          go_wp2_with fail
          go_meet
          exact ⟨_, _, HLVE⟩
  case rest =>
    obtain ⟨ch, V, HLVE⟩ := hcut
    clear H2
    go_wp2_with fail
    refine (HLVE.out.commit (by omega) HLVE.out.fits (by omega)).mono ?_
    rintro e w4 hcm
    rcases hcm with ⟨rfl, h4, k4⟩ | ⟨hu, _⟩
    rotate_left
    · cases hu
    have H4 := hidm h4
    clear h4 k4 HLVE
    obtain ⟨V2, hV2⟩ : ∃ V2, V2 = over ch V := ⟨_, rfl⟩
    rw [← hV2] at H4
    clear hV2
    go_wp2_with fail
    refine H4.out.pagesQ.mono ?_
    rintro e w5 ⟨wo, wc, Q5, rfl, _, ht5, h5, _⟩
    have HW5 := hidm ht5
    have H5 := hidm h5
    clear ht5 h5 H4
    go_wp2_with fail
    refine (H5.out.write_any page s).mono ?_
    rintro e w6 ⟨cg, chW, rfl, h6, k6, hr6⟩
    have H6 := hidm h6
    have HW6 := hidm (HW5.out.keep k6)
    obtain ⟨hcg, hch⟩ : cg ≠ 0 ∧ chW = [] := by
      rcases hr6 with ⟨h1, h2, _⟩ | ⟨_, h2, h3, h4, _⟩
      · exact ⟨h1, h2⟩
      · omega
    have HCH := hidm hch
    have c0f : (cg == 0) = false := by simpa using hcg
    have c0t : (cg != 0) = true := by simp [bne, c0f]
    clear hr6 hch h6 k6 H5 HW5 hcg
    go_wp2_with fail
    refine H6.out.pagesQ.mono ?_
    rintro e w7 ⟨no, nc, Q7, rfl, hq7, ht7, h7, k7⟩
    have HN7 := hidm ht7
    have H7 := hidm h7
    have HW7 := hidm ((HW6.out.keep k7).mono hq7)
    clear ht7 h7 k7 hq7 H6 HW6
    go_wp2_with fail
    refine H7.out.abort.mono ?_
    rintro e w8 ⟨rfl, h8, k8⟩
    have H8 := hidm h8
    have HN8 := hidm (HN7.out.keep k8)
    have HW8 := hidm (HW7.out.keep k8)
    clear h8 k8 H7 HN7 HW7
    go_wp2_with fail
    refine H8.out.pagesQ.mono ?_
    rintro e w9 ⟨ao, ac, Q9, rfl, hq9, ht9, h9, k9⟩
    have HA9 := hidm ht9
    have H9 := hidm h9
    have HN9 := hidm ((HN8.out.keep k9).mono hq9)
    have HW9 := hidm ((HW8.out.keep k9).mono hq9)
    clear ht9 h9 k9 hq9 H8 HN8 HW8
    go_wp2_with fail
    refine (texts_any _ _ _ _ _ (by rw [all_len]) HA9.out.1 HW9.out.1).mono ?_
    rintro e w10 ⟨rfl, hb10⟩
    rw [decide_eq_true (show all 20 (over [] V2) = all 20 (over [] V2) from rfl)]
    have H10 := hidm (H9.out.later hb10)
    have HN10 := hidm (HN9.out.keep (H9.out.kept hb10))
    have HW10 := hidm (HW9.out.keep (H9.out.kept hb10))
    clear hb10 H9 HN9 HW9 HA9
    go_wp2_with fail
    go_loopw [15] (fun kk wz => ∃ k : Nat, kk = .int .i64 k ∧ k ≤ 20 ∧ Hid (TextsQ Q9 (all 20 (over [] V2)) (.slice wo 20 wc) wz ∧ TextsQ Q9 (all 20 (over chW V2)) (.slice no 20 nc) wz ∧ Lv w Q9 P L D 38 20 95000 true [] V2 wz)) (fun kk _ => (20 - (intOf kk).toNat))
    case atStart => exact ⟨0, rfl, by omega, hidm ⟨HW10.out, HN10.out, H10.out⟩⟩
    case round =>
      rename World => wz
      obtain ⟨k, rfl, hk20, HALL⟩ := hrel
      have HWZ := hidm HALL.out.1
      have HNZ := hidm HALL.out.2.1
      have HZ := hidm HALL.out.2.2
      clear HALL
      rcases Nat.lt_or_ge k 20 with hkl | hkg
      · have k1 : (k : Int) < 20 := by omega
        have k1a : ¬ (k : Int) < 0 := by omega
        have ki : (k : Int) + 1 = ((k + 1 : Nat) : Int) := by omega
        obtain ⟨kj, hkj⟩ : ∃ j, j = k + 1 := ⟨_, rfl⟩
        rw [← hkj] at ki
        have kiw : IntKind.i64.wrap (kj : Int) = (kj : Int) := by simp only [IntKind.wrap_i64]; omega
        have HKJ := hidm hkj
        have HKJ2 := hidm (show kj ≤ 20 from by omega)
        clear hkj
        by_cases hkp : (k : Int) = page
        · have k2 : ((k : Int) != page) = false := by simp [hkp]
          have k3 : ((k : Int) == page) = true := by simp [hkp]
          clear hkp
          obtain ⟨ng, nc, hne1, cn⟩ := TextsAt.at HNZ.out.1 k (by rw [all_len]; exact hkl)
          obtain ⟨wg, wc, hwe1, cw⟩ := TextsAt.at HWZ.out.1 k (by rw [all_len]; exact hkl)
          rw [all_at] at cn cw
          simp only [Value.slice.injEq] at hne1 hwe1
          obtain ⟨rfl, -, rfl⟩ := hne1
          obtain ⟨rfl, -, rfl⟩ := hwe1
          have hov : over chW V2 k = over [] V2 k := by rw [HCH.out]
          rw [hov] at cn
          obtain ⟨tx, htx⟩ : ∃ t, t = over [] V2 k := ⟨_, rfl⟩
          rw [← htx] at cw cn
          clear htx hov
          go_upto_region 22 with fail
          have HBD := hidm ((Below.refl wz.heap.size wz).drew)
          have HZd := hidm (HZ.out.later HBD.out)
          refine wp_region_held_drew (S := fun u => u.cell? ⟨ng, k, none⟩ = some (.string (S tx)) ∧ u.cell? ⟨wg, k, none⟩ = some (.string (S tx))) (by kernel_rfl) ⟨cn, cw⟩ (fun hHeld => ?_)
          clear cn cw
          refine Man.take1 (i := 0) (v := ?_) rfl (by kernel_rfl) (by kernel_rfl) (by kernel_rfl) (fun _ _ _ h => h) (by rfl) ?_ hHeld ?_
          rotate_left
          · (intro u hSu; (try dsimp only at hSu); go_simp; (try with_reducible rfl))
          (try simp only [Act.put, List.setIfInBounds_toArray, List.set_cons_zero, List.set_cons_succ])
          refine Man.take1 (i := 1) (v := ?_) rfl (by kernel_rfl) (by kernel_rfl) (by kernel_rfl) (fun _ _ _ h => h) (by rfl) ?_ hHeld ?_
          rotate_left
          · (intro u hSu; (try dsimp only at hSu); go_simp; (try with_reducible rfl))
          (try simp only [Act.put, List.setIfInBounds_toArray, List.set_cons_zero, List.set_cons_succ])
          refine Man.take1 (i := 2) (v := ?_) rfl (by kernel_rfl) (by kernel_rfl) (by kernel_rfl) (fun _ _ _ h => h) (by rfl) ?_ hHeld ?_
          rotate_left
          · (intro u hSu; (try dsimp only at hSu); go_simp; (try with_reducible rfl))
          (try simp only [Act.put, List.setIfInBounds_toArray, List.set_cons_zero, List.set_cons_succ])
          refine Man.take1 (i := 3) (v := ?_) rfl (by kernel_rfl) (by kernel_rfl) (by kernel_rfl) (fun _ _ _ h => h) (by rfl) ?_ hHeld ?_
          rotate_left
          · (intro u hSu; (try dsimp only at hSu); go_simp; (try with_reducible rfl))
          (try simp only [Act.put, List.setIfInBounds_toArray, List.set_cons_zero, List.set_cons_succ])
          refine Man.take1 (i := 4) (v := ?_) rfl (by kernel_rfl) (by kernel_rfl) (by kernel_rfl) (fun _ _ _ h => h) (by rfl) ?_ hHeld ?_
          rotate_left
          · (intro u hSu; (try dsimp only at hSu); go_simp; (try with_reducible rfl))
          (try simp only [Act.put, List.setIfInBounds_toArray, List.set_cons_zero, List.set_cons_succ])
          refine Man.take1 (i := 5) (v := ?_) rfl (by kernel_rfl) (by kernel_rfl) (by kernel_rfl) (fun _ _ _ h => h) (by rfl) ?_ hHeld ?_
          rotate_left
          · (intro u hSu; (try dsimp only at hSu); go_simp; (try with_reducible rfl))
          (try simp only [Act.put, List.setIfInBounds_toArray, List.set_cons_zero, List.set_cons_succ])
          refine Man.take1 (i := 6) (v := ?_) rfl (by kernel_rfl) (by kernel_rfl) (by kernel_rfl) (fun _ _ _ h => h) (by rfl) ?_ hHeld ?_
          rotate_left
          · (intro u hSu; (try dsimp only at hSu); go_simp; (try with_reducible rfl))
          (try simp only [Act.put, List.setIfInBounds_toArray, List.set_cons_zero, List.set_cons_succ])
          refine Man.take1 (i := 7) (v := ?_) rfl (by kernel_rfl) (by kernel_rfl) (by kernel_rfl) (fun _ _ _ h => h) (by rfl) ?_ hHeld ?_
          rotate_left
          · (intro u hSu; (try dsimp only at hSu); go_simp; (try with_reducible rfl))
          (try simp only [Act.put, List.setIfInBounds_toArray, List.set_cons_zero, List.set_cons_succ])
          refine Man.take1 (i := 8) (v := ?_) rfl (by kernel_rfl) (by kernel_rfl) (by kernel_rfl) (fun _ _ _ h => h) (by rfl) ?_ hHeld ?_
          rotate_left
          · (intro u hSu; (try dsimp only at hSu); go_simp; (try with_reducible rfl))
          (try simp only [Act.put, List.setIfInBounds_toArray, List.set_cons_zero, List.set_cons_succ])
          refine Man.take1 (i := 9) (v := ?_) rfl (by kernel_rfl) (by kernel_rfl) (by kernel_rfl) (fun _ _ _ h => h) (by rfl) ?_ hHeld ?_
          rotate_left
          · (intro u hSu; (try dsimp only at hSu); go_simp; (try with_reducible rfl))
          (try simp only [Act.put, List.setIfInBounds_toArray, List.set_cons_zero, List.set_cons_succ])
          refine Man.take1 (i := 10) (v := ?_) rfl (by kernel_rfl) (by kernel_rfl) (by kernel_rfl) (fun _ _ _ h => h) (by rfl) ?_ hHeld ?_
          rotate_left
          · (intro u hSu; (try dsimp only at hSu); go_simp; (try with_reducible rfl))
          (try simp only [Act.put, List.setIfInBounds_toArray, List.set_cons_zero, List.set_cons_succ])
          refine Man.take1 (i := 11) (v := ?_) rfl (by kernel_rfl) (by kernel_rfl) (by kernel_rfl) (fun _ _ _ h => h) (by rfl) ?_ hHeld ?_
          rotate_left
          · (intro u hSu; (try dsimp only at hSu); go_simp; (try with_reducible rfl))
          (try simp only [Act.put, List.setIfInBounds_toArray, List.set_cons_zero, List.set_cons_succ])
          refine Man.take1 (i := 12) (v := ?_) rfl (by kernel_rfl) (by kernel_rfl) (by kernel_rfl) (fun _ _ _ h => h) (by rfl) ?_ hHeld ?_
          rotate_left
          · (intro u hSu; (try dsimp only at hSu); go_simp; (try with_reducible rfl))
          (try simp only [Act.put, List.setIfInBounds_toArray, List.set_cons_zero, List.set_cons_succ])
          refine Man.take1 (i := 13) (v := ?_) rfl (by kernel_rfl) (by kernel_rfl) (by kernel_rfl) (fun _ _ _ h => h) (by rfl) ?_ hHeld ?_
          rotate_left
          · (intro u hSu; (try dsimp only at hSu); go_simp; (try with_reducible rfl))
          (try simp only [Act.put, List.setIfInBounds_toArray, List.set_cons_zero, List.set_cons_succ])
          refine Man.take1 (i := 14) (v := ?_) rfl (by kernel_rfl) (by kernel_rfl) (by kernel_rfl) (fun _ _ _ h => h) (by rfl) ?_ hHeld ?_
          rotate_left
          · (intro u hSu; (try dsimp only at hSu); go_simp; (try with_reducible rfl))
          (try simp only [Act.put, List.setIfInBounds_toArray, List.set_cons_zero, List.set_cons_succ])
          refine Man.take1 (i := 15) (v := ?_) rfl (by kernel_rfl) (by kernel_rfl) (by kernel_rfl) (fun _ _ _ h => h) (by rfl) ?_ hHeld ?_
          rotate_left
          · (intro u hSu; (try dsimp only at hSu); go_simp; (try with_reducible rfl))
          (try simp only [Act.put, List.setIfInBounds_toArray, List.set_cons_zero, List.set_cons_succ])
          refine Man.take1 (i := 16) (v := ?_) rfl (by kernel_rfl) (by kernel_rfl) (by kernel_rfl) (fun _ _ _ h => h) (by rfl) ?_ hHeld ?_
          rotate_left
          · (intro u hSu; (try dsimp only at hSu); go_simp; (try with_reducible rfl))
          (try simp only [Act.put, List.setIfInBounds_toArray, List.set_cons_zero, List.set_cons_succ])
          refine Man.take1 (i := 17) (v := ?_) rfl (by kernel_rfl) (by kernel_rfl) (by kernel_rfl) (fun _ _ _ h => h) (by rfl) ?_ hHeld ?_
          rotate_left
          · (intro u hSu; (try dsimp only at hSu); go_simp; (try with_reducible rfl))
          (try simp only [Act.put, List.setIfInBounds_toArray, List.set_cons_zero, List.set_cons_succ])
          refine Man.take1 (i := 18) (v := ?_) rfl (by kernel_rfl) (by kernel_rfl) (by kernel_rfl) (fun _ _ _ h => h) (by rfl) ?_ hHeld ?_
          rotate_left
          · (intro u hSu; (try dsimp only at hSu); go_simp; (try with_reducible rfl))
          (try simp only [Act.put, List.setIfInBounds_toArray, List.set_cons_zero, List.set_cons_succ])
          refine Man.take1 (i := 19) (v := ?_) rfl (by kernel_rfl) (by kernel_rfl) (by kernel_rfl) (fun _ _ _ h => h) (by rfl) ?_ hHeld ?_
          rotate_left
          · (intro u hSu; (try dsimp only at hSu); go_simp; (try with_reducible rfl))
          (try simp only [Act.put, List.setIfInBounds_toArray, List.set_cons_zero, List.set_cons_succ])
          refine Man.take1 (i := 20) (v := ?_) rfl (by kernel_rfl) (by kernel_rfl) (by kernel_rfl) (fun _ _ _ h => h) (by rfl) ?_ hHeld ?_
          rotate_left
          · (intro u hSu; (try dsimp only at hSu); go_simp; (try with_reducible rfl))
          (try simp only [Act.put, List.setIfInBounds_toArray, List.set_cons_zero, List.set_cons_succ])
          refine Man.take1 (i := 21) (v := ?_) rfl (by kernel_rfl) (by kernel_rfl) (by kernel_rfl) (fun _ _ _ h => h) (by rfl) ?_ hHeld ?_
          rotate_left
          · (intro u hSu; (try dsimp only at hSu); go_simp; (try with_reducible rfl))
          (try simp only [Act.put, List.setIfInBounds_toArray, List.set_cons_zero, List.set_cons_succ])
          refine Man.take1 (i := 22) (v := ?_) rfl (by kernel_rfl) (by kernel_rfl) (by kernel_rfl) (fun _ _ _ h => h) (by rfl) ?_ hHeld ?_
          rotate_left
          · (intro u hSu; (try dsimp only at hSu); go_simp; (try with_reducible rfl))
          (try simp only [Act.put, List.setIfInBounds_toArray, List.set_cons_zero, List.set_cons_succ])
          refine Man.take1 (i := 23) (v := ?_) rfl (by kernel_rfl) (by kernel_rfl) (by kernel_rfl) (fun _ _ _ h => h) (by rfl) ?_ hHeld ?_
          rotate_left
          · (intro u hSu; (try dsimp only at hSu); go_simp; (try with_reducible rfl))
          (try simp only [Act.put, List.setIfInBounds_toArray, List.set_cons_zero, List.set_cons_succ])
          refine Man.take1 (i := 24) (v := ?_) rfl (by kernel_rfl) (by kernel_rfl) (by kernel_rfl) (fun _ _ _ h => h) (by rfl) ?_ hHeld ?_
          rotate_left
          · (intro u hSu; (try dsimp only at hSu); go_simp; (try with_reducible rfl))
          (try simp only [Act.put, List.setIfInBounds_toArray, List.set_cons_zero, List.set_cons_succ])
          refine Man.take1 (i := 25) (v := ?_) rfl (by kernel_rfl) (by kernel_rfl) (by kernel_rfl) (fun _ _ _ h => h) (by rfl) ?_ hHeld ?_
          rotate_left
          · (intro u hSu; (try dsimp only at hSu); go_simp; (try with_reducible rfl))
          (try simp only [Act.put, List.setIfInBounds_toArray, List.set_cons_zero, List.set_cons_succ])
          refine Man.take1 (i := 26) (v := ?_) rfl (by kernel_rfl) (by kernel_rfl) (by kernel_rfl) (fun _ _ _ h => h) (by rfl) ?_ hHeld ?_
          rotate_left
          · (intro u hSu; (try dsimp only at hSu); go_simp; (try with_reducible rfl))
          (try simp only [Act.put, List.setIfInBounds_toArray, List.set_cons_zero, List.set_cons_succ])
          refine Man.take0 (i := 27) rfl (by kernel_rfl) (by kernel_rfl) (by kernel_rfl) (fun _ _ _ h => h) (by rfl) hHeld ?_
          (try simp only [Act.put, List.setIfInBounds_toArray, List.set_cons_zero, List.set_cons_succ])
          refine Man.take0 (i := 28) rfl (by kernel_rfl) (by kernel_rfl) (by kernel_rfl) (fun _ _ _ h => h) (by rfl) hHeld ?_
          (try simp only [Act.put, List.setIfInBounds_toArray, List.set_cons_zero, List.set_cons_succ])
          refine Man.take0 (i := 29) rfl (by kernel_rfl) (by kernel_rfl) (by kernel_rfl) (fun _ _ _ h => h) (by rfl) hHeld ?_
          (try simp only [Act.put, List.setIfInBounds_toArray, List.set_cons_zero, List.set_cons_succ])
          refine Man.take0 (i := 30) rfl (by kernel_rfl) (by kernel_rfl) (by kernel_rfl) (fun _ _ _ h => h) (by rfl) hHeld ?_
          (try simp only [Act.put, List.setIfInBounds_toArray, List.set_cons_zero, List.set_cons_succ])
          refine Man.take0 (i := 31) rfl (by kernel_rfl) (by kernel_rfl) (by kernel_rfl) (fun _ _ _ h => h) (by rfl) hHeld ?_
          (try simp only [Act.put, List.setIfInBounds_toArray, List.set_cons_zero, List.set_cons_succ])
          refine Man.take0 (i := 32) rfl (by kernel_rfl) (by kernel_rfl) (by kernel_rfl) (fun _ _ _ h => h) (by rfl) hHeld ?_
          (try simp only [Act.put, List.setIfInBounds_toArray, List.set_cons_zero, List.set_cons_succ])
          refine Man.take0 (i := 33) rfl (by kernel_rfl) (by kernel_rfl) (by kernel_rfl) (fun _ _ _ h => h) (by rfl) hHeld ?_
          (try simp only [Act.put, List.setIfInBounds_toArray, List.set_cons_zero, List.set_cons_succ])
          refine Man.take1 (i := 34) (v := ?_) rfl (by kernel_rfl) (by kernel_rfl) (by kernel_rfl) (fun _ _ _ h => h) (by rfl) ?_ hHeld ?_
          rotate_left
          · (intro u hSu; (try dsimp only at hSu); go_simp; (try with_reducible rfl))
          (try simp only [Act.put, List.setIfInBounds_toArray, List.set_cons_zero, List.set_cons_succ])
          refine Man.take1 (i := 35) (v := ?_) rfl (by kernel_rfl) (by kernel_rfl) (by kernel_rfl) (fun _ _ _ h => h) (by rfl) ?_ hHeld ?_
          rotate_left
          · (intro u hSu; (try dsimp only at hSu); go_simp; (try with_reducible rfl))
          (try simp only [Act.put, List.setIfInBounds_toArray, List.set_cons_zero, List.set_cons_succ])
          refine wpAnyH_done (by kernel_rfl) ?_ _
          go_wp2_with fail
          go_roundw
          case rel => exact ⟨kj, rfl, HKJ2.out, hidm ⟨HWZ.out.keep (HZ.out.kept HBD.out), HNZ.out.keep (HZ.out.kept HBD.out), HZ.out.later HBD.out⟩⟩
          case measure => have := HKJ.out; simp [intOf]; omega
        · have k2 : ((k : Int) != page) = true := by simp [hkp]
          have k3 : ((k : Int) == page) = false := by simp [hkp]
          obtain ⟨ng, nc, hne1, cn⟩ := TextsAt.at HNZ.out.1 k (by rw [all_len]; exact hkl)
          obtain ⟨wg, wc, hwe1, cw⟩ := TextsAt.at HWZ.out.1 k (by rw [all_len]; exact hkl)
          rw [all_at] at cn cw
          simp only [Value.slice.injEq] at hne1 hwe1
          obtain ⟨rfl, -, rfl⟩ := hne1
          obtain ⟨rfl, -, rfl⟩ := hwe1
          have hov : over chW V2 k = over [] V2 k := by rw [HCH.out]
          rw [hov] at cn
          obtain ⟨tx, htx⟩ : ∃ t, t = over [] V2 k := ⟨_, rfl⟩
          rw [← htx] at cw cn
          clear htx hov
          go_upto_region 22 with fail
          have HBD := hidm ((Below.refl wz.heap.size wz).drew)
          have HZd := hidm (HZ.out.later HBD.out)
          refine wp_region_held_drew (S := fun u => u.cell? ⟨ng, k, none⟩ = some (.string (S tx)) ∧ u.cell? ⟨wg, k, none⟩ = some (.string (S tx))) (by kernel_rfl) ⟨cn, cw⟩ (fun hHeld => ?_)
          clear cn cw
          refine Man.take1 (i := 0) (v := ?_) rfl (by kernel_rfl) (by kernel_rfl) (by kernel_rfl) (fun _ _ _ h => h) (by rfl) ?_ hHeld ?_
          rotate_left
          · (intro u hSu; (try dsimp only at hSu); go_simp; (try with_reducible rfl))
          (try simp only [Act.put, List.setIfInBounds_toArray, List.set_cons_zero, List.set_cons_succ])
          refine Man.take1 (i := 1) (v := ?_) rfl (by kernel_rfl) (by kernel_rfl) (by kernel_rfl) (fun _ _ _ h => h) (by rfl) ?_ hHeld ?_
          rotate_left
          · (intro u hSu; (try dsimp only at hSu); go_simp; (try with_reducible rfl))
          (try simp only [Act.put, List.setIfInBounds_toArray, List.set_cons_zero, List.set_cons_succ])
          refine Man.take1 (i := 2) (v := ?_) rfl (by kernel_rfl) (by kernel_rfl) (by kernel_rfl) (fun _ _ _ h => h) (by rfl) ?_ hHeld ?_
          rotate_left
          · (intro u hSu; (try dsimp only at hSu); go_simp; (try with_reducible rfl))
          (try simp only [Act.put, List.setIfInBounds_toArray, List.set_cons_zero, List.set_cons_succ])
          refine Man.take1 (i := 3) (v := ?_) rfl (by kernel_rfl) (by kernel_rfl) (by kernel_rfl) (fun _ _ _ h => h) (by rfl) ?_ hHeld ?_
          rotate_left
          · (intro u hSu; (try dsimp only at hSu); go_simp; (try with_reducible rfl))
          (try simp only [Act.put, List.setIfInBounds_toArray, List.set_cons_zero, List.set_cons_succ])
          refine Man.take0 (i := 4) rfl (by kernel_rfl) (by kernel_rfl) (by kernel_rfl) (fun _ _ _ h => h) (by rfl) hHeld ?_
          (try simp only [Act.put, List.setIfInBounds_toArray, List.set_cons_zero, List.set_cons_succ])
          refine Man.take0 (i := 5) rfl (by kernel_rfl) (by kernel_rfl) (by kernel_rfl) (fun _ _ _ h => h) (by rfl) hHeld ?_
          (try simp only [Act.put, List.setIfInBounds_toArray, List.set_cons_zero, List.set_cons_succ])
          refine Man.take1 (i := 6) (v := ?_) rfl (by kernel_rfl) (by kernel_rfl) (by kernel_rfl) (fun _ _ _ h => h) (by rfl) ?_ hHeld ?_
          rotate_left
          · (intro u hSu; (try dsimp only at hSu); go_simp; (try with_reducible rfl))
          (try simp only [Act.put, List.setIfInBounds_toArray, List.set_cons_zero, List.set_cons_succ])
          refine Man.take1 (i := 7) (v := ?_) rfl (by kernel_rfl) (by kernel_rfl) (by kernel_rfl) (fun _ _ _ h => h) (by rfl) ?_ hHeld ?_
          rotate_left
          · (intro u hSu; (try dsimp only at hSu); go_simp; (try with_reducible rfl))
          (try simp only [Act.put, List.setIfInBounds_toArray, List.set_cons_zero, List.set_cons_succ])
          refine Man.take1 (i := 8) (v := ?_) rfl (by kernel_rfl) (by kernel_rfl) (by kernel_rfl) (fun _ _ _ h => h) (by rfl) ?_ hHeld ?_
          rotate_left
          · (intro u hSu; (try dsimp only at hSu); go_simp; (try with_reducible rfl))
          (try simp only [Act.put, List.setIfInBounds_toArray, List.set_cons_zero, List.set_cons_succ])
          refine Man.take1 (i := 9) (v := ?_) rfl (by kernel_rfl) (by kernel_rfl) (by kernel_rfl) (fun _ _ _ h => h) (by rfl) ?_ hHeld ?_
          rotate_left
          · (intro u hSu; (try dsimp only at hSu); go_simp; (try with_reducible rfl))
          (try simp only [Act.put, List.setIfInBounds_toArray, List.set_cons_zero, List.set_cons_succ])
          refine Man.take1 (i := 10) (v := ?_) rfl (by kernel_rfl) (by kernel_rfl) (by kernel_rfl) (fun _ _ _ h => h) (by rfl) ?_ hHeld ?_
          rotate_left
          · (intro u hSu; (try dsimp only at hSu); go_simp; (try with_reducible rfl))
          (try simp only [Act.put, List.setIfInBounds_toArray, List.set_cons_zero, List.set_cons_succ])
          refine Man.take1 (i := 11) (v := ?_) rfl (by kernel_rfl) (by kernel_rfl) (by kernel_rfl) (fun _ _ _ h => h) (by rfl) ?_ hHeld ?_
          rotate_left
          · (intro u hSu; (try dsimp only at hSu); go_simp; (try with_reducible rfl))
          (try simp only [Act.put, List.setIfInBounds_toArray, List.set_cons_zero, List.set_cons_succ])
          refine Man.take1 (i := 12) (v := ?_) rfl (by kernel_rfl) (by kernel_rfl) (by kernel_rfl) (fun _ _ _ h => h) (by rfl) ?_ hHeld ?_
          rotate_left
          · (intro u hSu; (try dsimp only at hSu); go_simp; (try with_reducible rfl))
          (try simp only [Act.put, List.setIfInBounds_toArray, List.set_cons_zero, List.set_cons_succ])
          refine Man.take1 (i := 13) (v := ?_) rfl (by kernel_rfl) (by kernel_rfl) (by kernel_rfl) (fun _ _ _ h => h) (by rfl) ?_ hHeld ?_
          rotate_left
          · (intro u hSu; (try dsimp only at hSu); go_simp; (try with_reducible rfl))
          (try simp only [Act.put, List.setIfInBounds_toArray, List.set_cons_zero, List.set_cons_succ])
          refine Man.take1 (i := 14) (v := ?_) rfl (by kernel_rfl) (by kernel_rfl) (by kernel_rfl) (fun _ _ _ h => h) (by rfl) ?_ hHeld ?_
          rotate_left
          · (intro u hSu; (try dsimp only at hSu); go_simp; (try with_reducible rfl))
          (try simp only [Act.put, List.setIfInBounds_toArray, List.set_cons_zero, List.set_cons_succ])
          refine Man.take1 (i := 15) (v := ?_) rfl (by kernel_rfl) (by kernel_rfl) (by kernel_rfl) (fun _ _ _ h => h) (by rfl) ?_ hHeld ?_
          rotate_left
          · (intro u hSu; (try dsimp only at hSu); go_simp; (try with_reducible rfl))
          (try simp only [Act.put, List.setIfInBounds_toArray, List.set_cons_zero, List.set_cons_succ])
          refine Man.take1 (i := 16) (v := ?_) rfl (by kernel_rfl) (by kernel_rfl) (by kernel_rfl) (fun _ _ _ h => h) (by rfl) ?_ hHeld ?_
          rotate_left
          · (intro u hSu; (try dsimp only at hSu); go_simp; (try with_reducible rfl))
          (try simp only [Act.put, List.setIfInBounds_toArray, List.set_cons_zero, List.set_cons_succ])
          refine Man.take1 (i := 17) (v := ?_) rfl (by kernel_rfl) (by kernel_rfl) (by kernel_rfl) (fun _ _ _ h => h) (by rfl) ?_ hHeld ?_
          rotate_left
          · (intro u hSu; (try dsimp only at hSu); go_simp; (try with_reducible rfl))
          (try simp only [Act.put, List.setIfInBounds_toArray, List.set_cons_zero, List.set_cons_succ])
          refine Man.take1 (i := 18) (v := ?_) rfl (by kernel_rfl) (by kernel_rfl) (by kernel_rfl) (fun _ _ _ h => h) (by rfl) ?_ hHeld ?_
          rotate_left
          · (intro u hSu; (try dsimp only at hSu); go_simp; (try with_reducible rfl))
          (try simp only [Act.put, List.setIfInBounds_toArray, List.set_cons_zero, List.set_cons_succ])
          refine Man.take1 (i := 19) (v := ?_) rfl (by kernel_rfl) (by kernel_rfl) (by kernel_rfl) (fun _ _ _ h => h) (by rfl) ?_ hHeld ?_
          rotate_left
          · (intro u hSu; (try dsimp only at hSu); go_simp; (try with_reducible rfl))
          (try simp only [Act.put, List.setIfInBounds_toArray, List.set_cons_zero, List.set_cons_succ])
          refine Man.take1 (i := 20) (v := ?_) rfl (by kernel_rfl) (by kernel_rfl) (by kernel_rfl) (fun _ _ _ h => h) (by rfl) ?_ hHeld ?_
          rotate_left
          · (intro u hSu; (try dsimp only at hSu); go_simp; (try with_reducible rfl))
          (try simp only [Act.put, List.setIfInBounds_toArray, List.set_cons_zero, List.set_cons_succ])
          refine Man.take1 (i := 21) (v := ?_) rfl (by kernel_rfl) (by kernel_rfl) (by kernel_rfl) (fun _ _ _ h => h) (by rfl) ?_ hHeld ?_
          rotate_left
          · (intro u hSu; (try dsimp only at hSu); go_simp; (try with_reducible rfl))
          (try simp only [Act.put, List.setIfInBounds_toArray, List.set_cons_zero, List.set_cons_succ])
          refine Man.take1 (i := 22) (v := ?_) rfl (by kernel_rfl) (by kernel_rfl) (by kernel_rfl) (fun _ _ _ h => h) (by rfl) ?_ hHeld ?_
          rotate_left
          · (intro u hSu; (try dsimp only at hSu); go_simp; (try with_reducible rfl))
          (try simp only [Act.put, List.setIfInBounds_toArray, List.set_cons_zero, List.set_cons_succ])
          refine Man.take0 (i := 23) rfl (by kernel_rfl) (by kernel_rfl) (by kernel_rfl) (fun _ _ _ h => h) (by rfl) hHeld ?_
          (try simp only [Act.put, List.setIfInBounds_toArray, List.set_cons_zero, List.set_cons_succ])
          refine Man.take0 (i := 24) rfl (by kernel_rfl) (by kernel_rfl) (by kernel_rfl) (fun _ _ _ h => h) (by rfl) hHeld ?_
          (try simp only [Act.put, List.setIfInBounds_toArray, List.set_cons_zero, List.set_cons_succ])
          refine Man.take1 (i := 25) (v := ?_) rfl (by kernel_rfl) (by kernel_rfl) (by kernel_rfl) (fun _ _ _ h => h) (by rfl) ?_ hHeld ?_
          rotate_left
          · (intro u hSu; (try dsimp only at hSu); go_simp; (try with_reducible rfl))
          (try simp only [Act.put, List.setIfInBounds_toArray, List.set_cons_zero, List.set_cons_succ])
          refine Man.take1 (i := 26) (v := ?_) rfl (by kernel_rfl) (by kernel_rfl) (by kernel_rfl) (fun _ _ _ h => h) (by rfl) ?_ hHeld ?_
          rotate_left
          · (intro u hSu; (try dsimp only at hSu); go_simp; (try with_reducible rfl))
          (try simp only [Act.put, List.setIfInBounds_toArray, List.set_cons_zero, List.set_cons_succ])
          refine Man.take0 (i := 27) rfl (by kernel_rfl) (by kernel_rfl) (by kernel_rfl) (fun _ _ _ h => h) (by rfl) hHeld ?_
          (try simp only [Act.put, List.setIfInBounds_toArray, List.set_cons_zero, List.set_cons_succ])
          refine Man.take0 (i := 28) rfl (by kernel_rfl) (by kernel_rfl) (by kernel_rfl) (fun _ _ _ h => h) (by rfl) hHeld ?_
          (try simp only [Act.put, List.setIfInBounds_toArray, List.set_cons_zero, List.set_cons_succ])
          refine Man.take0 (i := 29) rfl (by kernel_rfl) (by kernel_rfl) (by kernel_rfl) (fun _ _ _ h => h) (by rfl) hHeld ?_
          (try simp only [Act.put, List.setIfInBounds_toArray, List.set_cons_zero, List.set_cons_succ])
          refine Man.take0 (i := 30) rfl (by kernel_rfl) (by kernel_rfl) (by kernel_rfl) (fun _ _ _ h => h) (by rfl) hHeld ?_
          (try simp only [Act.put, List.setIfInBounds_toArray, List.set_cons_zero, List.set_cons_succ])
          refine Man.take0 (i := 31) rfl (by kernel_rfl) (by kernel_rfl) (by kernel_rfl) (fun _ _ _ h => h) (by rfl) hHeld ?_
          (try simp only [Act.put, List.setIfInBounds_toArray, List.set_cons_zero, List.set_cons_succ])
          refine Man.take0 (i := 32) rfl (by kernel_rfl) (by kernel_rfl) (by kernel_rfl) (fun _ _ _ h => h) (by rfl) hHeld ?_
          (try simp only [Act.put, List.setIfInBounds_toArray, List.set_cons_zero, List.set_cons_succ])
          refine Man.take0 (i := 33) rfl (by kernel_rfl) (by kernel_rfl) (by kernel_rfl) (fun _ _ _ h => h) (by rfl) hHeld ?_
          (try simp only [Act.put, List.setIfInBounds_toArray, List.set_cons_zero, List.set_cons_succ])
          refine Man.take1 (i := 34) (v := ?_) rfl (by kernel_rfl) (by kernel_rfl) (by kernel_rfl) (fun _ _ _ h => h) (by rfl) ?_ hHeld ?_
          rotate_left
          · (intro u hSu; (try dsimp only at hSu); go_simp; (try with_reducible rfl))
          (try simp only [Act.put, List.setIfInBounds_toArray, List.set_cons_zero, List.set_cons_succ])
          refine Man.take1 (i := 35) (v := ?_) rfl (by kernel_rfl) (by kernel_rfl) (by kernel_rfl) (fun _ _ _ h => h) (by rfl) ?_ hHeld ?_
          rotate_left
          · (intro u hSu; (try dsimp only at hSu); go_simp; (try with_reducible rfl))
          (try simp only [Act.put, List.setIfInBounds_toArray, List.set_cons_zero, List.set_cons_succ])
          refine wpAnyH_done (by kernel_rfl) ?_ _
          go_wp2_with fail
          go_roundw
          case rel => exact ⟨kj, rfl, HKJ2.out, hidm ⟨HWZ.out.keep (HZ.out.kept HBD.out), HNZ.out.keep (HZ.out.kept HBD.out), HZ.out.later HBD.out⟩⟩
          case measure => have := HKJ.out; simp [intOf]; omega
      · obtain rfl : k = 20 := by omega
        have k1 : ¬ (20 : Int) < 20 := by omega
        go_wp2_with fail
        refine (known_any _).mono ?_
        rintro e wk ⟨rfl, hb⟩
        have HB := hidm (HZ.out.bel.trans (hb.mono HZ.out.bel.size))
        clear hb
        go_wp2_with fail
        go_ret
        exact ⟨by trivial, HB.out⟩
set_option maxHeartbeats 16000000 in
set_option maxRecDepth 100000 in
theorem law_D (l : List Opv) (v0 : Value) (page : Int) (s : ByteArray) (w : World) (hl : OpsAt l v0 w) (hin : ∀ x ∈ l, x.inn) (hs : ¬ 300 < s.size) (hcase : 1 ≤ page ∧ page < 20 ∧ s.size ≤ 128) :
    Calls Tryz.prog 8 #[v0, .int .i64 page, .string s] w fun e w' => e = .returned (.bool true) ∧ Below w.heap.size w w' := by
  have g0 : ¬ (300 : Int) < (s.size : Int) := by omega
  have N0 := hidm (Dsk.m_new (W := w) (w := w) 60 (by omega) (by omega) (Below.refl _ _))
  have HIN := hidm hin
  obtain ⟨p1, p2, p3'⟩ := hcase
  have p3 : (s.size : Int) ≤ 128 := by omega
  obtain ⟨lo, lc, rfl, hlc, hlcm⟩ := hl.form
  obtain ⟨ll, hll⟩ : ∃ n, n = l.length := ⟨_, rfl⟩
  have HLLll := hidm hll
  have HSLll := hidm hl
  rw [← hll]
  have hll2 : ll ≤ 9223372036854775807 := by omega
  clear hl hll hlc hlcm
  clear hin
  go_enter Tryz.func8, Tryz.ntmps8
  go_wp2_with fail
  refine N0.out.mono ?_
  rintro e w1 ⟨rfl, hm1, hb1⟩
  have R1 := hidm (Re.new (n := 38) (N := 20) (by omega) hm1)
  obtain ⟨D, hD⟩ : ∃ D, D = w.heap.size + 1 := ⟨_, rfl⟩
  rw [← hD] at R1 ⊢
  clear hD hm1 hb1 N0
  go_wp2_with fail
  refine (R1.out.open (by omega) (by omega) (by omega) 40 rfl).mono ?_
  rintro e w2 ⟨P, L, rfl, h2, _⟩
  have H2 := hidm (show Lv w (fun _ => False) P L D 38 20 2000 true [] (fun _ => zeros) w2 from h2.more (by omega))
  clear h2 R1
  go_upto_block 0 with fail
  go_cut [11] (fun _ wx => ∃ (ch : Ch) (V : Nat → List UInt8), Hid (Lv w (fun _ => False) P L D 38 20 (2000 + 90000) true ch V wx))
  case first =>
    go_wp2_with fail
    go_loopw [11] (fun ii wr => ∃ (i : Nat) (ch : Ch) (V : Nat → List UInt8), ii = .int .i64 i ∧ i ≤ ll ∧ i ≤ 30 ∧ Hid (Lv w (fun _ => False) P L D 38 20 (2000 + 3000 * i) true ch V wr)) (fun ii _ => (ll - (intOf ii).toNat))
    case atStart => exact ⟨0, _, _, rfl, by omega, by omega, H2⟩
    case round =>
      rename World => wr
      obtain ⟨i, ch, V, rfl, hi, hi3, HLV⟩ := hrel
      by_cases hlt : i < ll ∧ i < 30
      · obtain ⟨hlt, hlt2⟩ := hlt
        have g1 : (i : Int) < (ll : Int) := by omega
        have g2 : (i : Int) < 30 := by omega
        have hil : i < l.length := by rw [← HLLll.out]; exact hlt
        obtain ⟨b', o, cp, he, hbl, q0, q1, q2, q3⟩ := HSLll.out.at i hil
        have HXI0 := HIN.out _ (List.getElem_mem hil)
        have he2 : (Value.slice lo ll lc) = .slice (some ⟨b', o, none⟩) l.length cp := by rw [HLLll.out]; exact he
        simp only [Value.slice.injEq] at he2
        obtain ⟨rfl, -, rfl⟩ := he2
        clear he
        obtain ⟨x, hx⟩ : ∃ x, x = l[i] := ⟨_, rfl⟩
        rw [← hx] at q0 q1 q2 q3 HXI0
        have HXI := hidm HXI0
        clear hx HXI0
        have hbel := HLV.out.bel
        have c0 := (hbel.cell (p := ⟨b', o + i * 4, none⟩) hbl).trans q0
        have c1 := (hbel.cell (p := ⟨b', o + i * 4 + 1, none⟩) hbl).trans q1
        have c2 := (hbel.cell (p := ⟨b', o + i * 4 + 2, none⟩) hbl).trans q2
        have c3 := (hbel.cell (p := ⟨b', o + i * 4 + 3, none⟩) hbl).trans q3
        have i1 : (i : Int) + 1 = ((i + 1 : Nat) : Int) := by omega
        obtain ⟨j, hj⟩ : ∃ j, j = i + 1 := ⟨_, rfl⟩
        rw [← hj] at i1
        have i1w : IntKind.i64.wrap (j : Int) = (j : Int) := by simp only [IntKind.wrap_i64]; omega
        have HJ := hidm hj
        have HJ2 := hidm (show j ≤ ll ∧ j ≤ 30 from by omega)
        clear hj hbel q0 q1 q2 q3
        by_cases hkd : x.kind < 5
        · have HKD := hidm hkd
          by_cases hsz : x.s.size < 200
          · have g3 : (x.s.size : Int) < 200 := by omega
            clear hsz
            go_wp2_with fail
            refine (HLV.out.do_all x HXI.out (by omega) HLV.out.fits (by omega)).mono ?_
            rintro e w3 ⟨a, c, sx, ch3, V3, rfl, h3, k3⟩
            have H3 := hidm h3
            clear h3 k3 c0 c1 c2 c3
            go_wp2_with fail
            go_roundw
            case rel => exact ⟨j, ch3, V3, rfl, HJ2.out.1, HJ2.out.2, hidm (H3.out.more (by rw [HJ.out]; omega))⟩
            case measure => have := HJ.out; simp [intOf]; omega
          · have g3 : ¬ (x.s.size : Int) < 200 := by omega
            clear hsz
            go_wp2_with fail
            go_roundw
            case rel => exact ⟨j, ch, V, rfl, HJ2.out.1, HJ2.out.2, hidm (HLV.out.more (by rw [HJ.out]; omega))⟩
            case measure => have := HJ.out; simp [intOf]; omega
        · go_wp2_with fail
          go_roundw
          case rel => exact ⟨j, ch, V, rfl, HJ2.out.1, HJ2.out.2, hidm (HLV.out.more (by rw [HJ.out]; omega))⟩
          case measure => have := HJ.out; simp [intOf]; omega
      · have HLVE := hidm (show Lv w (fun _ => False) P L D 38 20 (2000 + 90000) true ch V wr from HLV.out.more (by omega))
        clear HLV H2
        by_cases hge : i < ll
        · have g1 : (i : Int) < (ll : Int) := by omega
          have g2 : ¬ (i : Int) < 30 := by omega
          go_wp2_with fail
          go_meet
          exact ⟨_, _, HLVE⟩
        · obtain rfl : i = ll := by omega
          have g1 : ¬ (i : Int) < (i : Int) := by omega
          go_wp2_with fail
          go_meet
          exact ⟨_, _, HLVE⟩
  case rest =>
    obtain ⟨ch, V, HLVE⟩ := hcut
    clear H2
    go_wp2_with fail
    refine (HLVE.out.commit (by omega) HLVE.out.fits (by omega)).mono ?_
    rintro e w4 hcm
    rcases hcm with ⟨rfl, h4, k4⟩ | ⟨hu, _⟩
    rotate_left
    · cases hu
    have H4 := hidm h4
    clear h4 k4 HLVE
    obtain ⟨V2, hV2⟩ : ∃ V2, V2 = over ch V := ⟨_, rfl⟩
    rw [← hV2] at H4
    clear hV2
    go_wp2_with fail
    refine H4.out.pagesQ.mono ?_
    rintro e w5 ⟨wo, wc, Q5, rfl, _, ht5, h5, _⟩
    have HW5 := hidm ht5
    have H5 := hidm h5
    clear ht5 h5 H4
    go_wp2_with fail
    refine (H5.out.write_any page s).mono ?_
    rintro e w6 ⟨cg, chW, rfl, h6, k6, hr6⟩
    have H6 := hidm h6
    have HW6 := hidm (HW5.out.keep k6)
    obtain ⟨rfl, -, -, -, hch⟩ : cg = 0 ∧ 1 ≤ page ∧ page < 20 ∧ s.size ≤ 128 ∧ chW = put [] page.toNat (pad s.data.toList) := by
      rcases hr6 with ⟨_, _, h⟩ | h
      · omega
      · exact h
    obtain ⟨pn, rfl⟩ := Int.eq_ofNat_of_zero_le (show 0 ≤ page from by omega)
    rw [Int.toNat_natCast] at hch
    have HCH := hidm hch
    clear hr6 hch h6 k6 H5 HW5
    go_wp2_with fail
    refine H6.out.pagesQ.mono ?_
    rintro e w7 ⟨no, nc, Q7, rfl, hq7, ht7, h7, k7⟩
    have HN7 := hidm ht7
    have H7 := hidm h7
    have HW7 := hidm ((HW6.out.keep k7).mono hq7)
    clear ht7 h7 k7 hq7 H6 HW6
    go_wp2_with fail
    refine H7.out.abort.mono ?_
    rintro e w8 ⟨rfl, h8, k8⟩
    have H8 := hidm h8
    have HN8 := hidm (HN7.out.keep k8)
    have HW8 := hidm (HW7.out.keep k8)
    clear h8 k8 H7 HN7 HW7
    go_wp2_with fail
    refine H8.out.pagesQ.mono ?_
    rintro e w9 ⟨ao, ac, Q9, rfl, hq9, ht9, h9, k9⟩
    have HA9 := hidm ht9
    have H9 := hidm h9
    have HN9 := hidm ((HN8.out.keep k9).mono hq9)
    have HW9 := hidm ((HW8.out.keep k9).mono hq9)
    clear ht9 h9 k9 hq9 H8 HN8 HW8
    go_wp2_with fail
    refine (texts_any _ _ _ _ _ (by rw [all_len]) HA9.out.1 HW9.out.1).mono ?_
    rintro e w10 ⟨rfl, hb10⟩
    rw [decide_eq_true (show all 20 (over [] V2) = all 20 (over [] V2) from rfl)]
    have H10 := hidm (H9.out.later hb10)
    have HN10 := hidm (HN9.out.keep (H9.out.kept hb10))
    have HW10 := hidm (HW9.out.keep (H9.out.kept hb10))
    clear hb10 H9 HN9 HW9 HA9
    go_wp2_with fail
    go_loopw [15] (fun kk wz => ∃ k : Nat, kk = .int .i64 k ∧ k ≤ 20 ∧ Hid (TextsQ Q9 (all 20 (over [] V2)) (.slice wo 20 wc) wz ∧ TextsQ Q9 (all 20 (over chW V2)) (.slice no 20 nc) wz ∧ Lv w Q9 P L D 38 20 95000 true [] V2 wz)) (fun kk _ => (20 - (intOf kk).toNat))
    case atStart => exact ⟨0, rfl, by omega, hidm ⟨HW10.out, HN10.out, H10.out⟩⟩
    case round =>
      rename World => wz
      obtain ⟨k, rfl, hk20, HALL⟩ := hrel
      have HWZ := hidm HALL.out.1
      have HNZ := hidm HALL.out.2.1
      have HZ := hidm HALL.out.2.2
      clear HALL
      rcases Nat.lt_or_ge k 20 with hkl | hkg
      · have k1 : (k : Int) < 20 := by omega
        have k1a : ¬ (k : Int) < 0 := by omega
        have ki : (k : Int) + 1 = ((k + 1 : Nat) : Int) := by omega
        obtain ⟨kj, hkj⟩ : ∃ j, j = k + 1 := ⟨_, rfl⟩
        rw [← hkj] at ki
        have kiw : IntKind.i64.wrap (kj : Int) = (kj : Int) := by simp only [IntKind.wrap_i64]; omega
        have HKJ := hidm hkj
        have HKJ2 := hidm (show kj ≤ 20 from by omega)
        clear hkj
        by_cases hkp : k = pn
        · subst hkp
          have k2 : ((k : Int) != (k : Int)) = false := by simp
          have k3 : ((k : Int) == (k : Int)) = true := by simp
          obtain ⟨ng, nc, hne1, cn⟩ := TextsAt.at HNZ.out.1 k (by rw [all_len]; exact hkl)
          obtain ⟨wg, wc, hwe1, cw⟩ := TextsAt.at HWZ.out.1 k (by rw [all_len]; exact hkl)
          rw [all_at] at cn cw
          simp only [Value.slice.injEq] at hne1 hwe1
          obtain ⟨rfl, -, rfl⟩ := hne1
          obtain ⟨rfl, -, rfl⟩ := hwe1
          have hov : over chW V2 k = pad s.data.toList := by rw [HCH.out, over_put, if_pos rfl]
          rw [hov] at cn
          obtain ⟨tx, htx⟩ : ∃ t, t = over [] V2 k := ⟨_, rfl⟩
          rw [← htx] at cw
          clear htx hov
          obtain ⟨py, hpy⟩ : ∃ t, t = pad s.data.toList := ⟨_, rfl⟩
          have HPY := hidm hpy
          rw [← hpy] at cn
          clear hpy
          go_upto_region 22 with fail
          have HBD := hidm ((Below.refl wz.heap.size wz).drew)
          have HZd := hidm (HZ.out.later HBD.out)
          refine wp_region_held_drew (S := fun u => u.cell? ⟨ng, k, none⟩ = some (.string (S py)) ∧ u.cell? ⟨wg, k, none⟩ = some (.string (S tx))) (by kernel_rfl) ⟨cn, cw⟩ (fun hHeld => ?_)
          clear cn cw
          refine Man.take1 (i := 0) (v := ?_) rfl (by kernel_rfl) (by kernel_rfl) (by kernel_rfl) (fun _ _ _ h => h) (by rfl) ?_ hHeld ?_
          rotate_left
          · (intro u hSu; (try dsimp only at hSu); go_simp; (try with_reducible rfl))
          (try simp only [Act.put, List.setIfInBounds_toArray, List.set_cons_zero, List.set_cons_succ])
          refine Man.take1 (i := 1) (v := ?_) rfl (by kernel_rfl) (by kernel_rfl) (by kernel_rfl) (fun _ _ _ h => h) (by rfl) ?_ hHeld ?_
          rotate_left
          · (intro u hSu; (try dsimp only at hSu); go_simp; (try with_reducible rfl))
          (try simp only [Act.put, List.setIfInBounds_toArray, List.set_cons_zero, List.set_cons_succ])
          refine Man.take1 (i := 2) (v := ?_) rfl (by kernel_rfl) (by kernel_rfl) (by kernel_rfl) (fun _ _ _ h => h) (by rfl) ?_ hHeld ?_
          rotate_left
          · (intro u hSu; (try dsimp only at hSu); go_simp; (try with_reducible rfl))
          (try simp only [Act.put, List.setIfInBounds_toArray, List.set_cons_zero, List.set_cons_succ])
          refine Man.take1 (i := 3) (v := ?_) rfl (by kernel_rfl) (by kernel_rfl) (by kernel_rfl) (fun _ _ _ h => h) (by rfl) ?_ hHeld ?_
          rotate_left
          · (intro u hSu; (try dsimp only at hSu); go_simp; (try with_reducible rfl))
          (try simp only [Act.put, List.setIfInBounds_toArray, List.set_cons_zero, List.set_cons_succ])
          refine Man.take1 (i := 4) (v := ?_) rfl (by kernel_rfl) (by kernel_rfl) (by kernel_rfl) (fun _ _ _ h => h) (by rfl) ?_ hHeld ?_
          rotate_left
          · (intro u hSu; (try dsimp only at hSu); go_simp; (try with_reducible rfl))
          (try simp only [Act.put, List.setIfInBounds_toArray, List.set_cons_zero, List.set_cons_succ])
          refine Man.take1 (i := 5) (v := ?_) rfl (by kernel_rfl) (by kernel_rfl) (by kernel_rfl) (fun _ _ _ h => h) (by rfl) ?_ hHeld ?_
          rotate_left
          · (intro u hSu; (try dsimp only at hSu); go_simp; (try with_reducible rfl))
          (try simp only [Act.put, List.setIfInBounds_toArray, List.set_cons_zero, List.set_cons_succ])
          refine Man.take1 (i := 6) (v := ?_) rfl (by kernel_rfl) (by kernel_rfl) (by kernel_rfl) (fun _ _ _ h => h) (by rfl) ?_ hHeld ?_
          rotate_left
          · (intro u hSu; (try dsimp only at hSu); go_simp; (try with_reducible rfl))
          (try simp only [Act.put, List.setIfInBounds_toArray, List.set_cons_zero, List.set_cons_succ])
          refine Man.take1 (i := 7) (v := ?_) rfl (by kernel_rfl) (by kernel_rfl) (by kernel_rfl) (fun _ _ _ h => h) (by rfl) ?_ hHeld ?_
          rotate_left
          · (intro u hSu; (try dsimp only at hSu); go_simp; (try with_reducible rfl))
          (try simp only [Act.put, List.setIfInBounds_toArray, List.set_cons_zero, List.set_cons_succ])
          refine Man.take0 (i := 8) rfl (by kernel_rfl) (by kernel_rfl) (by kernel_rfl) (fun _ _ _ h => h) (by rfl) hHeld ?_
          (try simp only [Act.put, List.setIfInBounds_toArray, List.set_cons_zero, List.set_cons_succ])
          refine Man.take0 (i := 9) rfl (by kernel_rfl) (by kernel_rfl) (by kernel_rfl) (fun _ _ _ h => h) (by rfl) hHeld ?_
          (try simp only [Act.put, List.setIfInBounds_toArray, List.set_cons_zero, List.set_cons_succ])
          refine Man.take0 (i := 10) rfl (by kernel_rfl) (by kernel_rfl) (by kernel_rfl) (fun _ _ _ h => h) (by rfl) hHeld ?_
          (try simp only [Act.put, List.setIfInBounds_toArray, List.set_cons_zero, List.set_cons_succ])
          refine Man.take0 (i := 11) rfl (by kernel_rfl) (by kernel_rfl) (by kernel_rfl) (fun _ _ _ h => h) (by rfl) hHeld ?_
          (try simp only [Act.put, List.setIfInBounds_toArray, List.set_cons_zero, List.set_cons_succ])
          refine Man.take0 (i := 12) rfl (by kernel_rfl) (by kernel_rfl) (by kernel_rfl) (fun _ _ _ h => h) (by rfl) hHeld ?_
          (try simp only [Act.put, List.setIfInBounds_toArray, List.set_cons_zero, List.set_cons_succ])
          refine Man.take0 (i := 13) rfl (by kernel_rfl) (by kernel_rfl) (by kernel_rfl) (fun _ _ _ h => h) (by rfl) hHeld ?_
          (try simp only [Act.put, List.setIfInBounds_toArray, List.set_cons_zero, List.set_cons_succ])
          refine Man.take0 (i := 14) rfl (by kernel_rfl) (by kernel_rfl) (by kernel_rfl) (fun _ _ _ h => h) (by rfl) hHeld ?_
          (try simp only [Act.put, List.setIfInBounds_toArray, List.set_cons_zero, List.set_cons_succ])
          refine Man.take0 (i := 15) rfl (by kernel_rfl) (by kernel_rfl) (by kernel_rfl) (fun _ _ _ h => h) (by rfl) hHeld ?_
          (try simp only [Act.put, List.setIfInBounds_toArray, List.set_cons_zero, List.set_cons_succ])
          refine Man.take0 (i := 16) rfl (by kernel_rfl) (by kernel_rfl) (by kernel_rfl) (fun _ _ _ h => h) (by rfl) hHeld ?_
          (try simp only [Act.put, List.setIfInBounds_toArray, List.set_cons_zero, List.set_cons_succ])
          refine Man.take1 (i := 17) (v := ?_) rfl (by kernel_rfl) (by kernel_rfl) (by kernel_rfl) (fun _ _ _ h => h) (by rfl) ?_ hHeld ?_
          rotate_left
          · (intro u hSu; (try dsimp only at hSu); go_simp; (try with_reducible rfl))
          (try simp only [Act.put, List.setIfInBounds_toArray, List.set_cons_zero, List.set_cons_succ])
          refine Man.take1 (i := 18) (v := ?_) rfl (by kernel_rfl) (by kernel_rfl) (by kernel_rfl) (fun _ _ _ h => h) (by rfl) ?_ hHeld ?_
          rotate_left
          · (intro u hSu; (try dsimp only at hSu); go_simp; (try with_reducible rfl))
          (try simp only [Act.put, List.setIfInBounds_toArray, List.set_cons_zero, List.set_cons_succ])
          refine Man.take1 (i := 19) (v := ?_) rfl (by kernel_rfl) (by kernel_rfl) (by kernel_rfl) (fun _ _ _ h => h) (by rfl) ?_ hHeld ?_
          rotate_left
          · (intro u hSu; (try dsimp only at hSu); go_simp; (try with_reducible rfl))
          (try simp only [Act.put, List.setIfInBounds_toArray, List.set_cons_zero, List.set_cons_succ])
          refine Man.take1 (i := 20) (v := ?_) rfl (by kernel_rfl) (by kernel_rfl) (by kernel_rfl) (fun _ _ _ h => h) (by rfl) ?_ hHeld ?_
          rotate_left
          · (intro u hSu; (try dsimp only at hSu); go_simp; (try with_reducible rfl))
          (try simp only [Act.put, List.setIfInBounds_toArray, List.set_cons_zero, List.set_cons_succ])
          refine Man.take1 (i := 21) (v := ?_) rfl (by kernel_rfl) (by kernel_rfl) (by kernel_rfl) (fun _ _ _ h => h) (by rfl) ?_ hHeld ?_
          rotate_left
          · (intro u hSu; (try dsimp only at hSu); go_simp; (try with_reducible rfl))
          (try simp only [Act.put, List.setIfInBounds_toArray, List.set_cons_zero, List.set_cons_succ])
          refine Man.take1 (i := 22) (v := ?_) rfl (by kernel_rfl) (by kernel_rfl) (by kernel_rfl) (fun _ _ _ h => h) (by rfl) ?_ hHeld ?_
          rotate_left
          · (intro u hSu; (try dsimp only at hSu); go_simp; (try with_reducible rfl))
          (try simp only [Act.put, List.setIfInBounds_toArray, List.set_cons_zero, List.set_cons_succ])
          refine Man.take1 (i := 23) (v := ?_) rfl (by kernel_rfl) (by kernel_rfl) (by kernel_rfl) (fun _ _ _ h => h) (by rfl) ?_ hHeld ?_
          rotate_left
          · (intro u hSu; (try dsimp only at hSu); go_simp; (try with_reducible rfl))
          (try simp only [Act.put, List.setIfInBounds_toArray, List.set_cons_zero, List.set_cons_succ])
          refine Man.take1 (i := 24) (v := ?_) rfl (by kernel_rfl) (by kernel_rfl) (by kernel_rfl) (fun _ _ _ h => h) (by rfl) ?_ hHeld ?_
          rotate_left
          · (intro u hSu; (try dsimp only at hSu); go_simp; (try with_reducible rfl))
          (try simp only [Act.put, List.setIfInBounds_toArray, List.set_cons_zero, List.set_cons_succ])
          refine Man.take1 (i := 25) (v := ?_) rfl (by kernel_rfl) (by kernel_rfl) (by kernel_rfl) (fun _ _ _ h => h) (by rfl) ?_ hHeld ?_
          rotate_left
          · (intro u hSu; (try dsimp only at hSu); go_simp; (try with_reducible rfl))
          (try simp only [Act.put, List.setIfInBounds_toArray, List.set_cons_zero, List.set_cons_succ])
          refine Man.take1 (i := 26) (v := ?_) rfl (by kernel_rfl) (by kernel_rfl) (by kernel_rfl) (fun _ _ _ h => h) (by rfl) ?_ hHeld ?_
          rotate_left
          · (intro u hSu; (try dsimp only at hSu); go_simp; (try with_reducible rfl))
          (try simp only [Act.put, List.setIfInBounds_toArray, List.set_cons_zero, List.set_cons_succ])
          refine Man.take1 (i := 27) (v := ?_) rfl (by kernel_rfl) (by kernel_rfl) (by kernel_rfl) (fun _ _ _ h => h) (by rfl) ?_ hHeld ?_
          rotate_left
          · (intro u hSu; (try dsimp only at hSu); go_simp; (try with_reducible rfl))
          (try simp only [Act.put, List.setIfInBounds_toArray, List.set_cons_zero, List.set_cons_succ])
          refine Man.take1 (i := 28) (v := ?_) rfl (by kernel_rfl) (by kernel_rfl) (by kernel_rfl) (fun _ _ _ h => h) (by rfl) ?_ hHeld ?_
          rotate_left
          · (intro u hSu; (try dsimp only at hSu); go_simp; (try with_reducible rfl))
          (try simp only [Act.put, List.setIfInBounds_toArray, List.set_cons_zero, List.set_cons_succ])
          refine Man.take1 (i := 29) (v := ?_) rfl (by kernel_rfl) (by kernel_rfl) (by kernel_rfl) (fun _ _ _ h => h) (by rfl) ?_ hHeld ?_
          rotate_left
          · (intro u hSu; (try dsimp only at hSu); go_simp; (try with_reducible rfl))
          (try simp only [Act.put, List.setIfInBounds_toArray, List.set_cons_zero, List.set_cons_succ])
          refine Man.take1 (i := 30) (v := ?_) rfl (by kernel_rfl) (by kernel_rfl) (by kernel_rfl) (fun _ _ _ h => h) (by rfl) ?_ hHeld ?_
          rotate_left
          · (intro u hSu; (try dsimp only at hSu); go_simp; (try with_reducible rfl))
          (try simp only [Act.put, List.setIfInBounds_toArray, List.set_cons_zero, List.set_cons_succ])
          refine Man.take1 (i := 31) (v := ?_) rfl (by kernel_rfl) (by kernel_rfl) (by kernel_rfl) (fun _ _ _ h => h) (by rfl) ?_ hHeld ?_
          rotate_left
          · (intro u hSu; (try dsimp only at hSu); go_simp; (try with_reducible rfl))
          (try simp only [Act.put, List.setIfInBounds_toArray, List.set_cons_zero, List.set_cons_succ])
          refine Man.one (i := 32) rfl (by kernel_rfl) (fun K hK => ?_)
          go_simp
          refine (Dsk.rpad_any s (by omega) _).mono ?_
          rw [show pad s.data.toList = py from HPY.out.symm]
          rintro e w12 ⟨rfl, hb12⟩
          have HBD := hidm (HBD.out.trans (hb12.mono HBD.out.size))
          have hHeld2 := And.intro ((hb12.cell (p := ⟨ng, k, none⟩) (World.block_lt_of_cell? _ _ hHeld.1)).trans hHeld.1) ((hb12.cell (p := ⟨wg, k, none⟩) (World.block_lt_of_cell? _ _ hHeld.2)).trans hHeld.2)
          clear hb12
          refine hK.out _ _ hHeld2 (fun hNew => ?_)
          clear hK K hHeld hHeld2
          have hHeld := hNew
          clear hNew
          (try simp only [Act.put, List.setIfInBounds_toArray, List.set_cons_zero, List.set_cons_succ])
          refine Man.take1 (i := 33) (v := ?_) rfl (by kernel_rfl) (by kernel_rfl) (by kernel_rfl) (fun _ _ _ h => h) (by rfl) ?_ hHeld ?_
          rotate_left
          · (intro u hSu; (try dsimp only at hSu); go_simp; (try with_reducible rfl))
          (try simp only [Act.put, List.setIfInBounds_toArray, List.set_cons_zero, List.set_cons_succ])
          refine Man.take1 (i := 34) (v := ?_) rfl (by kernel_rfl) (by kernel_rfl) (by kernel_rfl) (fun _ _ _ h => h) (by rfl) ?_ hHeld ?_
          rotate_left
          · (intro u hSu; (try dsimp only at hSu); go_simp; (try with_reducible rfl))
          (try simp only [Act.put, List.setIfInBounds_toArray, List.set_cons_zero, List.set_cons_succ])
          refine Man.take1 (i := 35) (v := ?_) rfl (by kernel_rfl) (by kernel_rfl) (by kernel_rfl) (fun _ _ _ h => h) (by rfl) ?_ hHeld ?_
          rotate_left
          · (intro u hSu; (try dsimp only at hSu); go_simp; (try with_reducible rfl))
          (try simp only [Act.put, List.setIfInBounds_toArray, List.set_cons_zero, List.set_cons_succ])
          refine wpAnyH_done (by kernel_rfl) ?_ _
          go_wp2_with fail
          go_roundw
          case rel => exact ⟨kj, rfl, HKJ2.out, hidm ⟨HWZ.out.keep (HZ.out.kept HBD.out), HNZ.out.keep (HZ.out.kept HBD.out), HZ.out.later HBD.out⟩⟩
          case measure => have := HKJ.out; simp [intOf]; omega
        · have k2 : ((k : Int) != (pn : Int)) = true := by simp; omega
          have k3 : ((k : Int) == (pn : Int)) = false := by simp; omega
          obtain ⟨ng, nc, hne1, cn⟩ := TextsAt.at HNZ.out.1 k (by rw [all_len]; exact hkl)
          obtain ⟨wg, wc, hwe1, cw⟩ := TextsAt.at HWZ.out.1 k (by rw [all_len]; exact hkl)
          rw [all_at] at cn cw
          simp only [Value.slice.injEq] at hne1 hwe1
          obtain ⟨rfl, -, rfl⟩ := hne1
          obtain ⟨rfl, -, rfl⟩ := hwe1
          have hov : over chW V2 k = over [] V2 k := by rw [HCH.out, over_put, if_neg hkp]
          rw [hov] at cn
          obtain ⟨tx, htx⟩ : ∃ t, t = over [] V2 k := ⟨_, rfl⟩
          rw [← htx] at cw cn
          clear htx hov
          go_upto_region 22 with fail
          have HBD := hidm ((Below.refl wz.heap.size wz).drew)
          have HZd := hidm (HZ.out.later HBD.out)
          refine wp_region_held_drew (S := fun u => u.cell? ⟨ng, k, none⟩ = some (.string (S tx)) ∧ u.cell? ⟨wg, k, none⟩ = some (.string (S tx))) (by kernel_rfl) ⟨cn, cw⟩ (fun hHeld => ?_)
          clear cn cw
          refine Man.take1 (i := 0) (v := ?_) rfl (by kernel_rfl) (by kernel_rfl) (by kernel_rfl) (fun _ _ _ h => h) (by rfl) ?_ hHeld ?_
          rotate_left
          · (intro u hSu; (try dsimp only at hSu); go_simp; (try with_reducible rfl))
          (try simp only [Act.put, List.setIfInBounds_toArray, List.set_cons_zero, List.set_cons_succ])
          refine Man.take1 (i := 1) (v := ?_) rfl (by kernel_rfl) (by kernel_rfl) (by kernel_rfl) (fun _ _ _ h => h) (by rfl) ?_ hHeld ?_
          rotate_left
          · (intro u hSu; (try dsimp only at hSu); go_simp; (try with_reducible rfl))
          (try simp only [Act.put, List.setIfInBounds_toArray, List.set_cons_zero, List.set_cons_succ])
          refine Man.take1 (i := 2) (v := ?_) rfl (by kernel_rfl) (by kernel_rfl) (by kernel_rfl) (fun _ _ _ h => h) (by rfl) ?_ hHeld ?_
          rotate_left
          · (intro u hSu; (try dsimp only at hSu); go_simp; (try with_reducible rfl))
          (try simp only [Act.put, List.setIfInBounds_toArray, List.set_cons_zero, List.set_cons_succ])
          refine Man.take1 (i := 3) (v := ?_) rfl (by kernel_rfl) (by kernel_rfl) (by kernel_rfl) (fun _ _ _ h => h) (by rfl) ?_ hHeld ?_
          rotate_left
          · (intro u hSu; (try dsimp only at hSu); go_simp; (try with_reducible rfl))
          (try simp only [Act.put, List.setIfInBounds_toArray, List.set_cons_zero, List.set_cons_succ])
          refine Man.take0 (i := 4) rfl (by kernel_rfl) (by kernel_rfl) (by kernel_rfl) (fun _ _ _ h => h) (by rfl) hHeld ?_
          (try simp only [Act.put, List.setIfInBounds_toArray, List.set_cons_zero, List.set_cons_succ])
          refine Man.take0 (i := 5) rfl (by kernel_rfl) (by kernel_rfl) (by kernel_rfl) (fun _ _ _ h => h) (by rfl) hHeld ?_
          (try simp only [Act.put, List.setIfInBounds_toArray, List.set_cons_zero, List.set_cons_succ])
          refine Man.take1 (i := 6) (v := ?_) rfl (by kernel_rfl) (by kernel_rfl) (by kernel_rfl) (fun _ _ _ h => h) (by rfl) ?_ hHeld ?_
          rotate_left
          · (intro u hSu; (try dsimp only at hSu); go_simp; (try with_reducible rfl))
          (try simp only [Act.put, List.setIfInBounds_toArray, List.set_cons_zero, List.set_cons_succ])
          refine Man.take1 (i := 7) (v := ?_) rfl (by kernel_rfl) (by kernel_rfl) (by kernel_rfl) (fun _ _ _ h => h) (by rfl) ?_ hHeld ?_
          rotate_left
          · (intro u hSu; (try dsimp only at hSu); go_simp; (try with_reducible rfl))
          (try simp only [Act.put, List.setIfInBounds_toArray, List.set_cons_zero, List.set_cons_succ])
          refine Man.take1 (i := 8) (v := ?_) rfl (by kernel_rfl) (by kernel_rfl) (by kernel_rfl) (fun _ _ _ h => h) (by rfl) ?_ hHeld ?_
          rotate_left
          · (intro u hSu; (try dsimp only at hSu); go_simp; (try with_reducible rfl))
          (try simp only [Act.put, List.setIfInBounds_toArray, List.set_cons_zero, List.set_cons_succ])
          refine Man.take1 (i := 9) (v := ?_) rfl (by kernel_rfl) (by kernel_rfl) (by kernel_rfl) (fun _ _ _ h => h) (by rfl) ?_ hHeld ?_
          rotate_left
          · (intro u hSu; (try dsimp only at hSu); go_simp; (try with_reducible rfl))
          (try simp only [Act.put, List.setIfInBounds_toArray, List.set_cons_zero, List.set_cons_succ])
          refine Man.take1 (i := 10) (v := ?_) rfl (by kernel_rfl) (by kernel_rfl) (by kernel_rfl) (fun _ _ _ h => h) (by rfl) ?_ hHeld ?_
          rotate_left
          · (intro u hSu; (try dsimp only at hSu); go_simp; (try with_reducible rfl))
          (try simp only [Act.put, List.setIfInBounds_toArray, List.set_cons_zero, List.set_cons_succ])
          refine Man.take1 (i := 11) (v := ?_) rfl (by kernel_rfl) (by kernel_rfl) (by kernel_rfl) (fun _ _ _ h => h) (by rfl) ?_ hHeld ?_
          rotate_left
          · (intro u hSu; (try dsimp only at hSu); go_simp; (try with_reducible rfl))
          (try simp only [Act.put, List.setIfInBounds_toArray, List.set_cons_zero, List.set_cons_succ])
          refine Man.take1 (i := 12) (v := ?_) rfl (by kernel_rfl) (by kernel_rfl) (by kernel_rfl) (fun _ _ _ h => h) (by rfl) ?_ hHeld ?_
          rotate_left
          · (intro u hSu; (try dsimp only at hSu); go_simp; (try with_reducible rfl))
          (try simp only [Act.put, List.setIfInBounds_toArray, List.set_cons_zero, List.set_cons_succ])
          refine Man.take1 (i := 13) (v := ?_) rfl (by kernel_rfl) (by kernel_rfl) (by kernel_rfl) (fun _ _ _ h => h) (by rfl) ?_ hHeld ?_
          rotate_left
          · (intro u hSu; (try dsimp only at hSu); go_simp; (try with_reducible rfl))
          (try simp only [Act.put, List.setIfInBounds_toArray, List.set_cons_zero, List.set_cons_succ])
          refine Man.take1 (i := 14) (v := ?_) rfl (by kernel_rfl) (by kernel_rfl) (by kernel_rfl) (fun _ _ _ h => h) (by rfl) ?_ hHeld ?_
          rotate_left
          · (intro u hSu; (try dsimp only at hSu); go_simp; (try with_reducible rfl))
          (try simp only [Act.put, List.setIfInBounds_toArray, List.set_cons_zero, List.set_cons_succ])
          refine Man.take1 (i := 15) (v := ?_) rfl (by kernel_rfl) (by kernel_rfl) (by kernel_rfl) (fun _ _ _ h => h) (by rfl) ?_ hHeld ?_
          rotate_left
          · (intro u hSu; (try dsimp only at hSu); go_simp; (try with_reducible rfl))
          (try simp only [Act.put, List.setIfInBounds_toArray, List.set_cons_zero, List.set_cons_succ])
          refine Man.take1 (i := 16) (v := ?_) rfl (by kernel_rfl) (by kernel_rfl) (by kernel_rfl) (fun _ _ _ h => h) (by rfl) ?_ hHeld ?_
          rotate_left
          · (intro u hSu; (try dsimp only at hSu); go_simp; (try with_reducible rfl))
          (try simp only [Act.put, List.setIfInBounds_toArray, List.set_cons_zero, List.set_cons_succ])
          refine Man.take1 (i := 17) (v := ?_) rfl (by kernel_rfl) (by kernel_rfl) (by kernel_rfl) (fun _ _ _ h => h) (by rfl) ?_ hHeld ?_
          rotate_left
          · (intro u hSu; (try dsimp only at hSu); go_simp; (try with_reducible rfl))
          (try simp only [Act.put, List.setIfInBounds_toArray, List.set_cons_zero, List.set_cons_succ])
          refine Man.take1 (i := 18) (v := ?_) rfl (by kernel_rfl) (by kernel_rfl) (by kernel_rfl) (fun _ _ _ h => h) (by rfl) ?_ hHeld ?_
          rotate_left
          · (intro u hSu; (try dsimp only at hSu); go_simp; (try with_reducible rfl))
          (try simp only [Act.put, List.setIfInBounds_toArray, List.set_cons_zero, List.set_cons_succ])
          refine Man.take1 (i := 19) (v := ?_) rfl (by kernel_rfl) (by kernel_rfl) (by kernel_rfl) (fun _ _ _ h => h) (by rfl) ?_ hHeld ?_
          rotate_left
          · (intro u hSu; (try dsimp only at hSu); go_simp; (try with_reducible rfl))
          (try simp only [Act.put, List.setIfInBounds_toArray, List.set_cons_zero, List.set_cons_succ])
          refine Man.take1 (i := 20) (v := ?_) rfl (by kernel_rfl) (by kernel_rfl) (by kernel_rfl) (fun _ _ _ h => h) (by rfl) ?_ hHeld ?_
          rotate_left
          · (intro u hSu; (try dsimp only at hSu); go_simp; (try with_reducible rfl))
          (try simp only [Act.put, List.setIfInBounds_toArray, List.set_cons_zero, List.set_cons_succ])
          refine Man.take1 (i := 21) (v := ?_) rfl (by kernel_rfl) (by kernel_rfl) (by kernel_rfl) (fun _ _ _ h => h) (by rfl) ?_ hHeld ?_
          rotate_left
          · (intro u hSu; (try dsimp only at hSu); go_simp; (try with_reducible rfl))
          (try simp only [Act.put, List.setIfInBounds_toArray, List.set_cons_zero, List.set_cons_succ])
          refine Man.take1 (i := 22) (v := ?_) rfl (by kernel_rfl) (by kernel_rfl) (by kernel_rfl) (fun _ _ _ h => h) (by rfl) ?_ hHeld ?_
          rotate_left
          · (intro u hSu; (try dsimp only at hSu); go_simp; (try with_reducible rfl))
          (try simp only [Act.put, List.setIfInBounds_toArray, List.set_cons_zero, List.set_cons_succ])
          refine Man.take0 (i := 23) rfl (by kernel_rfl) (by kernel_rfl) (by kernel_rfl) (fun _ _ _ h => h) (by rfl) hHeld ?_
          (try simp only [Act.put, List.setIfInBounds_toArray, List.set_cons_zero, List.set_cons_succ])
          refine Man.take0 (i := 24) rfl (by kernel_rfl) (by kernel_rfl) (by kernel_rfl) (fun _ _ _ h => h) (by rfl) hHeld ?_
          (try simp only [Act.put, List.setIfInBounds_toArray, List.set_cons_zero, List.set_cons_succ])
          refine Man.take1 (i := 25) (v := ?_) rfl (by kernel_rfl) (by kernel_rfl) (by kernel_rfl) (fun _ _ _ h => h) (by rfl) ?_ hHeld ?_
          rotate_left
          · (intro u hSu; (try dsimp only at hSu); go_simp; (try with_reducible rfl))
          (try simp only [Act.put, List.setIfInBounds_toArray, List.set_cons_zero, List.set_cons_succ])
          refine Man.take1 (i := 26) (v := ?_) rfl (by kernel_rfl) (by kernel_rfl) (by kernel_rfl) (fun _ _ _ h => h) (by rfl) ?_ hHeld ?_
          rotate_left
          · (intro u hSu; (try dsimp only at hSu); go_simp; (try with_reducible rfl))
          (try simp only [Act.put, List.setIfInBounds_toArray, List.set_cons_zero, List.set_cons_succ])
          refine Man.take0 (i := 27) rfl (by kernel_rfl) (by kernel_rfl) (by kernel_rfl) (fun _ _ _ h => h) (by rfl) hHeld ?_
          (try simp only [Act.put, List.setIfInBounds_toArray, List.set_cons_zero, List.set_cons_succ])
          refine Man.take0 (i := 28) rfl (by kernel_rfl) (by kernel_rfl) (by kernel_rfl) (fun _ _ _ h => h) (by rfl) hHeld ?_
          (try simp only [Act.put, List.setIfInBounds_toArray, List.set_cons_zero, List.set_cons_succ])
          refine Man.take0 (i := 29) rfl (by kernel_rfl) (by kernel_rfl) (by kernel_rfl) (fun _ _ _ h => h) (by rfl) hHeld ?_
          (try simp only [Act.put, List.setIfInBounds_toArray, List.set_cons_zero, List.set_cons_succ])
          refine Man.take0 (i := 30) rfl (by kernel_rfl) (by kernel_rfl) (by kernel_rfl) (fun _ _ _ h => h) (by rfl) hHeld ?_
          (try simp only [Act.put, List.setIfInBounds_toArray, List.set_cons_zero, List.set_cons_succ])
          refine Man.take0 (i := 31) rfl (by kernel_rfl) (by kernel_rfl) (by kernel_rfl) (fun _ _ _ h => h) (by rfl) hHeld ?_
          (try simp only [Act.put, List.setIfInBounds_toArray, List.set_cons_zero, List.set_cons_succ])
          refine Man.take0 (i := 32) rfl (by kernel_rfl) (by kernel_rfl) (by kernel_rfl) (fun _ _ _ h => h) (by rfl) hHeld ?_
          (try simp only [Act.put, List.setIfInBounds_toArray, List.set_cons_zero, List.set_cons_succ])
          refine Man.take0 (i := 33) rfl (by kernel_rfl) (by kernel_rfl) (by kernel_rfl) (fun _ _ _ h => h) (by rfl) hHeld ?_
          (try simp only [Act.put, List.setIfInBounds_toArray, List.set_cons_zero, List.set_cons_succ])
          refine Man.take1 (i := 34) (v := ?_) rfl (by kernel_rfl) (by kernel_rfl) (by kernel_rfl) (fun _ _ _ h => h) (by rfl) ?_ hHeld ?_
          rotate_left
          · (intro u hSu; (try dsimp only at hSu); go_simp; (try with_reducible rfl))
          (try simp only [Act.put, List.setIfInBounds_toArray, List.set_cons_zero, List.set_cons_succ])
          refine Man.take1 (i := 35) (v := ?_) rfl (by kernel_rfl) (by kernel_rfl) (by kernel_rfl) (fun _ _ _ h => h) (by rfl) ?_ hHeld ?_
          rotate_left
          · (intro u hSu; (try dsimp only at hSu); go_simp; (try with_reducible rfl))
          (try simp only [Act.put, List.setIfInBounds_toArray, List.set_cons_zero, List.set_cons_succ])
          refine wpAnyH_done (by kernel_rfl) ?_ _
          go_wp2_with fail
          go_roundw
          case rel => exact ⟨kj, rfl, HKJ2.out, hidm ⟨HWZ.out.keep (HZ.out.kept HBD.out), HNZ.out.keep (HZ.out.kept HBD.out), HZ.out.later HBD.out⟩⟩
          case measure => have := HKJ.out; simp [intOf]; omega
      · obtain rfl : k = 20 := by omega
        have k1 : ¬ (20 : Int) < 20 := by omega
        go_wp2_with fail
        refine (known_any _).mono ?_
        rintro e wk ⟨rfl, hb⟩
        have HB := hidm (HZ.out.bel.trans (hb.mono HZ.out.bel.size))
        clear hb
        go_wp2_with fail
        go_ret
        exact ⟨by trivial, HB.out⟩
theorem law_any (l : List Opv) (v0 : Value) (page : Int) (s : ByteArray) (w : World) (hl : OpsAt l v0 w) (hin : ∀ x ∈ l, x.inn) :
    Calls Tryz.prog 8 #[v0, .int .i64 page, .string s] w fun e w' => e = .returned (.bool true) ∧ Below w.heap.size w w' := by
  by_cases hs : 300 < s.size
  · exact law_long v0 page s w hs
  · by_cases h1 : 1 ≤ page
    · by_cases h2 : page < 20
      · by_cases h3 : s.size ≤ 128
        · exact law_D l v0 page s w hl hin hs ⟨h1, h2, h3⟩
        · exact law_C l v0 page s w hl hin hs ⟨h1, h2, h3⟩
      · exact law_B l v0 page s w hl hin hs ⟨h1, h2⟩
    · exact law_A l v0 page s w hl hin hs h1
theorem laidOut : laidOutB Tryz.prog = true := by kernel_rfl
set_option maxRecDepth 100000 in
theorem contract (H : Type) (enc : TypeId × Value → H) (W : World) (base : Nat) (args : Array Value) (ds gs : List (DataW H)) (before : List MemPlace)
    (hval : ∀ (j : Nat) t v, Tryz.f8.params[j]? = some t → args[j]? = some v → Value.okWide Tryz.prog W .any base t v)
    (hW : DataW.Whole enc Tryz.prog Tryz.f8.params.toList Rows.pagerReadsSpec.vars false W args.toList ds gs before) :
    Calls Tryz.prog 8 args W fun e W' => ∃ v, e = .returned v ∧ Rows.pagerReadsSpec.post enc Tryz.prog Tryz.f8 false true false false W args v W' := by
  have hW' := hW
  obtain ⟨p, q, hA0, hV, rfl, hfz, hnd⟩ := hW
  have hA : DataW.TrodAll enc Tryz.prog W 0 (fun _ => true) true Tryz.f8.params.toList args.toList ds p := hA0
  rw [Tryz.params8] at hA hval
  obtain ⟨v0, vs0, d0, ds0, p0, q0, hargs, rfl, rfl, h0, r0⟩ := trodAll_cons hA
  obtain ⟨v1, vs1, d1, ds1, p1, q1, rfl, rfl, rfl, h1, r1⟩ := trodAll_cons r0
  obtain ⟨v2, vs2, d2, ds2, p2, q2, rfl, rfl, rfl, h2, r2⟩ := trodAll_cons r1
  obtain ⟨rfl, rfl, rfl⟩ := trodAll_nil r2
  obtain rfl : args = #[v0, v1, v2] := by cases args; simp_all
  obtain ⟨rfl, rfl⟩ := trodVars_none hV
  obtain ⟨l, hml, hnl⟩ := open_ops (hval 0 23 v0 rfl rfl) h0
  obtain ⟨page, rfl, hd1, hp1, wpage⟩ := open_int Tryz.underlying3 (hval 1 3 v1 rfl rfl) h1
  have bpage := bounds_i64 wpage
  obtain ⟨s, rfl, hd2, hp2, ws⟩ := open_string Tryz.underlying9 (hval 2 9 v2 rfl rfl) h2
  clear hA0
  simp only [List.append_nil] at hW'
  have hlt : ∀ x ∈ p0 ++ p1 ++ p2, x.block < W.heap.size := fun x hx => hW'.lt x (by simpa using hx)
  have walk := law_any l _ page s W hml hnl
  refine walk.mono fun e W' ⟨he, hg⟩ => ?_
  subst he
  refine ⟨_, rfl, Fr.post_made (pa := p0 ++ (p1 ++ p2)) (pv := []) hW' (fun _ _ _ => trodAll_cons_mk (shut_bool Tryz.underlying4 _) trodAll_mk0) (fun sp hsp => ?_) (fun _ _ => rfl) (by simp) hg (ok_one (by kernel_rfl) rfl (okWide_bool_mk Tryz.underlying4 _))⟩
  have g0 : DataW.Trod enc Tryz.prog W' 0 sp true 23 _ d0 p0 := WideElems.Trod_stays laidOut (by kernel_rfl) (of_decide_eq_true (by kernel_rfl)) h0 (fun x hx => hg.same (hlt x (by simp [hx]))) (fun x hx => hsp x (by simp [hx]))
  have g1 : DataW.Trod enc Tryz.prog W' 0 sp true 3 _ d1 p1 := WideElems.Trod_stays laidOut (by kernel_rfl) (of_decide_eq_true (by kernel_rfl)) h1 (fun x hx => hg.same (hlt x (by simp [hx]))) (fun x hx => hsp x (by simp [hx]))
  have g2 : DataW.Trod enc Tryz.prog W' 0 sp true 9 _ d2 p2 := WideElems.Trod_stays laidOut (by kernel_rfl) (of_decide_eq_true (by kernel_rfl)) h2 (fun x hx => hg.same (hlt x (by simp [hx]))) (fun x hx => hsp x (by simp [hx]))
  have hT := (trodAll_cons_mk g0 (trodAll_cons_mk g1 (trodAll_cons_mk g2 trodAll_mk0)))
  simp only [List.append_nil] at hT
  exact hT
set_option maxRecDepth 100000 in
theorem reads (os : Os) {H : Type} (enc : TypeId × Value → H) : ∃ places, DataW.whole enc Tryz.prog ((World.laidAll Tryz.prog os Rows.pagerReadsRow.laid).forCall (fun _ _ => 0) ⟨#[], #[.slice none 0 0, .int .i64 0, .string ⟨#[]⟩], []⟩).memory Tryz.f8.params.toList Rows.pagerReadsSpec.vars false (#[.slice none 0 0, .int .i64 0, .string ⟨#[]⟩] : Array Value).toList 8 = some ([.nil, .lit (.int .i64 0), .lit (.string [])], [], places) :=
  ⟨[], by kernel_rfl⟩
set_option maxRecDepth 100000 in
theorem lifted (os : Os) (started : os.Started) (H : Type) (enc : TypeId × Value → H) (F : Stop.Interp) :
    ReturnsInHanded {} Tryz.checked os 8 .any ((OpenSpec.ofChange Rows.pagerReadsSpec).preRow enc Tryz.prog Tryz.f8 Rows.pagerReadsRow.domain false Rows.pagerReadsRow.laid) (((OpenSpec.ofChange Rows.pagerReadsSpec).at F).post enc Tryz.prog Tryz.f8 false true false false) := by
  obtain ⟨places, hx⟩ := reads os enc
  refine returnsInHanded_of_row (C := Tryz.checked) (s := OpenSpec.ofChange Rows.pagerReadsSpec) Fr.own started (by kernel_rfl) Tryz.func8
    (Fr.wit (World.laidAll Tryz.prog os Rows.pagerReadsRow.laid) #[.slice none 0 0, .int .i64 0, .string ⟨#[]⟩] (World.laidAll_os _ _ _) (World.shaped_of_ZipB (by kernel_rfl) (by kernel_rfl)) (by kernel_rfl)
      (OpenSpec.preRow_of_cond 8 hx (by kernel_rfl) (fun k hk => by cases hk) (by kernel_rfl) (laidMet_laidAll _ (by kernel_rfl) (by kernel_rfl)))) ?_
  intro W base args ds gs before hval hW _ _ _ _ _ _
  exact contract H enc W base args ds gs before hval hW
set_option maxRecDepth 100000 in
theorem said : Rows.PagerReadsSaid :=
  OpenClaim.holds_of_cond 8 Tryz.f8 rfl rfl rfl rfl rfl rfl rfl ⟨rfl, rfl, rfl, rfl, rfl⟩ rfl rfl rfl rfl rfl (by kernel_rfl) Tryz.func8 (by kernel_rfl)
    (of_decide_eq_true (by kernel_rfl)) (by unfold Func.isWrapper; first | (rw [if_pos (by decide +kernel)]; kernel_rfl) | (rw [if_neg (by decide +kernel)]; exact ⟨rfl, rfl⟩))
    (fun os started H enc _ F => by rw [OpenClaim.pre_eq_preRow]; exact lifted os started H enc F)
set_option maxRecDepth 100000 in
theorem plain (f : FuncId) (fn : Func) (hf : Tryz.pinned.checked.prog.funcNamed "memoir/memoirlaw09.PagerReads" = some f) (hfn : Tryz.pinned.checked.prog.funcs[f]? = some fn) :
    true = Tryz.pinned.checked.prog.looks [] ∧ ∀ (j : Nat) t, fn.params[j]? = some t → Tryz.pinned.checked.prog.wantsStandIn t = false := by
  obtain rfl : f = 8 := Option.some.inj ((show Tryz.prog.funcNamed "memoir/memoirlaw09.PagerReads" = some 8 by kernel_rfl).symm.trans hf) |>.symm
  obtain rfl : fn = Tryz.f8 := (Option.some.inj (Tryz.func8.symm.trans hfn)).symm
  refine ⟨by kernel_rfl, fun j t ht => ?_⟩
  rw [Tryz.params8] at ht
  have hm := Array.mem_of_getElem? ht
  simp only [List.mem_toArray, List.mem_cons, List.not_mem_nil, or_false] at hm
  rcases hm with rfl | rfl | rfl
  all_goals first | exact (show Tryz.prog.wantsStandIn 3 = false by kernel_rfl) | exact (show Tryz.prog.wantsStandIn 23 = false by kernel_rfl) | exact (show Tryz.prog.wantsStandIn 9 = false by kernel_rfl)
set_option maxRecDepth 100000 in
theorem card : Rows.PagerReadsCardSaid :=
  Claim7.holds_tied_plain_at .later [] _ _ _ _ said (fun _ h => by cases h) (by kernel_rfl) (fun _ h => by cases h) pagerReads_row_tie rfl ⟨rfl, rfl⟩ (by kernel_rfl) rfl plain (by kernel_rfl)
end LaPagerReads
end Go.Proofs.YtkgbemkcnahkoaaGreatDoor
