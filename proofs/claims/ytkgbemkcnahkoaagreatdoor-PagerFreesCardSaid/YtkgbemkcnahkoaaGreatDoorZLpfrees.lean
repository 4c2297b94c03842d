/- PagerFrees is proved: for every number and script the law returns true and its arguments read as they did. No other condition. -/
import Derived.Test.YtkgbemkcnahkoaaGreatDoorZPfr
import Derived.Test.YtkgbemkcnahkoaaGreatDoorZMan
import Derived.Test.YtkgbemkcnahkoaaGreatDoorZFrdto
import Derived.Deep.DeepCutAuto
import Derived.Deep.CutBlock
import Derived.WideKeyPair
import Derived.SizedLaws
namespace Go.Proofs.YtkgbemkcnahkoaaGreatDoor
open Go.ChangeShapes Go.WideShapes Go.ChangeAt Go.RowKit
open Go.ChangeMaps (open_string shut_string)
namespace LaPagerFrees
open Pgr
open Dsk (PD Mine KeepQ DiskIs Only Grow upd pad BoolsAt NotGiven zeros open_ops open_bools OpsAt Opv)
open Crc (S S_of S_size)
theorem tmod_nat (a b : Nat) : ((a : Int).tmod (b : Int)) = ((a % b : Nat) : Int) := by
  rw [Int.tmod_eq_emod_of_nonneg (by omega)]; omega
theorem pad_nil : pad (⟨#[]⟩ : ByteArray).data.toList = zeros := by
  unfold pad; simp [zeros]
theorem freeN_true {m : List UInt8} {j : Nat} (h : useB m j = true) : freeN m (j + 1) = freeN m j := by simp [freeN, h]
theorem freeN_false {m : List UInt8} {j : Nat} (h : useB m j = false) : freeN m (j + 1) = freeN m j + 1 := by simp [freeN, h]
/-- What holds at the head of each round. -/
def Head (w : World) (P L D many B : Nat) (m : List UInt8) (ks : List Bool) (wr : World) : Prop := Frs w P L D many B m ks wr ∧ UsedIs ks m ∧ ks.length = many
theorem Head.len {w wr : World} {P L D many B : Nat} {m : List UInt8} {ks : List Bool} (h : Head w P L D many B m ks wr) : ks.length = many := h.2.2
theorem Head.frs {w wr : World} {P L D many B : Nat} {m : List UInt8} {ks : List Bool} (h : Head w P L D many B m ks wr) : Frs w P L D many B m ks wr := h.1
theorem Head.use {w wr : World} {P L D many B : Nat} {m : List UInt8} {ks : List Bool} (h : Head w P L D many B m ks wr) : UsedIs ks m := h.2.1
set_option maxHeartbeats 16000000 in
set_option maxRecDepth 100000 in
theorem law_any (n : Nat) (bs : List Nat) (v1 : Value) (w : World) (hn : (n : Int) ≤ 255) (hb : BytesA bs v1 w) :
    Calls Tryz.prog 6 #[.int .u8 (n : Int), v1] w fun e w' => e = .returned (.bool true) ∧ Below w.heap.size w w' := by
  obtain ⟨r, hr⟩ : ∃ r, r = n % 40 := ⟨_, rfl⟩
  have HRN := hidm hr
  have f40 : ((n : Int).tmod 40) = (r : Int) := by rw [hr]; exact tmod_nat n 40
  obtain ⟨many, hm⟩ : ∃ m, m = 2 + r := ⟨_, rfl⟩
  have hm9 : 2 ≤ many ∧ many ≤ 41 := by omega
  have fm : 2 + (r : Int) = (many : Int) := by omega
  have fmw : IntKind.i64.wrap (many : Int) = (many : Int) := by simp only [IntKind.wrap_i64]; omega
  obtain ⟨tot, ht⟩ : ∃ t, t = 2 + 8 + many := ⟨_, rfl⟩
  have ft : 10 + (many : Int) = (tot : Int) := by omega
  have ftw : IntKind.i64.wrap (tot : Int) = (tot : Int) := by simp only [IntKind.wrap_i64]; omega
  have N0 := hidm (Dsk.m_new (W := w) (w := w) tot (by omega) (by omega) (Below.refl _ _))
  have HT := hidm ht
  have hn8 : (n : Int) ≤ 255 := hn
  have HM9 := hidm hm9
  have hm2 : 2 ≤ many := hm9.1
  have hm41 : many ≤ 41 := hm9.2
  obtain ⟨ao, cap, rfl, hcap, hcm, hlt, hcell⟩ := hb
  have HBL := hidm hlt
  have HBC := hidm hcell
  obtain ⟨bl, hbl⟩ : ∃ l, l = bs.length := ⟨_, rfl⟩
  have HLB := hidm hbl
  rw [← hbl]
  have hbl9 : bl ≤ 9223372036854775807 := by omega
  clear hr hm ht hm9 hn hlt hcell hbl hcap hcm
  have HR := hidm f40
  have FM := hidm (show 2 + (r : Int) = (many : Int) ∧ IntKind.i64.wrap (many : Int) = (many : Int) ∧ 10 + (many : Int) = (tot : Int) ∧ IntKind.i64.wrap (tot : Int) = (tot : Int) from ⟨fm, fmw, ft, ftw⟩)
  have N1 := hidm (show Calls Tryz.prog 10 #[.int .i64 (10 + (many : Int))] w _ from by rw [ft]; exact N0.out)
  clear fm fmw ft ftw f40 N0
  go_enter Tryz.func6, Tryz.ntmps6
  go_upto_region 1 with fail
  go_cut [5] (fun s5 wx => s5 = .int .i64 (many : Int) ∧ wx = w)
  case first =>
    go_wp2_with fail
    go_meet
    refine ⟨?_, rfl⟩
    congr 1
    have h1 := HRN.out
    have h2 := FM.out.1
    omega
  case rest =>
  obtain ⟨rfl, hwc⟩ := hcut
  have hwc2 := hwc.symm
  subst hwc2
  go_wp2_with fail
  refine N1.out.mono ?_
  rintro e w1 ⟨rfl, hm1, hb1⟩
  have R1 := hidm (Re.new (n := 8) (N := many) (by omega) (by rw [← HT.out]; exact hm1))
  obtain ⟨D, hD⟩ : ∃ D, D = w.heap.size + 1 := ⟨_, rfl⟩
  rw [← hD] at R1 ⊢
  clear hD hm1 hb1 N1
  go_wp2_with fail
  refine (R1.out.open (by omega) (by omega) (by omega) 10 rfl).mono ?_
  rintro e w2 ⟨P, L, rfl, h2, _⟩
  have H2 := hidm (show Lv w (fun _ => False) P L D 8 many 2000 true [] (fun _ => zeros) w2 from h2.more (by omega))
  clear h2 R1
  go_upto_region 8 with fail
  have mk0 := mkBools many (by omega) w2
  go_upto_region 9 with fail
  clear mk0
  obtain ⟨w3, hw3⟩ : ∃ w3, w3 = w2.alloc (.cells (madeCells #[.bool false] many) 4) := ⟨_, rfl⟩
  have f3 := Frs.new H2.out
  rw [← hw3] at f3 ⊢
  obtain ⟨B, hB⟩ : ∃ B, B = w2.heap.size := ⟨_, rfl⟩
  rw [← hB] at f3 ⊢
  have c0 : w3.cell? ⟨B, 0, none⟩ = some (.bool false) := by
    rw [f3.row.at 0 (by simp; omega)]; simp
  have z0 := frozen_of_row w3 B 0 _ _ f3.row
  have F3 := hidm f3
  clear f3 hw3 hB H2
  have hm0 : (0 : Int) < (many : Int) := by omega
  go_upto_block 0 with fail
  obtain ⟨w4, hw4⟩ : ∃ w4, w4 = w3.setCell ⟨B, 0, none⟩ (.bool true) := ⟨_, rfl⟩
  have F4 := hidm (show Head w P L D many B zeros ((List.replicate many false).set 0 true) w4 from by
    rw [hw4]
    exact ⟨F3.out.set 0 true, UsedIs.zero, by simp⟩)
  rw [← hw4]
  clear hw4 F3 c0 hm0 z0
  go_wp2_with fail
  go_loopw [11] (fun ii wr => ∃ (i : Nat) (m : List UInt8) (ks : List Bool), ii = .int .i64 i ∧ i ≤ bl ∧ i ≤ 80 ∧ Hid (Head w P L D many B m ks wr)) (fun ii _ => (bl - (intOf ii).toNat))
  case atStart => exact ⟨0, _, _, rfl, by omega, by omega, F4⟩
  case round =>
    clear F4
    rename World => wr
    obtain ⟨i, m, ks, rfl, hi, hi8, HF⟩ := hrel
    rcases Nat.lt_or_ge i bl with hlt | hge
    · rcases Nat.lt_or_ge i 80 with hlt2 | hge2
      · have g1 : (i : Int) < (bl : Int) := by omega
        have g2 : (i : Int) < 80 := by omega
        have g3 : ¬ (i : Int) < 0 := by omega
        have hil : i < bs.length := by rw [← HLB.out]; exact hlt
        obtain ⟨b', o, rfl, hbw, hbc⟩ := HBC.out (fun e => by rw [e] at hil; cases hil)
        have q0 := hbc i hil
        have hx8 := HBL.out _ (List.getElem_mem hil)
        obtain ⟨x, hx⟩ : ∃ x, x = bs[i] := ⟨_, rfl⟩
        rw [← hx] at q0 hx8
        clear hx
        have HBW := hidm hbw
        have HQ0 := hidm q0
        have c0 := (HF.out.frs.bel.cell (p := ⟨b', o + i, none⟩) hbw).trans q0
        clear hbc q0 hbw hil
        have i1 : (i : Int) + 1 = ((i + 1 : Nat) : Int) := by omega
        obtain ⟨j2, hj2⟩ : ∃ j, j = i + 1 := ⟨_, rfl⟩
        rw [← hj2] at i1
        have i1w : IntKind.i64.wrap (j2 : Int) = (j2 : Int) := by simp only [IntKind.wrap_i64]; omega
        have HJ := hidm hj2
        have HJ2 := hidm (show j2 ≤ bl ∧ j2 ≤ 80 from by omega)
        clear hj2
        obtain ⟨kq, hkq⟩ : ∃ k, k = x % many := ⟨_, rfl⟩
        have fk : ((x : Int).tmod (many : Int)) = (kq : Int) := by rw [hkq]; exact tmod_nat x many
        have HKQ := hidm (show kq < many from by rw [hkq]; exact Nat.mod_lt _ (by omega))
        clear hkq
        have hmne : ((many : Int) == 0) = false := by simp; omega
        have HFK := hidm fk
        clear fk
        go_upto_region 13 with fail
        go_cut [12] (fun s12 wx => s12 = .int .i64 (kq : Int) ∧ wx = wr)
        case first =>
          have fk := HFK.out
          have hk9 : (kq : Int) ≤ 9223372036854775807 := by have := HKQ.out; omega
          have hxw : IntKind.i64.wrap (x : Int) = (x : Int) := by simp only [IntKind.wrap_i64]; omega
          have hkw : IntKind.i64.wrap (kq : Int) = (kq : Int) := by simp only [IntKind.wrap_i64]; omega
          go_wp2_with fail
          go_meet
          first | exact ⟨rfl, rfl⟩ | (refine ⟨?_, rfl⟩; congr 1; simp only [IntKind.wrap_i64]; rw [HFK.out]; have := HKQ.out; omega)
        case rest =>
        obtain ⟨rfl, hwc⟩ := hcut
        subst hwc
        clear HFK hmne
        go_upto_block 2 with fail
        go_cut [13] (fun s13 wx => wx = wc ∧ ∃ l : Nat, s13 = .int .i64 (l : Int) ∧ l ≤ many ∧ Hid ((∀ j (hj : j < ks.length), j < l → ks[j] = true) ∧ (∀ (hj : l < ks.length), ks[l] = false)))
        case first =>
          clear c0
          go_wp2_with fail
          go_loopw [13] (fun s13 wx => wx = wc ∧ ∃ l : Nat, s13 = .int .i64 (l : Int) ∧ l ≤ many ∧ Hid (∀ j (hj : j < ks.length), j < l → ks[j] = true)) (fun s13 _ => (many - (intOf s13).toNat))
          case atStart => exact ⟨rfl, 0, rfl, by omega, hidm (fun j hj h => by omega)⟩
          case round =>
            rename World => wx
            obtain ⟨hwx, l, rfl, hl, HLT⟩ := hrel
            subst hwx
            rcases Nat.lt_or_ge l many with hlm | hlm
            · have l1 : (l : Int) < (many : Int) := by omega
              have l2 : ¬ (l : Int) < 0 := by omega
              have hlk : l < ks.length := by rw [HF.out.len]; exact hlm
              have cl := HF.out.frs.row.at l hlk
              cases hkl : ks[l] with
              | true =>
                rw [hkl] at cl
                have HKL := hidm (show ∀ hj : l < ks.length, ks[l] = true from fun _ => hkl)
                have l3 : (l : Int) + 1 = ((l + 1 : Nat) : Int) := by omega
                obtain ⟨l9, hl9⟩ : ∃ j, j = l + 1 := ⟨_, rfl⟩
                rw [← hl9] at l3
                have l3w : IntKind.i64.wrap (l9 : Int) = (l9 : Int) := by simp only [IntKind.wrap_i64]; omega
                have HL9 := hidm hl9
                have HL92 := hidm (show l9 ≤ many from by omega)
                clear hl9 hkl hlk
                go_wp2_with fail
                go_roundw
                case rel => exact ⟨by trivial, l9, rfl, HL92.out, hidm (fun j hj h => by
                  have := HL9.out
                  rcases Nat.lt_or_ge j l with h2 | h2
                  · exact HLT.out j hj h2
                  · obtain rfl : j = l := by omega
                    exact HKL.out hj)⟩
                case measure => have := HL9.out; simp [intOf]; omega
              | false =>
                rw [hkl] at cl
                have HKL := hidm (show ∀ hj : l < ks.length, ks[l] = false from fun _ => hkl)
                clear hkl hlk
                go_wp2_with fail
                go_meet
                exact ⟨rfl, l, rfl, hl, hidm ⟨HLT.out, fun hj => HKL.out hj⟩⟩
            · obtain rfl : l = many := by omega
              have l1 : ¬ (l : Int) < (l : Int) := by omega
              go_wp2_with fail
              go_meet
              exact ⟨rfl, l, rfl, hl, hidm ⟨HLT.out, fun hj => by rw [HF.out.len] at hj; omega⟩⟩
        case rest =>
        obtain ⟨hwc, l, rfl, hl, HLT⟩ := hcut
        subst hwc
        go_upto_if 83 with fail
        go_cut [11] (fun s11 wx => s11 = .int .i64 (i : Int) ∧ ∃ (m2 : List UInt8) (ks2 : List Bool), Hid (Head w P L D many B m2 ks2 wx))
        case first =>
          clear c0
          rename_i wf
          by_cases hx1 : x < 128
          · have x1 : (x : Int) < 128 := by omega
            go_wp2_with fail
            refine HF.out.frs.alloc.mono ?_
            rintro e w5 (⟨g, a1, a2, a3, a4, rfl, f5, z5⟩ | ⟨b1, rfl, f5⟩)
            · have hlg : l = g := least_is HF.out.use HF.out.len a1 a3 a4 hl HLT.out.1 HLT.out.2
              subst hlg
              have Z5 := hidm z5
              have G0 := hidm a2
              have e1 : (l : Int) < (many : Int) := by omega
              have e2 : ¬ (l : Int) < 0 := by omega
              have e3 : ((l : Int) != (l : Int)) = false := by simp
              have e4 : ((0 : Int) == 0) = true := by simp
              clear z5 f5 a2 a3 a4
              go_wp2_with fail
              refine Z5.out.mono ?_
              rintro e w6 ⟨rfl, f6⟩
              have F6 := hidm f6
              clear f6 Z5
              go_wp2_with fail
              refine (Dsk.rpad_any ⟨#[]⟩ (by decide) _).mono ?_
              rintro e w7 ⟨rfl, hb7⟩
              rw [pad_nil]
              have f7 := F6.out.later hb7
              have F7 := hidm f7
              clear hb7 F6
              have c7 := f7.row.at l (by rw [HF.out.len]; exact a1)
              have z7 := frozen_of_row w7 B l _ _ f7.row
              clear f7
              go_upto_region 24 with fail
              obtain ⟨w8, hw8⟩ : ∃ w8, w8 = w7.setCell ⟨B, l, none⟩ (.bool true) := ⟨_, rfl⟩
              have F8 := hidm (show Head w P L D many B (takeB m l) (ks.set l true) w8 from by
                rw [hw8]
                exact ⟨F7.out.set l true, HF.out.use.take HF.out.frs.ok.2.2 (by omega), by rw [List.length_set]; exact HF.out.len⟩)
              rw [← hw8]
              clear hw8 F7 c7 z7
              go_wp2_with fail
              refine (F8.out.frs.write l ⟨#[120]⟩ (by decide) a1 G0.out).mono ?_
              rintro e w9 ⟨rfl, f9⟩
              have F9 := hidm (show Head w P L D many B (takeB m l) (ks.set l true) w9 from ⟨f9, F8.out.use, F8.out.len⟩)
              clear f9 F8
              go_wp2_with fail
              go_meet
              exact ⟨rfl, _, _, F9⟩
            · have hlg : l = many := least_all HF.out.use HF.out.len b1 hl HLT.out.2
              have F5 := hidm (show Head w P L D many B m ks w5 from ⟨f5, HF.out.use, HF.out.len⟩)
              have e1 : ¬ (l : Int) < (many : Int) := by omega
              clear f5 b1 hlg
              go_wp2_with fail
              refine (F5.out.frs.read 0 (by omega)).mono ?_
              rintro e w6 ⟨s, rfl, f6⟩
              have F6 := hidm (show Head w P L D many B m ks w6 from ⟨f6, HF.out.use, HF.out.len⟩)
              clear f6 F5
              go_wp2_with fail
              go_meet
              exact ⟨rfl, _, _, F6⟩
          · have x1 : ¬ (x : Int) < 128 := by omega
            go_wp2_with fail
            refine (HF.out.frs.free kq HKQ.out).mono ?_
            rintro e w5 (⟨a2, a3, rfl, f5⟩ | ⟨c, hc, rfl, f5⟩)
            · have e1 : ((kq : Int) == 0) = false := by simp; omega
              have e2 : ¬ (kq : Int) < 0 := by omega
              have e3 : (kq : Int) < (many : Int) := by have := HKQ.out; omega
              have hkk : kq < ks.length := by rw [HF.out.len]; exact HKQ.out
              have c5 := f5.row.at kq hkk
              rw [HF.out.use kq hkk, a3] at c5
              have z5 := frozen_of_row w5 B kq _ _ f5.row
              have F5 := hidm f5
              have A2 := hidm a2
              clear f5 a2 a3 hkk
              go_wp2_with fail
              go_meet
              refine ⟨rfl, giveB m kq, ks.set kq false, hidm ⟨F5.out.set kq false, HF.out.use.give HF.out.frs.ok.2.2 (by have := HKQ.out; omega) A2.out, by rw [List.length_set]; exact HF.out.len⟩⟩
            · have e1 : (c == 0) = false := by simpa using hc
              have F5 := hidm (show Head w P L D many B m ks w5 from ⟨f5, HF.out.use, HF.out.len⟩)
              clear f5 hc
              go_wp2_with fail
              go_meet
              exact ⟨rfl, _, _, F5⟩
        case rest =>
        obtain ⟨rfl, m2, ks2, HL0⟩ := hcut
        clear c0 HF HLT
        go_wp2_with fail
        go_loopw [18, 19] (fun s18 s19 wx => ∃ (j f : Nat), s19 = .int .i64 (j : Int) ∧ s18 = .int .i64 (f : Int) ∧ j ≤ many ∧ f ≤ j ∧ Hid (f = freeN m2 j ∧ Head w P L D many B m2 ks2 wx)) (fun _ s19 _ => (many - (intOf s19).toNat))
        case atStart => exact ⟨0, 0, rfl, rfl, by omega, by omega, hidm ⟨rfl, HL0.out⟩⟩
        case round =>
          clear HL0
          rename World => wy
          obtain ⟨j, f, rfl, rfl, hj, hfj, HALL⟩ := hrel
          have HL9 := hidm HALL.out.2
          have HFJ := hidm HALL.out.1
          clear HALL
          rcases Nat.lt_or_ge j many with hjm | hjm
          · have y1 : (j : Int) < (many : Int) := by omega
            have y2 : ¬ (j : Int) < 0 := by omega
            have HJM := hidm hjm
            have hjk : j < ks2.length := by rw [HL9.out.len]; exact hjm
            have cj := HL9.out.frs.row.at j hjk
            have huj := HL9.out.use j hjk
            have y3 : (j : Int) + 1 = ((j + 1 : Nat) : Int) := by omega
            obtain ⟨j9, hj9⟩ : ∃ j9, j9 = j + 1 := ⟨_, rfl⟩
            rw [← hj9] at y3
            have y3w : IntKind.i64.wrap (j9 : Int) = (j9 : Int) := by simp only [IntKind.wrap_i64]; omega
            have HJ9 := hidm hj9
            have HJ92 := hidm (show j9 ≤ many from by omega)
            clear hj9
            have y4 : (f : Int) + 1 = ((f + 1 : Nat) : Int) := by omega
            obtain ⟨f9, hf9⟩ : ∃ f9, f9 = f + 1 := ⟨_, rfl⟩
            rw [← hf9] at y4
            have y4w : IntKind.i64.wrap (f9 : Int) = (f9 : Int) := by simp only [IntKind.wrap_i64]; omega
            have HF9 := hidm hf9
            have HF92 := hidm hfj
            clear hf9 hfj
            cases hkj : ks2[j] with
            | true =>
              rw [hkj] at cj huj
              have HUJ := hidm huj.symm
              have HKJ := hidm (show ∀ hj : j < ks2.length, ks2[j] = true from fun _ => hkj)
              clear hkj huj hjk
              go_upto_region 35 with fail
              have HBD := hidm ((Below.refl wy.heap.size wy).drew)
              have HFd := hidm (HL9.out.frs.later HBD.out)
              have cjd := HFd.out.row.at j (by rw [HL9.out.len]; exact HJM.out)
              rw [HKJ.out (by rw [HL9.out.len]; exact HJM.out)] at cjd
              clear cj
              refine wp_region_held_drew (S := fun u => u.cell? ⟨B, j, none⟩ = some (.bool true)) (by kernel_rfl) cjd (fun hHeld => ?_)
              clear cjd
              refine Man.take1 (i := 0) (v := ?_) rfl (by kernel_rfl) (by kernel_rfl) (by kernel_rfl) (fun _ _ _ h => h) (by rfl) ?_ hHeld ?_
              rotate_left
              · (intro u hSu; (try dsimp only at hSu); go_simp; (try with_reducible rfl))
              (try simp only [Act.put, List.setIfInBounds_toArray, List.set_cons_zero, List.set_cons_succ])
              refine Man.take1 (i := 1) (v := ?_) rfl (by kernel_rfl) (by kernel_rfl) (by kernel_rfl) (fun _ _ _ h => h) (by rfl) ?_ hHeld ?_
              rotate_left
              · (intro u hSu; (try dsimp only at hSu); go_simp; (try with_reducible rfl))
              (try simp only [Act.put, List.setIfInBounds_toArray, List.set_cons_zero, List.set_cons_succ])
              refine Man.take1 (i := 3) (v := ?_) rfl (by kernel_rfl) (by kernel_rfl) (by kernel_rfl) (fun _ _ _ h => h) (by rfl) ?_ hHeld ?_
              rotate_left
              · (intro u hSu; (try dsimp only at hSu); go_simp; (try with_reducible rfl))
              (try simp only [Act.put, List.setIfInBounds_toArray, List.set_cons_zero, List.set_cons_succ])
              refine Man.take1 (i := 4) (v := ?_) rfl (by kernel_rfl) (by kernel_rfl) (by kernel_rfl) (fun _ _ _ h => h) (by rfl) ?_ hHeld ?_
              rotate_left
              · (intro u hSu; (try dsimp only at hSu); go_simp; (try with_reducible rfl))
              (try simp only [Act.put, List.setIfInBounds_toArray, List.set_cons_zero, List.set_cons_succ])
              refine Man.take1 (i := 5) (v := ?_) rfl (by kernel_rfl) (by kernel_rfl) (by kernel_rfl) (fun _ _ _ h => h) (by rfl) ?_ hHeld ?_
              rotate_left
              · (intro u hSu; (try dsimp only at hSu); go_simp; (try with_reducible rfl))
              (try simp only [Act.put, List.setIfInBounds_toArray, List.set_cons_zero, List.set_cons_succ])
              refine Man.take1 (i := 6) (v := ?_) rfl (by kernel_rfl) (by kernel_rfl) (by kernel_rfl) (fun _ _ _ h => h) (by rfl) ?_ hHeld ?_
              rotate_left
              · (intro u hSu; (try dsimp only at hSu); go_simp; (try with_reducible rfl))
              (try simp only [Act.put, List.setIfInBounds_toArray, List.set_cons_zero, List.set_cons_succ])
              refine Man.one (i := 2) rfl (by kernel_rfl) (fun K hK => ?_)
              go_simp
              refine (HFd.out.isfree j (by have := HJM.out; omega)).mono ?_
              rintro e w6 ⟨rfl, f6⟩
              rw [HUJ.out]
              have HF6 := hidm f6
              have hHeld2 := f6.row.at j (by have := HL9.out.len; have := HJM.out; omega)
              rw [HKJ.out (by have := HL9.out.len; have := HJM.out; omega)] at hHeld2
              clear f6
              refine hK.out _ _ hHeld2 (fun hNew => ?_)
              clear hK K hHeld hHeld2
              have hHeld := hNew
              clear hNew
              (try simp only [Act.put, List.setIfInBounds_toArray, List.set_cons_zero, List.set_cons_succ])
              refine Man.take1 (i := 7) (v := ?_) rfl (by kernel_rfl) (by kernel_rfl) (by kernel_rfl) (fun _ _ _ h => h) (by rfl) ?_ hHeld ?_
              rotate_left
              · (intro u hSu; (try dsimp only at hSu); go_simp; (try with_reducible rfl))
              (try simp only [Act.put, List.setIfInBounds_toArray, List.set_cons_zero, List.set_cons_succ])
              refine wpAnyH_done (by kernel_rfl) ?_ _
              go_wp2_with fail
              go_roundw
              case rel => exact ⟨j9, f, rfl, rfl, HJ92.out, by have := HJ9.out; have := HF92.out; omega, hidm ⟨by rw [HJ9.out, freeN_true HUJ.out]; exact HFJ.out, ⟨HF6.out, HL9.out.use, HL9.out.len⟩⟩⟩
              case measure => have := HJ9.out; simp [intOf]; omega
            | false =>
              rw [hkj] at cj huj
              have HUJ := hidm huj.symm
              have HKJ := hidm (show ∀ hj : j < ks2.length, ks2[j] = false from fun _ => hkj)
              clear hkj huj hjk
              go_upto_region 35 with fail
              have HBD := hidm ((Below.refl wy.heap.size wy).drew)
              have HFd := hidm (HL9.out.frs.later HBD.out)
              have cjd := HFd.out.row.at j (by rw [HL9.out.len]; exact HJM.out)
              rw [HKJ.out (by rw [HL9.out.len]; exact HJM.out)] at cjd
              clear cj
              refine wp_region_held_drew (S := fun u => u.cell? ⟨B, j, none⟩ = some (.bool false)) (by kernel_rfl) cjd (fun hHeld => ?_)
              clear cjd
              refine Man.take1 (i := 0) (v := ?_) rfl (by kernel_rfl) (by kernel_rfl) (by kernel_rfl) (fun _ _ _ h => h) (by rfl) ?_ hHeld ?_
              rotate_left
              · (intro u hSu; (try dsimp only at hSu); go_simp; (try with_reducible rfl))
              (try simp only [Act.put, List.setIfInBounds_toArray, List.set_cons_zero, List.set_cons_succ])
              refine Man.take1 (i := 1) (v := ?_) rfl (by kernel_rfl) (by kernel_rfl) (by kernel_rfl) (fun _ _ _ h => h) (by rfl) ?_ hHeld ?_
              rotate_left
              · (intro u hSu; (try dsimp only at hSu); go_simp; (try with_reducible rfl))
              (try simp only [Act.put, List.setIfInBounds_toArray, List.set_cons_zero, List.set_cons_succ])
              refine Man.take1 (i := 3) (v := ?_) rfl (by kernel_rfl) (by kernel_rfl) (by kernel_rfl) (fun _ _ _ h => h) (by rfl) ?_ hHeld ?_
              rotate_left
              · (intro u hSu; (try dsimp only at hSu); go_simp; (try with_reducible rfl))
              (try simp only [Act.put, List.setIfInBounds_toArray, List.set_cons_zero, List.set_cons_succ])
              refine Man.take1 (i := 4) (v := ?_) rfl (by kernel_rfl) (by kernel_rfl) (by kernel_rfl) (fun _ _ _ h => h) (by rfl) ?_ hHeld ?_
              rotate_left
              · (intro u hSu; (try dsimp only at hSu); go_simp; (try with_reducible rfl))
              (try simp only [Act.put, List.setIfInBounds_toArray, List.set_cons_zero, List.set_cons_succ])
              refine Man.take1 (i := 5) (v := ?_) rfl (by kernel_rfl) (by kernel_rfl) (by kernel_rfl) (fun _ _ _ h => h) (by rfl) ?_ hHeld ?_
              rotate_left
              · (intro u hSu; (try dsimp only at hSu); go_simp; (try with_reducible rfl))
              (try simp only [Act.put, List.setIfInBounds_toArray, List.set_cons_zero, List.set_cons_succ])
              refine Man.take1 (i := 6) (v := ?_) rfl (by kernel_rfl) (by kernel_rfl) (by kernel_rfl) (fun _ _ _ h => h) (by rfl) ?_ hHeld ?_
              rotate_left
              · (intro u hSu; (try dsimp only at hSu); go_simp; (try with_reducible rfl))
              (try simp only [Act.put, List.setIfInBounds_toArray, List.set_cons_zero, List.set_cons_succ])
              refine Man.one (i := 2) rfl (by kernel_rfl) (fun K hK => ?_)
              go_simp
              refine (HFd.out.isfree j (by have := HJM.out; omega)).mono ?_
              rintro e w6 ⟨rfl, f6⟩
              rw [HUJ.out]
              have HF6 := hidm f6
              have hHeld2 := f6.row.at j (by have := HL9.out.len; have := HJM.out; omega)
              rw [HKJ.out (by have := HL9.out.len; have := HJM.out; omega)] at hHeld2
              clear f6
              refine hK.out _ _ hHeld2 (fun hNew => ?_)
              clear hK K hHeld hHeld2
              have hHeld := hNew
              clear hNew
              (try simp only [Act.put, List.setIfInBounds_toArray, List.set_cons_zero, List.set_cons_succ])
              refine Man.take1 (i := 7) (v := ?_) rfl (by kernel_rfl) (by kernel_rfl) (by kernel_rfl) (fun _ _ _ h => h) (by rfl) ?_ hHeld ?_
              rotate_left
              · (intro u hSu; (try dsimp only at hSu); go_simp; (try with_reducible rfl))
              (try simp only [Act.put, List.setIfInBounds_toArray, List.set_cons_zero, List.set_cons_succ])
              refine wpAnyH_done (by kernel_rfl) ?_ _
              go_wp2_with fail
              go_roundw
              case rel => exact ⟨j9, f9, rfl, rfl, HJ92.out, by have := HJ9.out; have := HF92.out; have := HF9.out; omega, hidm ⟨by rw [HJ9.out, freeN_false HUJ.out, HF9.out, HFJ.out], ⟨HF6.out, HL9.out.use, HL9.out.len⟩⟩⟩
              case measure => have := HJ9.out; simp [intOf]; omega
          · obtain rfl : j = many := by omega
            have y1 : ¬ (j : Int) < (j : Int) := by omega
            go_wp2_with fail
            refine HL9.out.frs.frees.mono ?_
            rintro e w5 ⟨rfl, f5⟩
            rw [← HFJ.out]
            have F5 := hidm (show Head w P L D j B m2 ks2 w5 from ⟨f5, HL9.out.use, HL9.out.len⟩)
            clear f5 HL9 HFJ
            go_wp2_with fail
            go_roundw
            case rel => exact ⟨j2, m2, ks2, rfl, HJ2.out.1, HJ2.out.2, F5⟩
            case measure => have := HJ.out; simp [intOf]; omega
      · obtain rfl : i = 80 := by omega
        have HB2 := hidm HF.out.frs
        have g1 : (80 : Int) < (bl : Int) := by omega
        go_wp2_with fail
        refine (known_any _).mono ?_
        rintro e wk ⟨rfl, hb⟩
        have HB := hidm (HB2.out.bel.trans (hb.mono HB2.out.bel.size))
        clear hb
        go_wp2_with fail
        go_ret
        exact ⟨by trivial, HB.out⟩
    · obtain rfl : i = bl := by omega
      have HB2 := hidm HF.out.frs
      have g1 : ¬ (i : Int) < (i : Int) := by omega
      go_wp2_with fail
      refine (known_any _).mono ?_
      rintro e wk ⟨rfl, hb⟩
      have HB := hidm (HB2.out.bel.trans (hb.mono HB2.out.bel.size))
      clear hb
      go_wp2_with fail
      go_ret
      exact ⟨by trivial, HB.out⟩
theorem laidOut : laidOutB Tryz.prog = true := by kernel_rfl
set_option maxRecDepth 100000 in
theorem contract (H : Type) (enc : TypeId × Value → H) (W : World) (base : Nat) (args : Array Value) (ds gs : List (DataW H)) (before : List MemPlace)
    (hval : ∀ (j : Nat) t v, Tryz.f6.params[j]? = some t → args[j]? = some v → Value.okWide Tryz.prog W .any base t v)
    (hW : DataW.Whole enc Tryz.prog Tryz.f6.params.toList Rows.pagerFreesSpec.vars false W args.toList ds gs before) :
    Calls Tryz.prog 6 args W fun e W' => ∃ v, e = .returned v ∧ Rows.pagerFreesSpec.post enc Tryz.prog Tryz.f6 false true false false W args v W' := by
  have hW' := hW
  obtain ⟨p, q, hA0, hV, rfl, hfz, hnd⟩ := hW
  have hA : DataW.TrodAll enc Tryz.prog W 0 (fun _ => true) true Tryz.f6.params.toList args.toList ds p := hA0
  rw [Tryz.params6] at hA hval
  obtain ⟨v0, vs0, d0, ds0, p0, q0, hargs, rfl, rfl, h0, r0⟩ := trodAll_cons hA
  obtain ⟨v1, vs1, d1, ds1, p1, q1, rfl, rfl, rfl, h1, r1⟩ := trodAll_cons r0
  obtain ⟨rfl, rfl, rfl⟩ := trodAll_nil r1
  obtain rfl : args = #[v0, v1] := by cases args; simp_all
  obtain ⟨rfl, rfl⟩ := trodVars_none hV
  obtain ⟨n, rfl, hd0, hp0, wn⟩ := open_int Tryz.underlying5 (hval 0 5 v0 rfl rfl) h0
  have bn := bounds_u8 wn
  obtain ⟨n, rfl⟩ := Int.eq_ofNat_of_zero_le bn.1
  obtain ⟨x1, hmx1⟩ := Dsk.open_u8s (hval 1 64 v1 rfl rfl) h1
  clear hA0
  simp only [List.append_nil] at hW'
  have hlt : ∀ x ∈ p0 ++ p1, x.block < W.heap.size := fun x hx => hW'.lt x (by simpa using hx)
  have walk := law_any n _ _ W (by omega) hmx1
  refine walk.mono fun e W' ⟨he, hg⟩ => ?_
  subst he
  refine ⟨_, rfl, Fr.post_made (pa := p0 ++ p1) (pv := []) hW' (fun _ _ _ => trodAll_cons_mk (shut_bool Tryz.underlying4 _) trodAll_mk0) (fun sp hsp => ?_) (fun _ _ => rfl) (by simp) hg (ok_one (by kernel_rfl) rfl (okWide_bool_mk Tryz.underlying4 _))⟩
  have g0 : DataW.Trod enc Tryz.prog W' 0 sp true 5 _ d0 p0 := WideElems.Trod_stays laidOut (by kernel_rfl) (of_decide_eq_true (by kernel_rfl)) h0 (fun x hx => hg.same (hlt x (by simp [hx]))) (fun x hx => hsp x (by simp [hx]))
  have g1 : DataW.Trod enc Tryz.prog W' 0 sp true 64 _ d1 p1 := WideElems.Trod_stays laidOut (by kernel_rfl) (of_decide_eq_true (by kernel_rfl)) h1 (fun x hx => hg.same (hlt x (by simp [hx]))) (fun x hx => hsp x (by simp [hx]))
  have hT := (trodAll_cons_mk g0 (trodAll_cons_mk g1 trodAll_mk0))
  simp only [List.append_nil] at hT
  exact hT
set_option maxRecDepth 100000 in
theorem reads (os : Os) {H : Type} (enc : TypeId × Value → H) : ∃ places, DataW.whole enc Tryz.prog ((World.laidAll Tryz.prog os Rows.pagerFreesRow.laid).forCall (fun _ _ => 0) ⟨#[], #[.int .u8 0, .slice none 0 0], []⟩).memory Tryz.f6.params.toList Rows.pagerFreesSpec.vars false (#[.int .u8 0, .slice none 0 0] : Array Value).toList 8 = some ([.lit (.int .u8 0), .nil], [], places) :=
  ⟨[], by kernel_rfl⟩
set_option maxRecDepth 100000 in
theorem lifted (os : Os) (started : os.Started) (H : Type) (enc : TypeId × Value → H) (F : Stop.Interp) :
    ReturnsInHanded {} Tryz.checked os 6 .any ((OpenSpec.ofChange Rows.pagerFreesSpec).preRow enc Tryz.prog Tryz.f6 Rows.pagerFreesRow.domain false Rows.pagerFreesRow.laid) (((OpenSpec.ofChange Rows.pagerFreesSpec).at F).post enc Tryz.prog Tryz.f6 false true false false) := by
  obtain ⟨places, hx⟩ := reads os enc
  refine returnsInHanded_of_row (C := Tryz.checked) (s := OpenSpec.ofChange Rows.pagerFreesSpec) Fr.own started (by kernel_rfl) Tryz.func6
    (Fr.wit (World.laidAll Tryz.prog os Rows.pagerFreesRow.laid) #[.int .u8 0, .slice none 0 0] (World.laidAll_os _ _ _) (World.shaped_of_ZipB (by kernel_rfl) (by kernel_rfl)) (by kernel_rfl)
      (OpenSpec.preRow_of_cond 8 hx (by kernel_rfl) (fun k hk => by cases hk) (by kernel_rfl) (laidMet_laidAll _ (by kernel_rfl) (by kernel_rfl)))) ?_
  intro W base args ds gs before hval hW _ _ _ _ _ _
  exact contract H enc W base args ds gs before hval hW
set_option maxRecDepth 100000 in
theorem said : Rows.PagerFreesSaid :=
  OpenClaim.holds_of_cond 6 Tryz.f6 rfl rfl rfl rfl rfl rfl rfl ⟨rfl, rfl, rfl, rfl, rfl⟩ rfl rfl rfl rfl rfl (by kernel_rfl) Tryz.func6 (by kernel_rfl)
    (of_decide_eq_true (by kernel_rfl)) (by unfold Func.isWrapper; first | (rw [if_pos (by decide +kernel)]; kernel_rfl) | (rw [if_neg (by decide +kernel)]; exact ⟨rfl, rfl⟩))
    (fun os started H enc _ F => by rw [OpenClaim.pre_eq_preRow]; exact lifted os started H enc F)
set_option maxRecDepth 100000 in
theorem plain (f : FuncId) (fn : Func) (hf : Tryz.pinned.checked.prog.funcNamed "memoir/memoirlaw09.PagerFrees" = some f) (hfn : Tryz.pinned.checked.prog.funcs[f]? = some fn) :
    true = Tryz.pinned.checked.prog.looks [] ∧ ∀ (j : Nat) t, fn.params[j]? = some t → Tryz.pinned.checked.prog.wantsStandIn t = false := by
  obtain rfl : f = 6 := Option.some.inj ((show Tryz.prog.funcNamed "memoir/memoirlaw09.PagerFrees" = some 6 by kernel_rfl).symm.trans hf) |>.symm
  obtain rfl : fn = Tryz.f6 := (Option.some.inj (Tryz.func6.symm.trans hfn)).symm
  refine ⟨by kernel_rfl, fun j t ht => ?_⟩
  rw [Tryz.params6] at ht
  have hm := Array.mem_of_getElem? ht
  simp only [List.mem_toArray, List.mem_cons, List.not_mem_nil, or_false] at hm
  rcases hm with rfl | rfl
  all_goals first | exact (show Tryz.prog.wantsStandIn 5 = false by kernel_rfl) | exact (show Tryz.prog.wantsStandIn 64 = false by kernel_rfl)
set_option maxRecDepth 100000 in
theorem card : Rows.PagerFreesCardSaid :=
  Claim7.holds_tied_plain_at .later [] _ _ _ _ said (fun _ h => by cases h) (by kernel_rfl) (fun _ h => by cases h) pagerFrees_row_tie rfl ⟨rfl, rfl⟩ (by kernel_rfl) rfl plain (by kernel_rfl)
end LaPagerFrees
end Go.Proofs.YtkgbemkcnahkoaaGreatDoor
