/- DiskReads is proved: for every script, number and text the law returns true and its arguments read as they did. No other condition. -/
import Derived.Test.YtkbadjlehmaneaaDp
import Derived.Test.YtkbadjlehmaneaaFra
import Derived.WideKeyPair
import Derived.SizedLaws
namespace Go.Proofs.Ytkbadjlehmaneaa
open Go.ChangeShapes Go.WideShapes Go.ChangeAt Go.RowKit
open Go.ChangeMaps (open_string shut_string)
namespace LaDiskReads
open Dsk
theorem wstep_is (d : PD) (k : Int) (s : ByteArray) : (d.wstep k s).n = d.n ∧ (d.wstep k s).fu = d.fu ∧ (d.wstep k s).cs.length ≤ d.cs.length + 1 ∧ (d.wstep k s).wr ≤ d.wr + 1 ∧ (d.wstep k s).fl = d.fl := by
  unfold PD.wstep
  split
  · refine ⟨rfl, rfl, ?_, Nat.le_refl _, rfl⟩
    simp [PD.burn, PD.write]
  · exact ⟨rfl, rfl, Nat.le_succ _, Nat.le_succ _, rfl⟩
theorem fstep_is (d : PD) : d.fstep.n = d.n ∧ d.fstep.fu = d.fu ∧ d.fstep.cs.length ≤ d.cs.length ∧ d.fstep.wr = d.wr ∧ d.fstep.fl ≤ d.fl + 1 := by
  unfold PD.fstep
  split
  · exact ⟨rfl, rfl, Nat.le_refl _, rfl, Nat.le_succ _⟩
  · exact ⟨rfl, rfl, Nat.zero_le _, rfl, Nat.le_refl _⟩
/-- What a script leaves of a disk of eight sectors without a fuse. -/
def Small (i : Nat) (d : PD) : Prop := d.n = 8 ∧ d.fu = false ∧ d.cs.length ≤ i ∧ d.wr ≤ i ∧ d.fl ≤ i
theorem Small.write {i : Nat} {d : PD} (h : Small i d) (k : Int) (s : ByteArray) : Small (i + 1) (d.wstep k s) := by
  obtain ⟨h1, h2, h3, h4, h5⟩ := h
  obtain ⟨g1, g2, g3, g4, g5⟩ := wstep_is d k s
  exact ⟨g1.trans h1, g2.trans h2, by omega, by omega, by omega⟩
theorem Small.flush {i : Nat} {d : PD} (h : Small i d) : Small (i + 1) d.fstep := by
  obtain ⟨h1, h2, h3, h4, h5⟩ := h
  obtain ⟨g1, g2, g3, g4, g5⟩ := fstep_is d
  exact ⟨g1.trans h1, g2.trans h2, by omega, by omega, by omega⟩
theorem Small.more {i j : Nat} {d : PD} (h : Small i d) (hj : i ≤ j) : Small j d := by
  obtain ⟨h1, h2, h3, h4, h5⟩ := h
  exact ⟨h1, h2, by omega, by omega, by omega⟩
theorem tmod8 (a : Nat) : ((a : Int).tmod 8) = ((a % 8 : Nat) : Int) := by
  rw [Int.tmod_eq_emod_of_nonneg (by omega)]; omega
set_option maxHeartbeats 8000000 in
set_option maxRecDepth 100000 in
theorem main_any (l : List Opv) (lo : Option Addr) (n lc : Nat) (a : Nat) (r : ByteArray) (w : World) (hn : n = l.length) (hnb : n ≤ 9223372036854775807) (ha : a < 256) (hr : r.size ≤ 300) (hin : OpsAt l (.slice lo n lc) w) :
    Calls Try.prog 7 #[.slice lo n lc, .int .u8 a, .string r] w fun e w' => e = .returned (.bool true) ∧ Below w.heap.size w w' := by
  obtain ⟨i0, hi0, hz0, hz1, hz2⟩ := info_parts infoS
  have HL := hidm hin
  have HN := hidm hn
  have f1 : ¬ (300 : Int) < (r.size : Int) := by omega
  obtain ⟨m, hm⟩ : ∃ m, m = a % 8 := ⟨_, rfl⟩
  have hm8 : m < 8 := by omega
  have HF2 := hidm (show ((a : Int).tmod 8) = (m : Int) from by rw [tmod8 a, hm])
  clear hm
  clear hin hn
  go_enter Try.func7, Try.ntmps7
  go_wp2_with fail
  refine (m_new (W := w) 8 (by decide) (by decide) (Below.refl _ _)).mono ?_
  rintro e w1 ⟨rfl, hm, hb⟩
  have H0 := hidm hm
  clear hm hb
  obtain ⟨D, hD⟩ : ∃ D, D = w.heap.size + 1 := ⟨_, rfl⟩
  rw [← hD] at H0 ⊢
  clear hD
  go_wp2_with fail
  go_loopw [9] (fun ii wr => ∃ (i : Nat) (d : PD), ii = .int .i64 i ∧ i ≤ n ∧ i ≤ 30 ∧ Hid (Mine w (fun _ => False) D d wr) ∧ Hid (Small i d)) (fun ii _ => (n - (intOf ii).toNat))
  case atStart => exact ⟨0, _, rfl, by omega, by omega, H0, hidm ⟨rfl, rfl, Nat.le_refl _, Nat.le_refl _, Nat.le_refl _⟩⟩
  case round =>
    rename World => wr
    obtain ⟨i, d, rfl, hi, hi2, HM, HD⟩ := hrel
    rcases Nat.lt_or_ge i n with hlt | hge
    · rcases Nat.lt_or_ge i 30 with hlt2 | hge2
      · have g1 : (i : Int) < n := by omega
        have g2 : (i : Int) < 30 := by omega
        have hil : i < l.length := by have := HN.out; omega
        obtain ⟨b, o, cp, he, hb, q0, q1, q2, q3⟩ := HL.out.at i hil
        simp only [Value.slice.injEq] at he
        obtain ⟨rfl, -, rfl⟩ := he
        obtain ⟨x, hx⟩ : ∃ x, x = l[i] := ⟨_, rfl⟩
        rw [← hx] at q0 q1 q2
        have Q0 := hidm q0
        have Q1 := hidm q1
        have Q2 := hidm q2
        have hbel := HM.out.bel
        have p0 := (hbel.cell (p := ⟨b, o + i * 4, none⟩) hb).trans q0
        have p1 := (hbel.cell (p := ⟨b, o + i * 4 + 1, none⟩) hb).trans q1
        have p2 := (hbel.cell (p := ⟨b, o + i * 4 + 2, none⟩) hb).trans q2
        have HBL := hidm hbel
        clear hx q0 q1 q2 q3 hbel
        by_cases hk0 : x.kind = 0
        · rw [hk0] at p0
          go_wp2_with fail
          have HSK := hidm (show ∀ w5, Below w.heap.size w w5 → w5.cell? ⟨b, o + i * 4 + 1, none⟩ = some (.int .i64 x.pos) ∧ w5.cell? ⟨b, o + i * 4 + 2, none⟩ = some (.string x.s) from fun w5 h5 => ⟨(h5.cell (p := ⟨b, o + i * 4 + 1, none⟩) hb).trans Q1.out, (h5.cell (p := ⟨b, o + i * 4 + 2, none⟩) hb).trans Q2.out⟩)
          refine wp_region_held_drew (S := fun u => u.cell? ⟨b, o + i * 4 + 1, none⟩ = some (.int .i64 x.pos) ∧ u.cell? ⟨b, o + i * 4 + 2, none⟩ = some (.string x.s)) (by kernel_rfl) (HSK.out _ (HBL.out.drew)) (fun hHeld => ?_)
          have HM := hidm (HM.out.later ((Below.refl _ _).drew))
          refine Man.take1 (i := 0) (v := ?_) rfl (by kernel_rfl) (by kernel_rfl) (by kernel_rfl) (fun _ _ _ h => h) (by rfl) ?_ (by assumption) ?_
          rotate_left
          · (intro u hSu; (try dsimp only at hSu); go_simp; (try with_reducible rfl))
          (try simp only [Act.put, List.setIfInBounds_toArray, List.set_cons_zero, List.set_cons_succ])
          refine Man.take1 (i := 1) (v := ?_) rfl (by kernel_rfl) (by kernel_rfl) (by kernel_rfl) (fun _ _ _ h => h) (by rfl) ?_ (by assumption) ?_
          rotate_left
          · (intro u hSu; (try dsimp only at hSu); go_simp; (try with_reducible rfl))
          (try simp only [Act.put, List.setIfInBounds_toArray, List.set_cons_zero, List.set_cons_succ])
          refine Man.take1 (i := 2) (v := ?_) rfl (by kernel_rfl) (by kernel_rfl) (by kernel_rfl) (fun _ _ _ h => h) (by rfl) ?_ (by assumption) ?_
          rotate_left
          · (intro u hSu; (try dsimp only at hSu); go_simp; (try with_reducible rfl))
          (try simp only [Act.put, List.setIfInBounds_toArray, List.set_cons_zero, List.set_cons_succ])
          refine Man.take1 (i := 3) (v := ?_) rfl (by kernel_rfl) (by kernel_rfl) (by kernel_rfl) (fun _ _ _ h => h) (by rfl) ?_ (by assumption) ?_
          rotate_left
          · (intro u hSu; (try dsimp only at hSu); go_simp; (try with_reducible rfl))
          (try simp only [Act.put, List.setIfInBounds_toArray, List.set_cons_zero, List.set_cons_succ])
          refine Man.take1 (i := 4) (v := ?_) rfl (by kernel_rfl) (by kernel_rfl) (by kernel_rfl) (fun _ _ _ h => h) (by rfl) ?_ (by assumption) ?_
          rotate_left
          · (intro u hSu; (try dsimp only at hSu); go_simp; (try with_reducible rfl))
          (try simp only [Act.put, List.setIfInBounds_toArray, List.set_cons_zero, List.set_cons_succ])
          refine Man.take1 (i := 5) (v := ?_) rfl (by kernel_rfl) (by kernel_rfl) (by kernel_rfl) (fun _ _ _ h => h) (by rfl) ?_ (by assumption) ?_
          rotate_left
          · (intro u hSu; (try dsimp only at hSu); go_simp; (try with_reducible rfl))
          (try simp only [Act.put, List.setIfInBounds_toArray, List.set_cons_zero, List.set_cons_succ])
          refine Man.take1 (i := 6) (v := ?_) rfl (by kernel_rfl) (by kernel_rfl) (by kernel_rfl) (fun _ _ _ h => h) (by rfl) ?_ (by assumption) ?_
          rotate_left
          · (intro u hSu; (try dsimp only at hSu); go_simp; (try with_reducible rfl))
          (try simp only [Act.put, List.setIfInBounds_toArray, List.set_cons_zero, List.set_cons_succ])
          refine Man.take1 (i := 7) (v := ?_) rfl (by kernel_rfl) (by kernel_rfl) (by kernel_rfl) (fun _ _ _ h => h) (by rfl) ?_ (by assumption) ?_
          rotate_left
          · (intro u hSu; (try dsimp only at hSu); go_simp; (try with_reducible rfl))
          (try simp only [Act.put, List.setIfInBounds_toArray, List.set_cons_zero, List.set_cons_succ])
          refine Man.take1 (i := 8) (v := ?_) rfl (by kernel_rfl) (by kernel_rfl) (by kernel_rfl) (fun _ _ _ h => h) (by rfl) ?_ (by assumption) ?_
          rotate_left
          · (intro u hSu; (try dsimp only at hSu); go_simp; (try with_reducible rfl))
          (try simp only [Act.put, List.setIfInBounds_toArray, List.set_cons_zero, List.set_cons_succ])
          refine Man.take1 (i := 9) (v := ?_) rfl (by kernel_rfl) (by kernel_rfl) (by kernel_rfl) (fun _ _ _ h => h) (by rfl) ?_ (by assumption) ?_
          rotate_left
          · (intro u hSu; (try dsimp only at hSu); go_simp; (try with_reducible rfl))
          (try simp only [Act.put, List.setIfInBounds_toArray, List.set_cons_zero, List.set_cons_succ])
          refine Man.take1 (i := 10) (v := ?_) rfl (by kernel_rfl) (by kernel_rfl) (by kernel_rfl) (fun _ _ _ h => h) (by rfl) ?_ (by assumption) ?_
          rotate_left
          · (intro u hSu; (try dsimp only at hSu); go_simp; (try with_reducible rfl))
          (try simp only [Act.put, List.setIfInBounds_toArray, List.set_cons_zero, List.set_cons_succ])
          refine Man.one (i := 11) rfl (by kernel_rfl) (fun K hK => ?_)
          go_simp
          refine (m_write_any x.pos x.s HM.out (by have := HD.out.2.2.1; omega) (by have := HD.out.2.2.2.1; omega)).mono ?_
          rintro e w5 ⟨rfl, hm5, hk5⟩
          have HM5 := hidm hm5
          clear hm5 hk5
          refine hK.out _ _ (HSK.out w5 HM5.out.bel) (fun hNew => ?_)
          clear hK K hHeld hNew
          (try simp only [Act.put, List.setIfInBounds_toArray, List.set_cons_zero, List.set_cons_succ])
          refine wpAnyH_done (by kernel_rfl) ?_ _
          have r0 : w5.cell? ⟨b, o + i * 4, none⟩ = some (.int .i64 0) := by rw [HM5.out.bel.cell (p := ⟨b, o + i * 4, none⟩) hb, Q0.out, hk0]
          clear p0 p1 p2
          go_wp2_with fail
          go_roundw
          case rel => exact ⟨i + 1, _, by go_num, by omega, by omega, HM5, hidm (HD.out.write _ _)⟩
          case measure => simp [intOf]; omega
        · have g3 : (x.kind == 0) = false := by simpa using hk0
          by_cases hk2 : x.kind = 2
          · rw [hk2] at p0
            go_wp2_with fail
            refine (m_flush_any HM.out (by have := HD.out.2.2.2.2; omega)).mono ?_
            rintro e w5 ⟨rfl, hm5, hk5⟩
            have HM5 := hidm hm5
            clear hm5 hk5
            go_wp2_with fail
            go_roundw
            case rel => exact ⟨i + 1, _, by go_num, by omega, by omega, HM5, hidm HD.out.flush⟩
            case measure => simp [intOf]; omega
          · have g4 : (x.kind == 2) = false := by simpa using hk2
            go_wp2_with fail
            go_roundw
            case rel => exact ⟨i + 1, d, by go_num, by omega, by omega, HM, hidm (HD.out.more (Nat.le_succ i))⟩
            case measure => simp [intOf]; omega
      · have g1 : (i : Int) < n := by omega
        have g2 : ¬ (i : Int) < 30 := by omega
        have HD9 := hidm (show Small 30 d from HD.out.more (by omega))
        have HB2 := hidm (Below.refl wr.heap.size wr)
        clear hge2
        go_wp2_with fail
        go_loopw [10, 11] (fun vv kk wx => ∃ (k : Nat) (vo : Option Addr) (vc : Nat), kk = .int .i64 k ∧ k ≤ 8 ∧ vv = .slice vo k vc ∧ Hid (wx.ownsRow wr.heap.size 9 1 (.slice vo k vc) k (strs ((List.range k).map fun j => d.f (j : Nat)))) ∧ Hid (Below wr.heap.size wr wx)) (fun _ kk _ => (8 - (intOf kk).toNat))
        case atStart => exact ⟨0, none, 0, rfl, by omega, rfl, hidm (World.ownsRow_nil _ _ _ _), HB2⟩
        case round =>
          rename World => wx
          obtain ⟨k, vo, vc, rfl, hk8, rfl, HO, HBX⟩ := hrel
          rcases Nat.lt_or_ge k 8 with hklt | hkge
          · have g5 : (k : Int) < 8 := by omega
            go_wp2_with fail
            refine (m_read k (HM.out.later HBX.out) (by rw [HD9.out.1]; exact hklt)).mono ?_
            rintro e wy ⟨rfl, hby⟩
            have HBY := hidm (HBX.out.trans (hby.mono HBX.out.size))
            have HOY := hidm (owns_later HO.out hby)
            obtain ⟨tx, htx⟩ : ∃ t, t = d.f (k : Nat) := ⟨_, rfl⟩
            rw [← htx]
            have HST := hidm (show strs ((List.range (k + 1)).map fun j => d.f (j : Nat)) = strs ((List.range k).map fun j => d.f (j : Nat)) ++ [.string (S tx)] from by
              rw [List.range_succ, List.map_append]
              show strs (_ ++ [d.f (k : Nat)]) = _
              rw [strs_snoc, htx])
            clear hby htx
            go_wp2_with (at_builtin; refine wpList_append_own _ rfl _ _ 43 rfl wr.heap.size 9 i0 (.string ⟨#[]⟩) 1 16 Try.underlying43 hi0 hz0 hz1 hz2 rfl (by decide) _ _ _ rfl (owns_later HOY.out ((Below.refl _ _).alloc (Nat.le_refl _) _)) ⟨wy.heap.size, 0, none⟩ 1 1 [.string (S tx)] rfl rfl ?CAa ?CBa ?CCa ?CDa ?CEa ?_)
            case CAa =>
              intro j y hj
              match j, hj with
              | 0, hj => simp at hj; subst hj; simp [Addr.add, go_sem]
              | j + 1, hj => simp at hj
            case CBa => intro y hy; simp at hy; subst hy; rfl
            case CCa => unfold maxLen; omega
            case CDa => omega
            case CEa => simp; have := HBY.out.size; omega
            intro v' w2 hown hgrow _
            rw [← HST.out] at hown
            obtain ⟨wo, wc, hvv⟩ : ∃ so sc, v' = .slice so (k + 1) sc := by
              rcases hown.2 with ⟨hv, h0⟩ | ⟨g', c', cur, hv, _⟩
              · exact absurd h0 (by omega)
              · exact ⟨_, _, hv⟩
            subst hvv
            have HO2 := hidm hown
            have HBZ := hidm ((HBY.out.alloc HBY.out.size (.cells #[.string (S tx)] 9)).grown hgrow (by have := HBY.out.size; simp; omega) (fun q hq => (HOY.out.lt q hq).1))
            clear hown hgrow
            go_wp2_with fail
            go_roundw
            case rel => exact ⟨k + 1, wo, wc, by go_num, by omega, rfl, HO2, HBZ⟩
            case measure => simp [intOf]; omega
          · obtain rfl : k = 8 := by omega
            have g5 : ¬ (8 : Int) < 8 := by omega
            obtain ⟨fs, hfs⟩ : ∃ fs, fs = (List.range 8).map fun j => d.f (j : Nat) := ⟨_, rfl⟩
            have hfl : fs.length = 8 := by rw [hfs]; simp
            have hfa : ∀ j (hj : j < fs.length), fs[j] = d.f (j : Nat) := fun j hj => by simp [hfs]
            have hSA : StrsAt wr.heap.size fs (.slice vo 8 vc) wx := by unfold StrsAt; rw [hfl, hfs]; exact HO.out
            obtain ⟨Q, hQ⟩ : ∃ Q : Nat → Prop, Q = (fun q => False ∨ (wr.heap.size ≤ q ∧ q < wx.heap.size)) := ⟨_, rfl⟩
            have HMX := hidm (show Mine w Q D d wx from by rw [hQ]; exact HM.out.guard HBX.out)
            have HQI := hidm (show ∀ g, (Value.slice vo 8 vc).ownBlock = some g → Q g from fun g hg => by rw [hQ]; exact .inr (hSA.lt g hg))
            have HSA := hidm hSA
            have HFL := hidm hfl
            have HFA := hidm hfa
            clear hQ hSA hfs hfl hfa
            have f2 := HF2.out
            go_wp2_with fail
            clear f2
            refine (m_write_any (m : Nat) r HMX.out (by have := HD9.out.2.2.1; omega) (by have := HD9.out.2.2.2.1; omega)).mono ?_
            rintro e w4 ⟨rfl, hm4, hk4⟩
            have HS4 := hidm (show StrsAt wr.heap.size fs (.slice vo 8 vc) w4 from ownsRow_of HSA.out (fun g hg => hk4 g (HQI.out g hg)))
            have HM4 := hidm hm4
            have HLE := hidm (fun j => HM4.out.flen j)
            clear hm4 hk4
            have HBU := hidm (show d.burnt = false from by unfold PD.burnt; rw [HD9.out.2.1]; rfl)
            have hnoff : ¬ ((m : Int) < 0 ∨ (d.n : Int) ≤ (m : Int)) := by rw [HD9.out.1]; omega
            rcases Nat.lt_or_ge 128 r.size with hr1 | hr1
            · have hcode : d.wcode m r = 19 := by unfold PD.wcode; rw [if_neg hnoff, if_pos hr1]
              have hst : d.wstep m r = d := by unfold PD.wstep; rw [hcode]; rfl
              rw [hst] at HM4 HLE
              rw [hcode]
              have HB4 := hidm (Below.refl w4.heap.size w4)
              clear hcode hst hnoff
              go_wp2_with fail
              go_loopw [16] (fun kk wx => ∃ k : Nat, kk = .int .i64 k ∧ k ≤ 8 ∧ Hid (Below w4.heap.size w4 wx)) (fun kk _ => (8 - (intOf kk).toNat))
              case atStart => exact ⟨0, rfl, by omega, HB4⟩
              case round =>
                rename World => wz
                obtain ⟨k, rfl, hk8, HBZ⟩ := hrel
                rcases Nat.lt_or_ge k 8 with hklt | hkge
                · have g6 : (k : Int) < 8 := by omega
                  have hkf : k < fs.length := by rw [HFL.out]; exact hklt
                  go_wp2_with fail
                  refine (m_read k (HM4.out.later HBZ.out) (by rw [HD9.out.1]; exact hklt)).mono ?_
                  rintro e wy ⟨rfl, hby⟩
                  have HBY := hidm (HBZ.out.trans (hby.mono HBZ.out.size))
                  obtain ⟨g, gc, he, _, _, hcw⟩ := StrsAt.at (HS4.out.later HBY.out) k hkf
                  rw [HFA.out k hkf] at hcw
                  have hll := HLE.out (k : Nat)
                  obtain ⟨tx, htx⟩ : ∃ t, t = d.f (k : Nat) := ⟨_, rfl⟩
                  rw [← htx] at hcw hll ⊢
                  simp only [Value.slice.injEq] at he
                  obtain ⟨rfl, -, rfl⟩ := he
                  have hs8 : tx.toArray.size = 128 := by simpa using hll
                  clear hby htx hll
                  by_cases hkm : k = m
                  · subst hkm
                    go_wp2_with fail
                    go_roundw
                    case rel => exact ⟨k + 1, by go_num, by omega, HBY⟩
                    case measure => simp [intOf]; omega
                  · have g7 : ¬ (k : Int) = (m : Int) := by omega
                    have g8 : ((k : Int) != (m : Int)) = true := by simp; omega
                    have g9 : ((k : Int) == (m : Int)) = false := by simp; omega
                    go_wp2_with fail
                    go_roundw
                    case rel => exact ⟨k + 1, by go_num, by omega, HBY⟩
                    case measure => simp [intOf]; omega
                · obtain rfl : k = 8 := by omega
                  have g6 : ¬ (8 : Int) < 8 := by omega
                  have g7 : ¬ (r.size : Int) ≤ 128 := by omega
                  have HBK := hidm (HM4.out.later HBZ.out).bel
                  go_wp2_with fail
                  refine (known_any _).mono ?_
                  rintro e wk ⟨rfl, hbk⟩
                  have HBE := hidm (HBK.out.trans (hbk.mono HBK.out.size))
                  clear hbk
                  go_wp2_with fail
                  go_ret
                  exact ⟨rfl, HBE.out⟩
            · have hcode : d.wcode m r = 0 := by unfold PD.wcode; rw [if_neg hnoff, if_neg (by omega), HBU.out]; rfl
              have hst : d.wstep m r = (d.write m r.data.toList).burn := by unfold PD.wstep; rw [hcode]; simp
              have HFM := hidm (show (d.wstep m r).f (m : Nat) = pad r.data.toList from by rw [hst]; show upd _ _ _ _ = _; rw [upd_same])
              have HFO := hidm (show ∀ k : Nat, k ≠ m → (d.wstep m r).f (k : Nat) = d.f (k : Nat) from fun k hk => by rw [hst]; show upd _ _ _ _ = _; rw [upd_other _ _ _ _ (by omega)])
              have HN4 := hidm (show (d.wstep m r).n = 8 from by rw [hst]; exact HD9.out.1)
              rw [hcode]
              have HB4 := hidm (Below.refl w4.heap.size w4)
              clear hcode hst hnoff
              obtain ⟨d4, hd4⟩ : ∃ d4, d4 = d.wstep m r := ⟨_, rfl⟩
              rw [← hd4] at HM4 HLE HFM HFO HN4
              clear hd4
              go_wp2_with fail
              go_loopw [16] (fun kk wx => ∃ k : Nat, kk = .int .i64 k ∧ k ≤ 8 ∧ Hid (Below w4.heap.size w4 wx)) (fun kk _ => (8 - (intOf kk).toNat))
              case atStart => exact ⟨0, rfl, by omega, HB4⟩
              case round =>
                rename World => wz
                obtain ⟨k, rfl, hk8, HBZ⟩ := hrel
                rcases Nat.lt_or_ge k 8 with hklt | hkge
                · have g6 : (k : Int) < 8 := by omega
                  have hkf : k < fs.length := by rw [HFL.out]; exact hklt
                  go_wp2_with fail
                  refine (m_read k (HM4.out.later HBZ.out) (by rw [HN4.out]; exact hklt)).mono ?_
                  rintro e wy ⟨rfl, hby⟩
                  have HBY := hidm (HBZ.out.trans (hby.mono HBZ.out.size))
                  obtain ⟨g, gc, he, _, _, hcw⟩ := StrsAt.at (HS4.out.later HBY.out) k hkf
                  rw [HFA.out k hkf] at hcw
                  have hll := HLE.out (k : Nat)
                  simp only [Value.slice.injEq] at he
                  obtain ⟨rfl, -, rfl⟩ := he
                  clear hby
                  by_cases hkm : k = m
                  · subst hkm
                    obtain ⟨ty, hty⟩ : ∃ t, t = pad r.data.toList := ⟨_, rfl⟩
                    rw [HFM.out] at hll ⊢
                    rw [← hty] at hll ⊢
                    have HTY := hidm hty
                    have hs8 : ty.toArray.size = 128 := by simpa using hll
                    clear hty hll
                    go_wp2_with fail
                    refine (rpad_any r (by omega) _).mono ?_
                    rintro e wp ⟨rfl, hbp⟩
                    rw [← HTY.out]
                    have HBP := hidm (HBY.out.trans (hbp.mono HBY.out.size))
                    clear hbp
                    go_wp2_with fail
                    go_roundw
                    case rel => exact ⟨k + 1, by go_num, by omega, HBP⟩
                    case measure => simp [intOf]; omega
                  · rw [HFO.out k hkm] at hll ⊢
                    obtain ⟨tx, htx⟩ : ∃ t, t = d.f (k : Nat) := ⟨_, rfl⟩
                    rw [← htx] at hcw hll ⊢
                    have hs8 : tx.toArray.size = 128 := by simpa using hll
                    have g7 : ¬ (k : Int) = (m : Int) := by omega
                    have g8 : ((k : Int) != (m : Int)) = true := by simp; omega
                    have g9 : ((k : Int) == (m : Int)) = false := by simp; omega
                    clear htx hll
                    go_wp2_with fail
                    go_roundw
                    case rel => exact ⟨k + 1, by go_num, by omega, HBY⟩
                    case measure => simp [intOf]; omega
                · obtain rfl : k = 8 := by omega
                  have g6 : ¬ (8 : Int) < 8 := by omega
                  have g7 : (r.size : Int) ≤ 128 := by omega
                  have HBK := hidm (HM4.out.later HBZ.out).bel
                  go_wp2_with fail
                  refine (known_any _).mono ?_
                  rintro e wk ⟨rfl, hbk⟩
                  have HBE := hidm (HBK.out.trans (hbk.mono HBK.out.size))
                  clear hbk
                  go_wp2_with fail
                  go_ret
                  exact ⟨rfl, HBE.out⟩
    · obtain rfl : i = n := by omega
      have g1 : ¬ (i : Int) < (i : Int) := by omega
      have HD9 := hidm (show Small 30 d from HD.out.more (by omega))
      have HB2 := hidm (Below.refl wr.heap.size wr)
      clear hge
      go_wp2_with fail
      go_loopw [10, 11] (fun vv kk wx => ∃ (k : Nat) (vo : Option Addr) (vc : Nat), kk = .int .i64 k ∧ k ≤ 8 ∧ vv = .slice vo k vc ∧ Hid (wx.ownsRow wr.heap.size 9 1 (.slice vo k vc) k (strs ((List.range k).map fun j => d.f (j : Nat)))) ∧ Hid (Below wr.heap.size wr wx)) (fun _ kk _ => (8 - (intOf kk).toNat))
      case atStart => exact ⟨0, none, 0, rfl, by omega, rfl, hidm (World.ownsRow_nil _ _ _ _), HB2⟩
      case round =>
        rename World => wx
        obtain ⟨k, vo, vc, rfl, hk8, rfl, HO, HBX⟩ := hrel
        rcases Nat.lt_or_ge k 8 with hklt | hkge
        · have g5 : (k : Int) < 8 := by omega
          go_wp2_with fail
          refine (m_read k (HM.out.later HBX.out) (by rw [HD9.out.1]; exact hklt)).mono ?_
          rintro e wy ⟨rfl, hby⟩
          have HBY := hidm (HBX.out.trans (hby.mono HBX.out.size))
          have HOY := hidm (owns_later HO.out hby)
          obtain ⟨tx, htx⟩ : ∃ t, t = d.f (k : Nat) := ⟨_, rfl⟩
          rw [← htx]
          have HST := hidm (show strs ((List.range (k + 1)).map fun j => d.f (j : Nat)) = strs ((List.range k).map fun j => d.f (j : Nat)) ++ [.string (S tx)] from by
            rw [List.range_succ, List.map_append]
            show strs (_ ++ [d.f (k : Nat)]) = _
            rw [strs_snoc, htx])
          clear hby htx
          go_wp2_with (at_builtin; refine wpList_append_own _ rfl _ _ 43 rfl wr.heap.size 9 i0 (.string ⟨#[]⟩) 1 16 Try.underlying43 hi0 hz0 hz1 hz2 rfl (by decide) _ _ _ rfl (owns_later HOY.out ((Below.refl _ _).alloc (Nat.le_refl _) _)) ⟨wy.heap.size, 0, none⟩ 1 1 [.string (S tx)] rfl rfl ?CAb ?CBb ?CCb ?CDb ?CEb ?_)
          case CAb =>
            intro j y hj
            match j, hj with
            | 0, hj => simp at hj; subst hj; simp [Addr.add, go_sem]
            | j + 1, hj => simp at hj
          case CBb => intro y hy; simp at hy; subst hy; rfl
          case CCb => unfold maxLen; omega
          case CDb => omega
          case CEb => simp; have := HBY.out.size; omega
          intro v' w2 hown hgrow _
          rw [← HST.out] at hown
          obtain ⟨wo, wc, hvv⟩ : ∃ so sc, v' = .slice so (k + 1) sc := by
            rcases hown.2 with ⟨hv, h0⟩ | ⟨g', c', cur, hv, _⟩
            · exact absurd h0 (by omega)
            · exact ⟨_, _, hv⟩
          subst hvv
          have HO2 := hidm hown
          have HBZ := hidm ((HBY.out.alloc HBY.out.size (.cells #[.string (S tx)] 9)).grown hgrow (by have := HBY.out.size; simp; omega) (fun q hq => (HOY.out.lt q hq).1))
          clear hown hgrow
          go_wp2_with fail
          go_roundw
          case rel => exact ⟨k + 1, wo, wc, by go_num, by omega, rfl, HO2, HBZ⟩
          case measure => simp [intOf]; omega
        · obtain rfl : k = 8 := by omega
          have g5 : ¬ (8 : Int) < 8 := by omega
          obtain ⟨fs, hfs⟩ : ∃ fs, fs = (List.range 8).map fun j => d.f (j : Nat) := ⟨_, rfl⟩
          have hfl : fs.length = 8 := by rw [hfs]; simp
          have hfa : ∀ j (hj : j < fs.length), fs[j] = d.f (j : Nat) := fun j hj => by simp [hfs]
          have hSA : StrsAt wr.heap.size fs (.slice vo 8 vc) wx := by unfold StrsAt; rw [hfl, hfs]; exact HO.out
          obtain ⟨Q, hQ⟩ : ∃ Q : Nat → Prop, Q = (fun q => False ∨ (wr.heap.size ≤ q ∧ q < wx.heap.size)) := ⟨_, rfl⟩
          have HMX := hidm (show Mine w Q D d wx from by rw [hQ]; exact HM.out.guard HBX.out)
          have HQI := hidm (show ∀ g, (Value.slice vo 8 vc).ownBlock = some g → Q g from fun g hg => by rw [hQ]; exact .inr (hSA.lt g hg))
          have HSA := hidm hSA
          have HFL := hidm hfl
          have HFA := hidm hfa
          clear hQ hSA hfs hfl hfa
          have f2 := HF2.out
          go_wp2_with fail
          clear f2
          refine (m_write_any (m : Nat) r HMX.out (by have := HD9.out.2.2.1; omega) (by have := HD9.out.2.2.2.1; omega)).mono ?_
          rintro e w4 ⟨rfl, hm4, hk4⟩
          have HS4 := hidm (show StrsAt wr.heap.size fs (.slice vo 8 vc) w4 from ownsRow_of HSA.out (fun g hg => hk4 g (HQI.out g hg)))
          have HM4 := hidm hm4
          have HLE := hidm (fun j => HM4.out.flen j)
          clear hm4 hk4
          have HBU := hidm (show d.burnt = false from by unfold PD.burnt; rw [HD9.out.2.1]; rfl)
          have hnoff : ¬ ((m : Int) < 0 ∨ (d.n : Int) ≤ (m : Int)) := by rw [HD9.out.1]; omega
          rcases Nat.lt_or_ge 128 r.size with hr1 | hr1
          · have hcode : d.wcode m r = 19 := by unfold PD.wcode; rw [if_neg hnoff, if_pos hr1]
            have hst : d.wstep m r = d := by unfold PD.wstep; rw [hcode]; rfl
            rw [hst] at HM4 HLE
            rw [hcode]
            have HB4 := hidm (Below.refl w4.heap.size w4)
            clear hcode hst hnoff
            go_wp2_with fail
            go_loopw [16] (fun kk wx => ∃ k : Nat, kk = .int .i64 k ∧ k ≤ 8 ∧ Hid (Below w4.heap.size w4 wx)) (fun kk _ => (8 - (intOf kk).toNat))
            case atStart => exact ⟨0, rfl, by omega, HB4⟩
            case round =>
              rename World => wz
              obtain ⟨k, rfl, hk8, HBZ⟩ := hrel
              rcases Nat.lt_or_ge k 8 with hklt | hkge
              · have g6 : (k : Int) < 8 := by omega
                have hkf : k < fs.length := by rw [HFL.out]; exact hklt
                go_wp2_with fail
                refine (m_read k (HM4.out.later HBZ.out) (by rw [HD9.out.1]; exact hklt)).mono ?_
                rintro e wy ⟨rfl, hby⟩
                have HBY := hidm (HBZ.out.trans (hby.mono HBZ.out.size))
                obtain ⟨g, gc, he, _, _, hcw⟩ := StrsAt.at (HS4.out.later HBY.out) k hkf
                rw [HFA.out k hkf] at hcw
                have hll := HLE.out (k : Nat)
                obtain ⟨tx, htx⟩ : ∃ t, t = d.f (k : Nat) := ⟨_, rfl⟩
                rw [← htx] at hcw hll ⊢
                simp only [Value.slice.injEq] at he
                obtain ⟨rfl, -, rfl⟩ := he
                have hs8 : tx.toArray.size = 128 := by simpa using hll
                clear hby htx hll
                by_cases hkm : k = m
                · subst hkm
                  go_wp2_with fail
                  go_roundw
                  case rel => exact ⟨k + 1, by go_num, by omega, HBY⟩
                  case measure => simp [intOf]; omega
                · have g7 : ¬ (k : Int) = (m : Int) := by omega
                  have g8 : ((k : Int) != (m : Int)) = true := by simp; omega
                  have g9 : ((k : Int) == (m : Int)) = false := by simp; omega
                  go_wp2_with fail
                  go_roundw
                  case rel => exact ⟨k + 1, by go_num, by omega, HBY⟩
                  case measure => simp [intOf]; omega
              · obtain rfl : k = 8 := by omega
                have g6 : ¬ (8 : Int) < 8 := by omega
                have g7 : ¬ (r.size : Int) ≤ 128 := by omega
                have HBK := hidm (HM4.out.later HBZ.out).bel
                go_wp2_with fail
                refine (known_any _).mono ?_
                rintro e wk ⟨rfl, hbk⟩
                have HBE := hidm (HBK.out.trans (hbk.mono HBK.out.size))
                clear hbk
                go_wp2_with fail
                go_ret
                exact ⟨rfl, HBE.out⟩
          · have hcode : d.wcode m r = 0 := by unfold PD.wcode; rw [if_neg hnoff, if_neg (by omega), HBU.out]; rfl
            have hst : d.wstep m r = (d.write m r.data.toList).burn := by unfold PD.wstep; rw [hcode]; simp
            have HFM := hidm (show (d.wstep m r).f (m : Nat) = pad r.data.toList from by rw [hst]; show upd _ _ _ _ = _; rw [upd_same])
            have HFO := hidm (show ∀ k : Nat, k ≠ m → (d.wstep m r).f (k : Nat) = d.f (k : Nat) from fun k hk => by rw [hst]; show upd _ _ _ _ = _; rw [upd_other _ _ _ _ (by omega)])
            have HN4 := hidm (show (d.wstep m r).n = 8 from by rw [hst]; exact HD9.out.1)
            rw [hcode]
            have HB4 := hidm (Below.refl w4.heap.size w4)
            clear hcode hst hnoff
            obtain ⟨d4, hd4⟩ : ∃ d4, d4 = d.wstep m r := ⟨_, rfl⟩
            rw [← hd4] at HM4 HLE HFM HFO HN4
            clear hd4
            go_wp2_with fail
            go_loopw [16] (fun kk wx => ∃ k : Nat, kk = .int .i64 k ∧ k ≤ 8 ∧ Hid (Below w4.heap.size w4 wx)) (fun kk _ => (8 - (intOf kk).toNat))
            case atStart => exact ⟨0, rfl, by omega, HB4⟩
            case round =>
              rename World => wz
              obtain ⟨k, rfl, hk8, HBZ⟩ := hrel
              rcases Nat.lt_or_ge k 8 with hklt | hkge
              · have g6 : (k : Int) < 8 := by omega
                have hkf : k < fs.length := by rw [HFL.out]; exact hklt
                go_wp2_with fail
                refine (m_read k (HM4.out.later HBZ.out) (by rw [HN4.out]; exact hklt)).mono ?_
                rintro e wy ⟨rfl, hby⟩
                have HBY := hidm (HBZ.out.trans (hby.mono HBZ.out.size))
                obtain ⟨g, gc, he, _, _, hcw⟩ := StrsAt.at (HS4.out.later HBY.out) k hkf
                rw [HFA.out k hkf] at hcw
                have hll := HLE.out (k : Nat)
                simp only [Value.slice.injEq] at he
                obtain ⟨rfl, -, rfl⟩ := he
                clear hby
                by_cases hkm : k = m
                · subst hkm
                  obtain ⟨ty, hty⟩ : ∃ t, t = pad r.data.toList := ⟨_, rfl⟩
                  rw [HFM.out] at hll ⊢
                  rw [← hty] at hll ⊢
                  have HTY := hidm hty
                  have hs8 : ty.toArray.size = 128 := by simpa using hll
                  clear hty hll
                  go_wp2_with fail
                  refine (rpad_any r (by omega) _).mono ?_
                  rintro e wp ⟨rfl, hbp⟩
                  rw [← HTY.out]
                  have HBP := hidm (HBY.out.trans (hbp.mono HBY.out.size))
                  clear hbp
                  go_wp2_with fail
                  go_roundw
                  case rel => exact ⟨k + 1, by go_num, by omega, HBP⟩
                  case measure => simp [intOf]; omega
                · rw [HFO.out k hkm] at hll ⊢
                  obtain ⟨tx, htx⟩ : ∃ t, t = d.f (k : Nat) := ⟨_, rfl⟩
                  rw [← htx] at hcw hll ⊢
                  have hs8 : tx.toArray.size = 128 := by simpa using hll
                  have g7 : ¬ (k : Int) = (m : Int) := by omega
                  have g8 : ((k : Int) != (m : Int)) = true := by simp; omega
                  have g9 : ((k : Int) == (m : Int)) = false := by simp; omega
                  clear htx hll
                  go_wp2_with fail
                  go_roundw
                  case rel => exact ⟨k + 1, by go_num, by omega, HBY⟩
                  case measure => simp [intOf]; omega
              · obtain rfl : k = 8 := by omega
                have g6 : ¬ (8 : Int) < 8 := by omega
                have g7 : (r.size : Int) ≤ 128 := by omega
                have HBK := hidm (HM4.out.later HBZ.out).bel
                go_wp2_with fail
                refine (known_any _).mono ?_
                rintro e wk ⟨rfl, hbk⟩
                have HBE := hidm (HBK.out.trans (hbk.mono HBK.out.size))
                clear hbk
                go_wp2_with fail
                go_ret
                exact ⟨rfl, HBE.out⟩
set_option maxHeartbeats 4000000 in
set_option maxRecDepth 100000 in
theorem skip_any (lo : Option Addr) (n lc : Nat) (a : Nat) (r : ByteArray) (w : World) (hr : 300 < r.size) :
    Calls Try.prog 7 #[.slice lo n lc, .int .u8 a, .string r] w fun e w' => e = .returned (.bool true) ∧ Below w.heap.size w w' := by
  have f1 : (300 : Int) < (r.size : Int) := by omega
  go_enter Try.func7, Try.ntmps7
  go_wp2_with fail
  refine (m_new (W := w) 8 (by decide) (by decide) (Below.refl _ _)).mono ?_
  rintro e w1 ⟨rfl, hm, hb⟩
  have HB := hidm hb
  clear hm hb
  go_wp2_with fail
  refine (known_any _).mono ?_
  rintro e wk ⟨rfl, hbk⟩
  have HBE := hidm (HB.out.trans (hbk.mono HB.out.size))
  clear hbk
  go_wp2_with fail
  go_ret
  exact ⟨rfl, HBE.out⟩
theorem law_any (l : List Opv) (sl : Value) (a : Nat) (r : ByteArray) (w : World) (ha : a < 256) (hin : OpsAt l sl w) :
    Calls Try.prog 7 #[sl, .int .u8 a, .string r] w fun e w' => e = .returned (.bool true) ∧ Below w.heap.size w w' := by
  obtain ⟨lo, lc, rfl, h1, h2⟩ := hin.form
  rcases Nat.lt_or_ge 300 r.size with hr | hr
  · exact skip_any lo _ lc a r w hr
  · exact main_any l lo _ lc a r w rfl (by omega) ha hr hin
theorem laidOut : laidOutB Try.prog = true := by kernel_rfl
set_option maxRecDepth 100000 in
theorem contract (H : Type) (enc : TypeId × Value → H) (W : World) (base : Nat) (args : Array Value) (ds gs : List (DataW H)) (before : List MemPlace)
    (hval : ∀ (j : Nat) t v, Try.f7.params[j]? = some t → args[j]? = some v → Value.okWide Try.prog W .any base t v)
    (hW : DataW.Whole enc Try.prog Try.f7.params.toList Rows.diskReadsSpec.vars false W args.toList ds gs before)
    (hsz0 : (DataW.weightsEach Try.prog (Try.f7.params.toList ++ Rows.diskReadsSpec.plain.varTypes Try.prog) (ds ++ gs)).all (· ≤ reachBytes) = true) :
    Calls Try.prog 7 args W fun e W' => ∃ v, e = .returned v ∧ Rows.diskReadsSpec.post enc Try.prog Try.f7 false true false false W args v W' := by
  have hW' := hW
  obtain ⟨p, q, hA0, hV, rfl, hfz, hnd⟩ := hW
  have hA : DataW.TrodAll enc Try.prog W 0 (fun _ => true) true Try.f7.params.toList args.toList ds p := hA0
  rw [Try.params7] at hA hval hsz0
  obtain ⟨v0, vs0, d0, ds0, p0, q0, hargs, rfl, rfl, h0, r0⟩ := trodAll_cons hA
  obtain ⟨v1, vs1, d1, ds1, p1, q1, rfl, rfl, rfl, h1, r1⟩ := trodAll_cons r0
  obtain ⟨v2, vs2, d2, ds2, p2, q2, rfl, rfl, rfl, h2, r2⟩ := trodAll_cons r1
  obtain ⟨rfl, rfl, rfl⟩ := trodAll_nil r2
  obtain rfl : args = #[v0, v1, v2] := by cases args; simp_all
  obtain ⟨rfl, rfl⟩ := trodVars_none hV
  have hsz := fun n hn => of_decide_eq_true (List.all_eq_true.1 hsz0 n hn)
  obtain ⟨l, hml, hnl⟩ := open_ops (hval 0 22 v0 rfl rfl) h0
  obtain ⟨a, rfl, hd1, hp1, wa⟩ := open_int Try.underlying5 (hval 1 5 v1 rfl rfl) h1
  have ba := bounds_u8 wa
  obtain ⟨a, rfl⟩ := Int.eq_ofNat_of_zero_le ba.1
  obtain ⟨r, rfl, hd2, hp2, wr⟩ := open_string Try.underlying9 (hval 2 9 v2 rfl rfl) h2
  clear hA0 hsz0
  simp only [List.append_nil] at hW'
  have hlt : ∀ x ∈ p0 ++ p1 ++ p2, x.block < W.heap.size := fun x hx => hW'.lt x (by simpa using hx)
  have walk := law_any l v0 a r W (by omega) hml
  refine walk.mono fun e W' ⟨he, hg⟩ => ?_
  subst he
  refine ⟨_, rfl, Fr.post_made (pa := p0 ++ (p1 ++ p2)) (pv := []) hW' (fun _ _ _ => trodAll_cons_mk (shut_bool Try.underlying4 _) trodAll_mk0) (fun sp hsp => ?_) (fun _ _ => rfl) (by simp) hg (ok_one (by kernel_rfl) rfl (okWide_bool_mk Try.underlying4 _))⟩
  have g0 : DataW.Trod enc Try.prog W' 0 sp true 22 _ d0 p0 := WideElems.Trod_stays laidOut (by kernel_rfl) (of_decide_eq_true (by kernel_rfl)) h0 (fun x hx => hg.same (hlt x (by simp [hx]))) (fun x hx => hsp x (by simp [hx]))
  have g1 : DataW.Trod enc Try.prog W' 0 sp true 5 _ d1 p1 := WideElems.Trod_stays laidOut (by kernel_rfl) (of_decide_eq_true (by kernel_rfl)) h1 (fun x hx => hg.same (hlt x (by simp [hx]))) (fun x hx => hsp x (by simp [hx]))
  have g2 : DataW.Trod enc Try.prog W' 0 sp true 9 _ d2 p2 := WideElems.Trod_stays laidOut (by kernel_rfl) (of_decide_eq_true (by kernel_rfl)) h2 (fun x hx => hg.same (hlt x (by simp [hx]))) (fun x hx => hsp x (by simp [hx]))
  have hT := (trodAll_cons_mk g0 (trodAll_cons_mk g1 (trodAll_cons_mk g2 trodAll_mk0)))
  simp only [List.append_nil] at hT
  exact hT
set_option maxRecDepth 100000 in
theorem lifted (os : Os) (started : os.Started) (H : Type) (enc : TypeId × Value → H) :
    ReturnsInHanded {} Try.checked os 7 .any (Rows.diskReadsSpec.pre6 enc Try.prog Try.f7 Rows.diskReadsRow.domain false) (Rows.diskReadsSpec.post enc Try.prog Try.f7 false true false false) := by
  refine returnsInHanded_of_change_sized (C := Try.checked) Fr.own started (by kernel_rfl) Try.func7
    (ChangeSpec.witness6 (enc := enc) (C := Try.checked) false ⟨#[], #[.slice none 0 0, .int .u8 0, .string ⟨#[]⟩], []⟩ 8 (by kernel_rfl) (by kernel_rfl) (by kernel_rfl) (by kernel_rfl)) ?_
  intro W base args ds gs before hval hW _ hsz _
  exact contract H enc W base args ds gs before hval hW hsz
theorem said : Rows.DiskReadsSaid :=
  OpenClaim.holds_of_wide 7 Try.f7 rfl rfl rfl rfl rfl rfl rfl ⟨rfl, rfl, rfl, rfl, rfl⟩ rfl rfl rfl rfl rfl (by kernel_rfl) Try.func7 (by kernel_rfl)
    (of_decide_eq_true (by kernel_rfl)) (by unfold Func.isWrapper; first | (rw [if_pos (by decide +kernel)]; kernel_rfl) | (rw [if_neg (by decide +kernel)]; exact ⟨rfl, rfl⟩))
    (fun os started H enc _ => lifted os started H enc)
end LaDiskReads
end Go.Proofs.Ytkbadjlehmaneaa
