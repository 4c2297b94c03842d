/- HeapKeeps is proved: for every script the law returns true and its arguments read as they did. No other condition. -/
import Derived.Test.YtmccnlffikegfaaGreatDoorZNfto
import Derived.Test.YtmccnlffikegfaaGreatDoorZNi
import Derived.Test.YtmccnlffikegfaaGreatDoorZNj
import Derived.Test.YtmccnlffikegfaaGreatDoorZFrdto
import Derived.Deep.DeepCutAuto
import Derived.Deep.CutBlock
import Derived.WideKeyPair
import Derived.SizedLaws
namespace Go.Proofs.YtmccnlffikegfaaGreatDoor
open Go.ChangeShapes Go.WideShapes Go.ChangeAt Go.RowKit
open Go.ChangeMaps (open_string shut_string)
namespace LaHeapKeeps
open Pgr Hep
open Dsk (PD Mine KeepQ Only pad zeros cell_later below_keeps)
open Crc (S S_of S_size)
set_option maxHeartbeats 32000000 in
set_option maxRecDepth 100000 in
theorem law_any (l : List Opv) (v0 : Value) (w : World) (h : OpsAt l v0 w) :
    Calls Tryz.prog 3 #[v0] w fun e w' => e = .returned (.bool true) ∧ Below w.heap.size w w' := by
  obtain ⟨lo, lc, rfl, hlc, hlm⟩ := h.form
  obtain ⟨ll, hll⟩ : ∃ n, n = l.length := ⟨_, rfl⟩
  have HLL := hidm hll
  have HSL := hidm h
  rw [← hll]
  have hll2 : ll ≤ 9223372036854775807 := by omega
  have N0 := hidm (show Calls Tryz.prog 8 #[.int .i64 100] w fun e w' => BeginP 100 w e w' from begin_any 100 (by omega) w)
  clear h hll hlc hlm
  go_enter Tryz.func3, Tryz.ntmps3
  go_wp2_with fail
  refine N0.out.mono ?_
  rintro e w1 ⟨P, L, D, B, Q, rfl, h1⟩
  have H1 := hidm (show St w B P L D 0 0 (.slice none 0 0) (.slice none 0 0) w1 from ⟨Q, _, 0, [], [], ⟨h1.any, .inl ⟨rfl, rfl⟩, RowO.nil _ _ _ _, RowO.nil _ _ _ _⟩, rfl, rfl⟩)
  clear h1 N0
  go_upto_block 0 with fail
  go_cut [5, 6, 7, 8] (fun _ _ _ _ wx => Hid (Below w.heap.size w wx))
  case first =>
    go_wp2_with fail
    go_loopw [5, 6, 7, 8] (fun a b c ii wr => ∃ (io ao : Option Addr) (m ic ac rr i : Nat), a = .slice io m ic ∧ b = .slice ao m ac ∧ c = .int .i64 (rr : Int) ∧ ii = .int .i64 (i : Int) ∧ i ≤ ll ∧ i ≤ 40 ∧ m ≤ i ∧ Hid (St w B P L D m rr (.slice io m ic) (.slice ao m ac) wr)) (fun _ _ _ ii _ => ll - (intOf ii).toNat)
    case atStart => exact ⟨none, none, 0, 0, 0, 0, 0, rfl, rfl, rfl, rfl, by omega, by omega, by omega, H1⟩
    case round =>
      rename World => wr
      obtain ⟨io, ao, m, ic, ac, rr, i, rfl, rfl, rfl, rfl, hi, hi2, hm, HX⟩ := hrel
      clear H1
      by_cases hlt : i < ll ∧ i < 40
      · obtain ⟨hlt, hlt2⟩ := hlt
        have f1 : (i : Int) < (ll : Int) := by omega
        have f2 : (i : Int) < 40 := by omega
        obtain ⟨Q, G, x0, R0, A, hk, hA, hR⟩ := HX.out
        have HK := hidm hk
        have HA := hidm hA
        have HR := hidm hR
        clear HX
        have hil : i < l.length := by rw [← HLL.out]; exact hlt
        obtain ⟨b', o, cp, he, hbl, q0, q1, q2⟩ := HSL.out.at i hil
        rw [← HLL.out] at he
        simp only [Value.slice.injEq] at he
        obtain ⟨rfl, -, rfl⟩ := he
        obtain ⟨x, hx⟩ : ∃ x, x = l[i] := ⟨_, rfl⟩
        rw [← hx] at q0 q1 q2
        have c0 := (hk.hp.bel.cell (p := ⟨b', o + i * 3, none⟩) hbl).trans q0
        have c1 := (hk.hp.bel.cell (p := ⟨b', o + i * 3 + 1, none⟩) hbl).trans q1
        have c2 := (hk.hp.bel.cell (p := ⟨b', o + i * 3 + 2, none⟩) hbl).trans q2
        obtain ⟨xk, hxk⟩ : ∃ a, a = x.kind := ⟨_, rfl⟩
        obtain ⟨xp, hxp⟩ : ∃ a, a = x.pos := ⟨_, rfl⟩
        obtain ⟨xs, hxs⟩ : ∃ a, a = x.s := ⟨_, rfl⟩
        rw [← hxk] at c0
        rw [← hxp] at c1
        rw [← hxs] at c2
        obtain ⟨i2, hi3⟩ : ∃ i2, i2 = i + 1 := ⟨_, rfl⟩
        have e1 : (i : Int) + 1 = (i2 : Int) := by omega
        have e1w : IntKind.i64.wrap (i2 : Int) = (i2 : Int) := by simp only [IntKind.wrap_i64]; omega
        have HI2 := hidm hi3
        have HIK := hidm (show i2 ≤ ll ∧ i2 ≤ 40 ∧ m ≤ i ∧ i < 40 from by omega)
        clear hi3 hx hxk hxp hxs q0 q1 q2 hk hA hR hil hbl hi hi2 hm
        go_upto_region 11 with fail
        clear c0 c1 c2
        have hba := (Below.refl wr.heap.size wr).alloc (Nat.le_refl _) (.cells #[.int .i64 xk, .int .i64 xp, .string xs] 30)
        obtain ⟨wP, hwP⟩ : ∃ wP, wP = wr.alloc (.cells #[.int .i64 xk, .int .i64 xp, .string xs] 30) := ⟨_, rfl⟩
        have HPR := hidm (opRow wr xk xp xs)
        rw [← hwP] at HPR hba ⊢
        obtain ⟨Bx, hBx⟩ : ∃ B, B = wr.heap.size := ⟨_, rfl⟩
        have hBl : Bx < wP.heap.size := by rw [hwP, hBx]; simp
        obtain ⟨Q1, hQ1⟩ : ∃ Q1 : Nat → Prop, Q1 = fun j => Q j ∨ (wr.heap.size ≤ j ∧ j < wP.heap.size) := ⟨_, rfl⟩
        have K1 := hidm (show Hk w Q1 B P L D G x0 R0 A (.slice io m ic) (.slice ao m ac) wP from by rw [hQ1]; exact HK.out.guard hba)
        have HQB := hidm (show Q1 Bx from by rw [hQ1]; exact .inr ⟨by omega, hBl⟩)
        rw [← hBx] at HPR ⊢
        clear hwP hba hBx hBl hQ1 HK
        have p0 := cell_of_row wP Bx 0 _ _ (0, 0) HPR.out
        have p2 := cell_of_row wP Bx 2 _ _ (0, 0) HPR.out
        by_cases hs4 : 400 < xs.size
        · have g2 : (400 : Int) < (xs.size : Int) := by omega
          clear hs4
          go_wp2_with fail
          go_roundw
          case rel => exact ⟨io, ao, m, ic, ac, rr, i2, rfl, rfl, rfl, rfl, HIK.out.1, HIK.out.2.1, by have := HIK.out; have := HI2.out; omega, hidm ⟨Q1, G, x0, R0, A, K1.out, HA.out, HR.out⟩⟩
          case measure => have := HI2.out; simp [intOf]; omega
        · have g2 : ¬ (400 : Int) < (xs.size : Int) := by omega
          go_upto_block 2 with fail
          go_cut [5, 6, 7] (fun a b c wx => ∃ (io ao : Option Addr) (m ic ac rr : Nat), a = .slice io m ic ∧ b = .slice ao m ac ∧ c = .int .i64 (rr : Int) ∧ m ≤ i2 ∧ Hid (St w B P L D m rr (.slice io m ic) (.slice ao m ac) wx))
          case first =>
            clear f1 f2 e1 e1w
            by_cases hk0 : xk = 0
            · subst hk0
              by_cases hf : need xs.data.toList.length + 2 + (pgs (R0 ++ A)).length ≤ 100
              · have C := K1.out.put xs.data.toList (by rw [Dsk.len_eq]; omega) hf
                rw [S_of] at C
                have C := hidm C
                clear hf
                go_wp2_with fail
                refine C.out.mono ?_
                rintro e w2 ⟨l2, G2, rfl, hp, hi, ht, hkq⟩
                obtain ⟨id, hid⟩ : ∃ k, k = l2.headD 0 := ⟨_, rfl⟩
                rw [← hid]
                have HID := hidm hid
                have HPR2 := hidm ((hkq Bx HQB.out).trans HPR.out)
                obtain ⟨w3, hw3⟩ : ∃ z, z = w2.alloc (.cells #[.int .i64 (id : Int)] 3) := ⟨_, rfl⟩
                have hb3 : Below w2.heap.size w2 w3 := by rw [hw3]; exact (Below.refl _ _).alloc (Nat.le_refl _) _
                have HCQ := hidm (show w3.cell? ⟨w2.heap.size, 0, none⟩ = some (.int .i64 (id : Int)) from by rw [hw3, cell_of_row _ _ 0 _ _ (0, 0) (heap_alloc_last w2 _)]; rfl)
                have HP3 := hidm (hp.later hb3)
                have HI3 := hidm (hi.keep (hp.kept hb3))
                have HT3 := hidm (ht.keep (hp.kept hb3))
                have HPR3 := hidm (hp.kept hb3 Bx HQB.out |>.trans HPR2.out)
                clear hid hkq hp hi ht hb3 C HPR2
                subst hw3
                go_upto_region 16 with fail
                go_wp2_with (at_builtin; refine wpList_row rfl _ _ rfl rfl (.int .i64 (id : Int)) w2.heap.size 1 rfl Tryz.underlying27 Dsk.infoI rfl (by decide) HI3.out rfl HCQ.out ?TA ?TB ?_)
                case TA => have := HA.out; have := HIK.out; rw [idsV_len]; omega
                case TB => have := HP3.out.g.qlt B HP3.out.g.inq; omega
                intro v' w6 hown hgrow
                obtain ⟨so, sc, hvv, _, _⟩ := hown.form
                rw [List.length_append, List.length_singleton, idsV_len, HA.out] at hvv
                obtain ⟨m2, hm2⟩ : ∃ x, x = m + 1 := ⟨_, rfl⟩
                rw [← hm2] at hvv
                subst hvv
                have HM2 := hidm hm2
                have hP6 := HP3.out.grown HI3.out hgrow
                rw [show (w2.alloc (.cells #[.int .i64 (id : Int)] 3)).heap.size = w2.heap.size + 1 from by simp] at hP6
                have hT6 := (HT3.out.grown HI3.out tne hgrow)
                have hPR6 := (hgrow.block Bx (HP3.out.g.qlt Bx HQB.out) (HI3.out.off HPR3.out one1)).trans HPR3.out
                obtain ⟨Q6, hQ6⟩ : ∃ Q6 : Nat → Prop, Q6 = fun k => Q1 k ∨ (w2.heap.size + 1 ≤ k ∧ k < w6.heap.size) := ⟨_, rfl⟩
                rw [← hQ6] at hown hP6
                have hQ66 : ∀ k, Q1 k → Q6 k := fun k h => by rw [hQ6]; exact .inl h
                have hT6 := hT6.mono hQ66
                have HQB6 := hidm (hQ66 Bx HQB.out)
                have HPR6 := hidm hPR6
                obtain ⟨w7, hw7⟩ : ∃ z, z = w6.alloc (.cells #[.string xs] 9) := ⟨_, rfl⟩
                have hb7 : Below w6.heap.size w6 w7 := by rw [hw7]; exact (Below.refl _ _).alloc (Nat.le_refl _) _
                have HCT := hidm (show w7.cell? ⟨w6.heap.size, 0, none⟩ = some (.string xs) from by rw [hw7, cell_of_row _ _ 0 _ _ (0, 0) (heap_alloc_last w6 _)]; rfl)
                have HP7 := hidm (hP6.later hb7)
                have HI7 := hidm (hown.keep (hP6.kept hb7))
                have HT7 := hidm (hT6.keep (hP6.kept hb7))
                clear hown hgrow hP6 hT6 hPR6 hQ6 hQ66 hb7 hm2 HP3 HI3 HT3 HPR3 HCQ p0 p2
                subst hw7
                have p2 := cell_of_row w6 Bx 2 _ _ (0, 0) HPR6.out
                go_upto_region 17 with fail
                go_wp2_with (at_builtin; refine wpList_row rfl _ _ rfl rfl (.string xs) w6.heap.size 1 rfl Tryz.underlying28 infoT rfl (by decide) HT7.out rfl HCT.out ?TC ?TD ?_)
                case TC => have := HA.out; have := HIK.out; rw [allV_len]; omega
                case TD => have := HP7.out.g.qlt B HP7.out.g.inq; omega
                intro v'' w9 hown hgrow
                obtain ⟨so2, sc2, hvv, _, _⟩ := hown.form
                rw [List.length_append, List.length_singleton, allV_len, HA.out, ← HM2.out] at hvv
                subst hvv
                have hP9 := HP7.out.grown HT7.out hgrow
                rw [show (w6.alloc (.cells #[.string xs] 9)).heap.size = w6.heap.size + 1 from by simp] at hP9
                have HFIN := hidm (show St w B P L D m2 rr (.slice so m2 sc) (.slice so2 m2 sc2) w9 from
                  ⟨_, G2, x0, R0, A ++ [(l2, xs.data.toList)], ⟨hP9, K1.out.rt, by
                    rw [idsV_snoc, show Rec.id (l2, xs.data.toList) = id from HID.out.symm]
                    exact (HI7.out.grown HT7.out tne2 hgrow).mono (fun _ h => .inl h), by
                    rw [allV_snoc, show S (Prod.snd ((l2, xs.data.toList) : Rec)) = xs from S_of xs]
                    exact hown⟩, by rw [List.length_append, HA.out, HM2.out]; rfl, HR.out⟩)
                clear hown hgrow hP9 HP7 HI7 HT7 p2 HCT
                go_wp2_with fail
                go_meet
                exact ⟨so, so2, m2, sc, sc2, rr, rfl, rfl, rfl, by have := HIK.out; have := HI2.out; have := HM2.out; omega, HFIN⟩
              · have C := K1.out.hp.put_no xs.data.toList (by rw [Dsk.len_eq]; omega) (by omega)
                rw [S_of] at C
                have C := hidm C
                clear hf
                go_wp2_with fail
                refine C.out.mono ?_
                rintro e w2 ⟨rfl, hb⟩
                have HFIN := hidm (show St w B P L D m rr (.slice io m ic) (.slice ao m ac) w2 from ⟨Q1, G, x0, R0, A, K1.out.later hb, HA.out, HR.out⟩)
                clear hb C
                go_wp2_with fail
                go_meet
                exact ⟨io, ao, m, ic, ac, rr, rfl, rfl, rfl, by have := HIK.out; have := HI2.out; omega, HFIN⟩
            · by_cases hk2 : xk = 2
              · subst hk2
                rcases Nat.eq_zero_or_pos m with hm0 | hpos
                · have g3 : ¬ (0 : Int) < (m : Int) := by omega
                  have g3n : ¬ 0 < m := by omega
                  clear hm0
                  go_wp2_with fail
                  go_meet
                  exact ⟨io, ao, m, ic, ac, rr, rfl, rfl, rfl, by have := HIK.out; have := HI2.out; omega, hidm ⟨Q1, G, x0, R0, A, K1.out, HA.out, HR.out⟩⟩
                · have g3 : (0 : Int) < (m : Int) := by omega
                  obtain ⟨gi, ci, hvi, hlei, _, _, _, _⟩ := K1.out.i.held (by rw [idsV_len, HA.out]; exact hpos)
                  obtain ⟨ga, ca, hva, hlea, _, _, _, _⟩ := K1.out.t.held (by rw [allV_len, HA.out]; exact hpos)
                  rw [idsV_len, HA.out] at hvi hlei
                  rw [allV_len, HA.out] at hva hlea
                  simp only [Value.slice.injEq] at hvi hva
                  obtain ⟨rfl, -, rfl⟩ := hvi
                  obtain ⟨rfl, -, rfl⟩ := hva
                  have HLE := hidm (show m ≤ ic ∧ m ≤ ac from ⟨hlei, hlea⟩)
                  obtain ⟨y, hy⟩ : ∃ y, y = (xp % 65536).toNat := ⟨_, rfl⟩
                  have fy : bits .and .i64 xp 65535 = (y : Int) := by rw [i64_and65535, hy]; omega
                  obtain ⟨k, hk⟩ : ∃ k, k = y % m := ⟨_, rfl⟩
                  have fk : ((y : Int).tmod (m : Int)) = (k : Int) := by rw [hk]; exact tmod_nat2 y m
                  have hkm : k < m := by rw [hk]; exact Nat.mod_lt _ hpos
                  have fkw : IntKind.i64.wrap (k : Int) = (k : Int) := by have := HIK.out; simp only [IntKind.wrap_i64]; omega
                  have hmne : ((m : Int) == 0) = false := by simp; omega
                  have HKM := hidm hkm
                  have HPOS := hidm hpos
                  have p1 := cell_of_row wP Bx 1 _ _ (0, 0) HPR.out
                  clear hlei hlea hy hk hkm hpos
                  go_upto_region 21 with fail
                  clear p1 fy fk fkw hmne g3 p0 p2
                  have hkA : k < A.length := by rw [HA.out]; exact HKM.out
                  have f1 : (k : Int) < (m : Int) := by have := HKM.out; omega
                  have a1 := (K1.out.i.at k (by rw [idsV_len]; exact hkA)).1
                  rw [idsV_at A k hkA] at a1
                  obtain ⟨id, hid⟩ : ∃ x, x = (A[k]).id := ⟨_, rfl⟩
                  rw [← hid] at a1
                  have C := K1.out.drop k hkA id hid.symm
                  obtain ⟨rl, hrl⟩ : ∃ r, r = A[A.length - 1]'(by omega) := ⟨_, rfl⟩
                  rw [← hrl] at C
                  have HRL := hidm hrl
                  have HKA := hidm hkA
                  have C := hidm C
                  clear hid hrl
                  go_wp2_with fail
                  refine C.out.mono ?_
                  rintro e w2 ⟨rfl, G2, hp, hi, ht⟩
                  have HP2 := hidm hp
                  have HRI2 := hidm hi
                  have HRT2 := hidm ht
                  clear hp hi ht C a1
                  go_upto_region 23 with fail
                  obtain ⟨m1, hm1⟩ : ∃ x, x = m - 1 := ⟨_, rfl⟩
                  have HM1 := hidm (show m = m1 + 1 from by have := HPOS.out; omega)
                  have e3 : (m : Int) - 1 = (m1 : Int) := by have := HPOS.out; omega
                  have e3w : IntKind.i64.wrap (m1 : Int) = (m1 : Int) := by have := HIK.out; simp only [IntKind.wrap_i64]; omega
                  have f3 : (m1 : Int) < (m : Int) := by omega
                  have a2 := HRI2.out.at k (by rw [idsV_len]; exact HKA.out)
                  obtain ⟨a2, z2⟩ := a2
                  rw [idsV_at A k HKA.out] at a2
                  have a3 := (HRI2.out.at (A.length - 1) (by rw [idsV_len]; have := HKA.out; omega)).1
                  rw [idsV_at A (A.length - 1) (by have := HKA.out; omega), ← HRL.out, show A.length - 1 = m1 from by rw [HA.out, hm1]] at a3
                  obtain ⟨id3, hid3⟩ : ∃ x, x = rl.id := ⟨_, rfl⟩
                  rw [← hid3] at a3
                  have HID3 := hidm hid3
                  obtain ⟨id2, hid2⟩ : ∃ x, x = (A[k]'HKA.out).id := ⟨_, rfl⟩
                  rw [← hid2] at a2
                  clear hm1 hid3 hid2
                  go_upto_region 24 with fail
                  clear a2 z2 a3
                  have hp := HP2.out.stored HRI2.out k (.int .i64 (id3 : Int))
                  have hi := HRI2.out.set k (.int .i64 (id3 : Int))
                  have ht := HRT2.out.beside HRI2.out tne k (.int .i64 (id3 : Int))
                  obtain ⟨w3, hw3⟩ : ∃ z, z = w2.setCell ⟨gi, k, none⟩ (.int .i64 (id3 : Int)) := ⟨_, rfl⟩
                  rw [← hw3] at hp hi ht ⊢
                  have HP3 := hidm hp
                  have HRI3 := hidm hi
                  have HRT3 := hidm ht
                  clear hp hi ht hw3 HP2 HRI2 HRT2
                  obtain ⟨a2, z2⟩ := HRT3.out.at k (by rw [allV_len]; exact HKA.out)
                  rw [allV_at A k HKA.out] at a2
                  have a3 := (HRT3.out.at (A.length - 1) (by rw [allV_len]; have := HKA.out; omega)).1
                  rw [allV_at A (A.length - 1) (by have := HKA.out; omega), ← HRL.out, show A.length - 1 = m1 from by rw [HA.out]; have := HM1.out; omega] at a3
                  obtain ⟨T3, hT3⟩ : ∃ x, x = S rl.2 := ⟨_, rfl⟩
                  rw [← hT3] at a3
                  have HT3 := hidm hT3
                  obtain ⟨T2, hT2⟩ : ∃ x, x = S (A[k]'HKA.out).2 := ⟨_, rfl⟩
                  rw [← hT2] at a2
                  clear hT3 hT2
                  go_upto_region 25 with fail
                  clear a2 z2 a3
                  have hp := HP3.out.stored HRT3.out k (.string T3)
                  have ht := HRT3.out.set k (.string T3)
                  have hi := HRI3.out.beside HRT3.out tne2 k (.string T3)
                  obtain ⟨w4, hw4⟩ : ∃ z, z = w3.setCell ⟨ga, k, none⟩ (.string T3) := ⟨_, rfl⟩
                  rw [← hw4] at hp hi ht ⊢
                  have HFIN := hidm (show St w B P L D m1 rr (.slice (some ⟨gi, 0, none⟩) m1 ic) (.slice (some ⟨ga, 0, none⟩) m1 ac) w4 from
                    ⟨Q1, G2, x0, R0, (A.set k rl).dropLast, ⟨hp, K1.out.rt, by
                      have h1 := hi.cut
                      rw [show m - 1 = m1 from by have := HM1.out; omega, HID3.out, ← idsV_cut] at h1
                      exact h1, by
                      have h1 := ht.cut
                      rw [show m - 1 = m1 from by have := HM1.out; omega, HT3.out, ← allV_cut] at h1
                      exact h1⟩, by rw [List.length_dropLast, List.length_set, HA.out]; have := HM1.out; omega, HR.out⟩)
                  clear hp hi ht hw4 HP3 HRI3 HRT3
                  have hi1 : (m1 : Int) ≤ (ic : Int) := by have := HLE.out; omega
                  have ha1 : (m1 : Int) ≤ (ac : Int) := by have := HLE.out; omega
                  have hi2n : m1 ≤ ic := by have := HLE.out; omega
                  have ha2n : m1 ≤ ac := by have := HLE.out; omega
                  have hic : ic ≠ 0 := by have := HLE.out; have := HPOS.out; omega
                  have hac : ac ≠ 0 := by have := HLE.out; have := HPOS.out; omega
                  go_wp2_with fail
                  go_meet
                  exact ⟨some ⟨gi, 0, none⟩, some ⟨ga, 0, none⟩, m1, ic, ac, rr, rfl, rfl, rfl, by have := HIK.out; have := HI2.out; have := HM1.out; omega, HFIN⟩
              · by_cases hk3 : xk = 3
                · subst hk3
                  by_cases hf : need xs.data.toList.length + 2 + (pgs (R0 ++ A)).length ≤ 100
                  · have C := K1.out.set xs.data.toList (by rw [Dsk.len_eq]; omega) hf
                    rw [S_of] at C
                    have C := hidm C
                    clear hf
                    go_wp2_with fail
                    refine C.out.mono ?_
                    rintro e w2 ⟨l2, G2, rfl, hl2, hk2, hkq⟩
                    have HK2 := hidm hk2
                    have HPR2 := hidm ((hkq Bx HQB.out).trans HPR.out)
                    have C2 := hk2.hp.need xs.size (by omega)
                    obtain ⟨nd, hnd⟩ : ∃ x, x = need xs.size := ⟨_, rfl⟩
                    rw [← hnd] at C2
                    have C2 := hidm C2
                    have HL2 := hidm (show l2.length = nd from by rw [hl2, hnd, Dsk.len_eq])
                    clear hl2 hk2 hkq hnd C p0 p2
                    have p2 := cell_of_row w2 Bx 2 _ _ (0, 0) HPR2.out
                    go_wp2_with fail
                    refine C2.out.mono ?_
                    rintro e wz ⟨rfl, hwz⟩
                    cases hwz
                    clear C2 p2
                    have HFIN := hidm (show St w B P L D m nd (.slice io m ic) (.slice ao m ac) w2 from ⟨Q1, G2, _, _, A, HK2.out, HA.out, by show (l2 ++ []).length = nd; rw [List.append_nil]; exact HL2.out⟩)
                    go_wp2_with fail
                    go_meet
                    exact ⟨io, ao, m, ic, ac, nd, rfl, rfl, rfl, by have := HIK.out; have := HI2.out; omega, HFIN⟩
                  · have C := K1.out.set_no xs.data.toList (by rw [Dsk.len_eq]; omega) (by omega)
                    rw [S_of] at C
                    have C := hidm C
                    clear hf
                    go_wp2_with fail
                    refine C.out.mono ?_
                    rintro e w2 ⟨rfl, hb⟩
                    have HFIN := hidm (show St w B P L D m rr (.slice io m ic) (.slice ao m ac) w2 from ⟨Q1, G, x0, R0, A, K1.out.later hb, HA.out, HR.out⟩)
                    clear hb C
                    go_wp2_with fail
                    go_meet
                    exact ⟨io, ao, m, ic, ac, rr, rfl, rfl, rfl, by have := HIK.out; have := HI2.out; omega, HFIN⟩
                · have g3 : (xk == 0) = false := by simpa using hk0
                  have g4 : (xk == 2) = false := by simpa using hk2
                  have g5 : (xk == 3) = false := by simpa using hk3
                  clear hk0 hk2 hk3
                  go_wp2_with fail
                  go_meet
                  exact ⟨io, ao, m, ic, ac, rr, rfl, rfl, rfl, by have := HIK.out; have := HI2.out; omega, hidm ⟨Q1, G, x0, R0, A, K1.out, HA.out, HR.out⟩⟩
          case rest =>
            rename World => wm
            clear p0 p2 HPR HQB K1 HA HR g2
            obtain ⟨io2, ao2, m2, ic2, ac2, r2, rfl, rfl, rfl, hm2, HX⟩ := hcut
            obtain ⟨Q2, G2, x2, R2, A2, hk2, hA2, hR2⟩ := HX.out
            have HK2 := hidm hk2
            have HA2 := hidm hA2
            have HR2 := hidm hR2
            have HM2 := hidm hm2
            have HFREE := hidm (show 2 + r2 + (pgs A2).length ≤ 100 from by
              have h1 := hk2.hp.h.free
              rw [pgs_app, hR2] at h1
              omega)
            have HPG := hidm (show (pgs (R2 ++ A2)).length = r2 + (pgs A2).length from by rw [pgs_app, hR2])
            obtain ⟨u0, hu0⟩ : ∃ x, x = 2 + r2 := ⟨_, rfl⟩
            have e4 : 2 + (r2 : Int) = (u0 : Int) := by omega
            have e4w : IntKind.i64.wrap (u0 : Int) = (u0 : Int) := by have := HFREE.out; simp only [IntKind.wrap_i64]; omega
            have HU0 := hidm hu0
            clear hk2 hA2 hR2 hm2 HX hu0
            go_upto_block 3 with fail
            clear e4 e4w
            go_cut [13, 14] (fun uu _ wx => ∃ u : Nat, uu = .int .i64 (u : Int) ∧ Hid (u = 2 + r2 + (pgs A2).length ∧ Below wm.heap.size wm wx))
            case first =>
              go_wp2_with fail
              go_loopw [13, 14] (fun uu kk wx => ∃ (j u : Nat), kk = .int .i64 (j : Int) ∧ uu = .int .i64 (u : Int) ∧ j ≤ m2 ∧ Hid (u = 2 + r2 + (pgs (A2.take j)).length ∧ Below wm.heap.size wm wx)) (fun _ kk _ => m2 - (intOf kk).toNat)
              case atStart => exact ⟨0, u0, rfl, rfl, by omega, hidm ⟨by rw [HU0.out]; simp [pgs], Below.refl _ _⟩⟩
              case round =>
                rename World => wx
                obtain ⟨j, u, rfl, rfl, hj, HU⟩ := hrel
                rcases Nat.lt_or_ge j m2 with hlt | hge
                · have f1 : (j : Int) < (m2 : Int) := by omega
                  have hjA : j < A2.length := by rw [HA2.out]; exact hlt
                  have HKX := hidm (HK2.out.later HU.out.2)
                  obtain ⟨gi, ci, hvi, _, _, _, _, _⟩ := HK2.out.i.held (by rw [idsV_len]; omega)
                  obtain ⟨ga, ca, hva, _, _, _, _, _⟩ := HK2.out.t.held (by rw [allV_len]; omega)
                  simp only [Value.slice.injEq] at hvi hva
                  obtain ⟨rfl, -, rfl⟩ := hvi
                  obtain ⟨rfl, -, rfl⟩ := hva
                  have a1 := (HKX.out.i.at j (by rw [idsV_len]; exact hjA)).1
                  have a2 := (HKX.out.t.at j (by rw [allV_len]; exact hjA)).1
                  rw [idsV_at A2 j hjA] at a1
                  rw [allV_at A2 j hjA] at a2
                  have htk := pgs_take A2 j hjA
                  obtain ⟨rj, hrj⟩ : ∃ r, r = A2[j] := ⟨_, rfl⟩
                  have hmem : rj ∈ R2 ++ A2 := by rw [hrj]; exact List.mem_append.2 (.inr (List.getElem_mem hjA))
                  rw [← hrj] at a1 a2 htk
                  obtain ⟨id, hid⟩ : ∃ x, x = rj.id := ⟨_, rfl⟩
                  have C := HKX.out.hp.get hmem id hid.symm
                  have HPT := HKX.out.hp.part hmem
                  obtain ⟨T, hT⟩ : ∃ x, x = S rj.2 := ⟨_, rfl⟩
                  rw [← hT] at a2 C
                  rw [← hid] at a1
                  obtain ⟨sl, hsl⟩ : ∃ x, x = rj.2.length := ⟨_, rfl⟩
                  have hsz : T.size = sl := by rw [hT, S_size, hsl]
                  obtain ⟨nd, hnd⟩ : ∃ x, x = need sl := ⟨_, rfl⟩
                  have HND := hidm (show rj.1.length = nd from by rw [hnd, hsl]; exact HPT.1)
                  have hsl9 : sl ≤ 100000 := by
                    have h1 := HPT.1
                    have h2 : rj.1.length ≤ (pgs A2).length := by
                      have h3 := pgs_take A2 j hjA
                      rw [← hrj] at h3
                      have h4 : (pgs (A2.take (j + 1))).length ≤ (pgs A2).length := by
                        have h5 := pgs_app (A2.take (j + 1)) (A2.drop (j + 1))
                        rw [List.take_append_drop] at h5
                        omega
                      omega
                    have h3 := HFREE.out
                    unfold need at h1
                    omega
                  have hle : u + nd ≤ 100 := by
                    have h4 : (pgs (A2.take (j + 1))).length ≤ (pgs A2).length := by
                      have h5 := pgs_app (A2.take (j + 1)) (A2.drop (j + 1))
                      rw [List.take_append_drop] at h5
                      omega
                    have h3 := HFREE.out
                    have h6 := HU.out.1
                    have h7 := HND.out
                    omega
                  have HB2 := hidm (fun (z : World) (hb : Below wx.heap.size wx z) => (HKX.out.hp.later hb))
                  have HN := hidm (show ∀ z, Below wx.heap.size wx z → Calls Tryz.prog 12 #[.pointer (some ⟨B, 0, none⟩), .int .i64 (sl : Int)] z fun e w' => e = .returned (.int .i64 (nd : Int)) ∧ z = w' from fun z hb => by
                    rw [hnd]; exact (HKX.out.hp.later hb).need sl hsl9)
                  obtain ⟨u2, hu2⟩ : ∃ x, x = u + nd := ⟨_, rfl⟩
                  have e5 : (u : Int) + (nd : Int) = (u2 : Int) := by omega
                  have e5w : IntKind.i64.wrap (u2 : Int) = (u2 : Int) := by simp only [IntKind.wrap_i64]; omega
                  obtain ⟨j2, hj2⟩ : ∃ x, x = j + 1 := ⟨_, rfl⟩
                  have e6 : (j : Int) + 1 = (j2 : Int) := by omega
                  have e6w : IntKind.i64.wrap (j2 : Int) = (j2 : Int) := by have := HM2.out; have := HIK.out; have := HI2.out; simp only [IntKind.wrap_i64]; omega
                  have HU2 := hidm (show u2 = 2 + r2 + (pgs (A2.take j2)).length from by rw [hj2, htk, hu2, HU.out.1, HND.out]; omega)
                  have HJ2 := hidm (show j2 = j + 1 ∧ j2 ≤ m2 from ⟨hj2, by omega⟩)
                  have HA3 := hidm (show ∀ z, Below wx.heap.size wx z → z.cell? ⟨ga, j, none⟩ = some (.string T) from fun z hb => cell_later hb a2)
                  have C := hidm C
                  clear hle hsl9 hnd hsl hT hid hmem hrj htk HPT hu2 hj2 hjA hj HB2
                  go_wp2_with fail
                  refine C.out.mono ?_
                  rintro e w3 ⟨rfl, hb⟩
                  have HBX := hidm hb
                  have a3 := HA3.out w3 hb
                  have C2 := hidm (HN.out w3 hb)
                  clear hb a1 a2 C
                  go_wp2_with fail
                  refine C2.out.mono ?_
                  rintro e wz ⟨rfl, hwz⟩
                  cases hwz
                  clear C2
                  go_wp2_with fail
                  go_roundw
                  case rel => exact ⟨j2, u2, rfl, rfl, HJ2.out.2, hidm ⟨HU2.out, HU.out.2.trans (HBX.out.mono HU.out.2.size)⟩⟩
                  case measure => have := HJ2.out; simp [intOf]; omega
                · obtain rfl : j = m2 := by omega
                  have f1 : ¬ (j : Int) < (j : Int) := by omega
                  have HFIN := hidm (show ∃ u' : Nat, Value.int .i64 (u : Int) = .int .i64 (u' : Int) ∧ Hid (u' = 2 + r2 + (pgs A2).length ∧ Below wm.heap.size wm wx) from ⟨u, rfl, hidm ⟨by have h1 := HU.out.1; rw [List.take_of_length_le (by rw [HA2.out]; omega)] at h1; exact h1, HU.out.2⟩⟩)
                  clear hj
                  go_wp2_with fail
                  go_meet
                  exact HFIN.out
            case rest =>
            rename World => wn
            obtain ⟨u, rfl, HU⟩ := hcut
            have C := (HK2.out.later HU.out.2).hp.frees
            obtain ⟨fd, hfd⟩ : ∃ x, x = 100 - u := ⟨_, rfl⟩
            have HUU := HU.out.1
            have HFR9 := HFREE.out
            rw [show 100 - (2 + (pgs (R2 ++ A2)).length) = fd from by rw [HPG.out, hfd]; omega] at C
            have k1 : 100 - (u : Int) = (fd : Int) := by omega
            have k2 : IntKind.i64.wrap (fd : Int) = (fd : Int) := by simp only [IntKind.wrap_i64]; omega
            have k3 : ((fd : Int) != (fd : Int)) = false := by simp
            have C := hidm C
            clear hfd HUU HFR9
            go_wp2_with fail
            refine C.out.mono ?_
            rintro e w5 ⟨rfl, hb⟩
            have HFIN := hidm (show St w B P L D m2 r2 (.slice io2 m2 ic2) (.slice ao2 m2 ac2) w5 from ⟨Q2, G2, x2, R2, A2, (HK2.out.later HU.out.2).later hb, HA2.out, HR2.out⟩)
            clear hb C
            go_wp2_with fail
            go_roundw
            case rel => exact ⟨io2, ao2, m2, ic2, ac2, r2, i2, rfl, rfl, rfl, rfl, HIK.out.1, HIK.out.2.1, HM2.out, HFIN⟩
            case measure => have := HI2.out; simp [intOf]; omega
      · have HE := hidm (show Below w.heap.size w wr from by
          obtain ⟨Q, G, x0, R0, A, hk, _, _⟩ := HX.out
          exact hk.hp.bel)
        rcases Nat.lt_or_ge i ll with hlt2 | hge
        · obtain rfl : i = 40 := by omega
          have f1 : (40 : Int) < (ll : Int) := by omega
          clear hlt hi2 HX
          go_wp2_with fail
          go_meet
          exact HE
        · obtain rfl : i = ll := by omega
          have f1 : ¬ (i : Int) < (i : Int) := by omega
          clear hlt hi2 HX
          go_wp2_with fail
          go_meet
          exact HE
  case rest =>
  rename World => wc
  have HB1 := hidm hcut.out
  clear hcut H1
  go_wp2_with fail
  refine (known_any _).mono ?_
  rintro e wk ⟨rfl, hb⟩
  have HB := hidm (HB1.out.trans (hb.mono HB1.out.size))
  clear hb
  go_wp2_with fail
  go_ret
  exact ⟨by trivial, HB.out⟩
theorem laidOut : laidOutB Tryz.prog = true := by kernel_rfl
set_option maxRecDepth 100000 in
theorem contract (H : Type) (enc : TypeId × Value → H) (W : World) (base : Nat) (args : Array Value) (ds gs : List (DataW H)) (before : List MemPlace)
    (hval : ∀ (j : Nat) t v, Tryz.f3.params[j]? = some t → args[j]? = some v → Value.okWide Tryz.prog W .any base t v)
    (hW : DataW.Whole enc Tryz.prog Tryz.f3.params.toList Rows.heapKeepsSpec.vars false W args.toList ds gs before) :
    Calls Tryz.prog 3 args W fun e W' => ∃ v, e = .returned v ∧ Rows.heapKeepsSpec.post enc Tryz.prog Tryz.f3 false true false false W args v W' := by
  have hW' := hW
  obtain ⟨p, q, hA0, hV, rfl, hfz, hnd⟩ := hW
  have hA : DataW.TrodAll enc Tryz.prog W 0 (fun _ => true) true Tryz.f3.params.toList args.toList ds p := hA0
  rw [Tryz.params3] at hA hval
  obtain ⟨v0, vs0, d0, ds0, p0, q0, hargs, rfl, rfl, h0, r0⟩ := trodAll_cons hA
  obtain ⟨rfl, rfl, rfl⟩ := trodAll_nil r0
  obtain rfl : args = #[v0] := by cases args; simp_all
  obtain ⟨rfl, rfl⟩ := trodVars_none hV
  obtain ⟨l, hml⟩ := Hep.open_ops (hval 0 22 v0 rfl rfl) h0
  clear hA0
  simp only [List.append_nil] at hW'
  have hlt : ∀ x ∈ p0, x.block < W.heap.size := fun x hx => hW'.lt x (by simpa using hx)
  have walk := law_any l _ W hml
  refine walk.mono fun e W' ⟨he, hg⟩ => ?_
  subst he
  refine ⟨_, rfl, Fr.post_made (pa := p0) (pv := []) hW' (fun _ _ _ => trodAll_cons_mk (shut_bool Tryz.underlying4 _) trodAll_mk0) (fun sp hsp => ?_) (fun _ _ => rfl) (by simp) hg (ok_one (by kernel_rfl) rfl (okWide_bool_mk Tryz.underlying4 _))⟩
  have g0 : DataW.Trod enc Tryz.prog W' 0 sp true 22 _ d0 p0 := WideElems.Trod_stays laidOut (by kernel_rfl) (of_decide_eq_true (by kernel_rfl)) h0 (fun x hx => hg.same (hlt x (by simp [hx]))) (fun x hx => hsp x (by simp [hx]))
  have hT := (trodAll_cons_mk g0 trodAll_mk0)
  simp only [List.append_nil] at hT
  exact hT
set_option maxRecDepth 100000 in
theorem reads (os : Os) {H : Type} (enc : TypeId × Value → H) : ∃ places, DataW.whole enc Tryz.prog ((World.laidAll Tryz.prog os Rows.heapKeepsRow.laid).forCall (fun _ _ => 0) ⟨#[], #[.slice none 0 0], []⟩).memory Tryz.f3.params.toList Rows.heapKeepsSpec.vars false (#[.slice none 0 0] : Array Value).toList 8 = some ([.nil], [], places) :=
  ⟨[], by kernel_rfl⟩
set_option maxRecDepth 100000 in
theorem lifted (os : Os) (started : os.Started) (H : Type) (enc : TypeId × Value → H) (F : Stop.Interp) :
    ReturnsInHanded {} Tryz.checked os 3 .any ((OpenSpec.ofChange Rows.heapKeepsSpec).preRow enc Tryz.prog Tryz.f3 Rows.heapKeepsRow.domain false Rows.heapKeepsRow.laid) (((OpenSpec.ofChange Rows.heapKeepsSpec).at F).post enc Tryz.prog Tryz.f3 false true false false) := by
  obtain ⟨places, hx⟩ := reads os enc
  refine returnsInHanded_of_row (C := Tryz.checked) (s := OpenSpec.ofChange Rows.heapKeepsSpec) Fr.own started (by kernel_rfl) Tryz.func3
    (Fr.wit (World.laidAll Tryz.prog os Rows.heapKeepsRow.laid) #[.slice none 0 0] (World.laidAll_os _ _ _) (World.shaped_of_ZipB (by kernel_rfl) (by kernel_rfl)) (by kernel_rfl)
      (OpenSpec.preRow_of_cond 8 hx (by kernel_rfl) (fun k hk => by cases hk) (by kernel_rfl) (laidMet_laidAll _ (by kernel_rfl) (by kernel_rfl)))) ?_
  intro W base args ds gs before hval hW _ _ _ _ _ _
  exact contract H enc W base args ds gs before hval hW
set_option maxRecDepth 100000 in
theorem said : Rows.HeapKeepsSaid :=
  OpenClaim.holds_of_cond 3 Tryz.f3 rfl rfl rfl rfl rfl rfl rfl ⟨rfl, rfl, rfl, rfl, rfl⟩ rfl rfl rfl rfl rfl (by kernel_rfl) Tryz.func3 (by kernel_rfl)
    (of_decide_eq_true (by kernel_rfl)) (by unfold Func.isWrapper; first | (rw [if_pos (by decide +kernel)]; kernel_rfl) | (rw [if_neg (by decide +kernel)]; exact ⟨rfl, rfl⟩))
    (fun os started H enc _ F => by rw [OpenClaim.pre_eq_preRow]; exact lifted os started H enc F)
set_option maxRecDepth 100000 in
theorem plain (f : FuncId) (fn : Func) (hf : Tryz.pinned.checked.prog.funcNamed "memoir/memoirlaw10.HeapKeeps" = some f) (hfn : Tryz.pinned.checked.prog.funcs[f]? = some fn) :
    true = Tryz.pinned.checked.prog.looks [] ∧ ∀ (j : Nat) t, fn.params[j]? = some t → Tryz.pinned.checked.prog.wantsStandIn t = false := by
  obtain rfl : f = 3 := Option.some.inj ((show Tryz.prog.funcNamed "memoir/memoirlaw10.HeapKeeps" = some 3 by kernel_rfl).symm.trans hf) |>.symm
  obtain rfl : fn = Tryz.f3 := (Option.some.inj (Tryz.func3.symm.trans hfn)).symm
  refine ⟨by kernel_rfl, fun j t ht => ?_⟩
  rw [Tryz.params3] at ht
  have hm := Array.mem_of_getElem? ht
  simp only [List.mem_toArray, List.mem_cons, List.not_mem_nil, or_false] at hm
  subst hm
  all_goals first | exact (show Tryz.prog.wantsStandIn 22 = false by kernel_rfl)
set_option maxRecDepth 100000 in
theorem card : Rows.HeapKeepsCardSaid :=
  Claim7.holds_tied_plain_at .later [] _ _ _ _ said (fun _ h => by cases h) (by kernel_rfl) (fun _ h => by cases h) heapKeeps_row_tie rfl ⟨rfl, rfl⟩ (by kernel_rfl) rfl plain (by kernel_rfl)
end LaHeapKeeps
end Go.Proofs.YtmccnlffikegfaaGreatDoor
