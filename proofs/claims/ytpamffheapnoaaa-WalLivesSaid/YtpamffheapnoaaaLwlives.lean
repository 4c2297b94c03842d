/- WalLives is proved: for every script the law returns true and its argument reads as it did. No other condition. -/
import Derived.Test.YtpamffheapnoaaaWz
import Derived.Test.YtpamffheapnoaaaWo
import Derived.Test.YtpamffheapnoaaaFra
import Derived.WideKeyPair
import Derived.SizedLaws
namespace Go.Proofs.Ytpamffheapnoaaa
open Go.ChangeShapes Go.WideShapes Go.ChangeAt Go.RowKit
open Go.ChangeMaps (open_string shut_string)
namespace LaWalLives
open Wal
open Dsk (PD Mine KeepQ DiskIs Only Grow upd pad BoolsAt NotGiven)
open Crc (S S_of S_size S_append S_add hidm)
open Dsk (open_ops open_bools OpsAt Opv)
theorem own0 {w : World} {base : Nat} {v : Value} {n : Nat} {xs : List Value} (h : w.ownsRow base 9 1 v n xs) : w.ownsRow 0 9 1 v n xs := by
  refine ⟨h.1, ?_⟩
  rcases h.2 with h2 | ⟨g, c, cur, hv, hg, rest⟩
  · exact .inl h2
  · exact .inr ⟨g, c, cur, hv, Nat.zero_le _, rest⟩
theorem first_take (A B : List R) (m : Nat) : ((A ++ B).map Prod.snd).take (A ++ B.take m).length = (A ++ B.take m).map Prod.snd := by
  rw [← List.map_take]
  congr 1
  rw [List.length_append, List.take_append, List.take_of_length_le (by omega)]
  congr 1
  rw [Nat.add_sub_cancel_left, List.length_take]
  rcases Nat.le_total m B.length with h | h
  · rw [Nat.min_eq_left h]
  · rw [Nat.min_eq_right h, List.take_of_length_le h, List.take_of_length_le (Nat.le_refl _)]
def opCells (x : Opv) : Array Value := #[.int .i64 x.kind, .int .i64 x.pos, .string x.s, .slice x.ko x.ks.length x.kc]
set_option maxHeartbeats 16000000 in
set_option maxRecDepth 100000 in
theorem law_any (l : List Opv) (v0 : Value) (w : World) (hl : OpsAt l v0 w) :
    Calls Try.prog 7 #[v0] w fun e w' => e = .returned (.bool true) ∧ Below w.heap.size w w' := by
  have N0 := hidm (Dsk.m_new (W := w) (w := w) 40 (by omega) (by omega) (Below.refl _ _))
  obtain ⟨i0, hi0, hz0, hz1, hz2⟩ := info_parts infoS
  obtain ⟨lo, lc, rfl, hlc, hlm⟩ := hl.form
  obtain ⟨ll, hll⟩ : ∃ ll, ll = l.length := ⟨_, rfl⟩
  have HLL := hidm hll
  have HSL := hidm hl
  rw [← hll]
  have hll2 : ll ≤ 9223372036854775807 := by omega
  clear hl hll hlc hlm
  go_enter Try.func7, Try.ntmps7
  go_wp2_with fail
  refine N0.out.mono ?_
  rintro e w1 ⟨rfl, hm1, hb1⟩
  have R1 := hidm (Rest.new (F := 1) (n := 37) hm1)
  obtain ⟨D, hD⟩ : ∃ D, D = w.heap.size + 1 := ⟨_, rfl⟩
  rw [← hD] at R1 ⊢
  clear hD hm1 hb1 N0
  go_wp2_with fail
  refine (R1.out.open 39 rfl (by omega) (by omega) (by omega) (by omega) (by omega)).mono ?_
  rintro e w2 ⟨L0, rfl, h2, _, _⟩
  have LV2 := hidm (show Live w (fun _ => False) L0 D 1 37 40 (1 + 1003 * 0) 1 0 [] [] (.slice none 0 0) (([] ++ [] : List R).map Prod.snd) w2 from ⟨h2, World.ownsRow_nil _ _ _ _, fun g hg => (by cases hg), fun g hg => hg.elim⟩)
  clear h2 R1
  go_wp2_with fail
  go_loopw [5, 7, 8, 9] (fun l5 s7 v8 ii wr => ∃ (i L t b : Nat) (A B : List R) (vo : Option Addr) (xn vc an : Nat) (Q : Nat → Prop), l5 = .pointer (some ⟨L, 0, none⟩) ∧ s7 = .int .i64 (an : Int) ∧ v8 = .slice vo xn vc ∧ ii = .int .i64 i ∧ i ≤ ll ∧ i ≤ 60 ∧ Hid (an = A.length ∧ xn = (A ++ B).length ∧ t ≤ i + 1) ∧ Hid (Live w Q L D 1 37 40 (1 + 1003 * i) t b A B (.slice vo xn vc) ((A ++ B).map Prod.snd) wr)) (fun _ _ _ ii _ => (ll - (intOf ii).toNat))
  case atStart => exact ⟨0, L0, 1, 0, [], [], none, 0, 0, 0, _, rfl, rfl, rfl, rfl, by omega, by omega, hidm ⟨rfl, rfl, Nat.le_refl _⟩, LV2⟩
  case round =>
    rename World => wr
    obtain ⟨i, L, t, b, A, B, vo, xn, vc, an, Q, rfl, rfl, rfl, rfl, hi, hi6, HN, HLV⟩ := hrel
    rcases Nat.lt_or_ge i ll with hlt | hge
    · rcases Nat.lt_or_ge i 60 with hlt2 | hge2
      · have g1 : (i : Int) < (ll : Int) := by omega
        have g2 : (i : Int) < 60 := by omega
        have hil : i < l.length := by rw [← HLL.out]; exact hlt
        obtain ⟨b', o, cp, he, hbl, q0, q1, q2, q3⟩ := HSL.out.at i hil
        have HBO := hidm (HSL.out.bools i hil)
        have he2 : (Value.slice lo ll lc) = .slice (some ⟨b', o, none⟩) l.length cp := by rw [HLL.out]; exact he
        simp only [Value.slice.injEq] at he2
        obtain ⟨rfl, -, rfl⟩ := he2
        clear he
        obtain ⟨x, hx⟩ : ∃ x, x = l[i] := ⟨_, rfl⟩
        rw [← hx] at q0 q1 q2 q3 HBO
        clear hx
        have hbel := HLV.out.lg.bel
        have c0 := (hbel.cell (p := ⟨b', o + i * 4, none⟩) hbl).trans q0
        have c1 := (hbel.cell (p := ⟨b', o + i * 4 + 1, none⟩) hbl).trans q1
        have c2 := (hbel.cell (p := ⟨b', o + i * 4 + 2, none⟩) hbl).trans q2
        have c3 := (hbel.cell (p := ⟨b', o + i * 4 + 3, none⟩) hbl).trans q3
        have i1 : (i : Int) + 1 = ((i + 1 : Nat) : Int) := by omega
        obtain ⟨j, hj⟩ : ∃ j, j = i + 1 := ⟨_, rfl⟩
        rw [← hj] at i1
        have i1w : IntKind.i64.wrap (j : Int) = (j : Int) := by simp only [IntKind.wrap_i64]; omega
        have HJ := hidm hj
        have HJ2 := hidm (show j ≤ ll ∧ j ≤ 60 from by omega)
        clear hj hbel q0 q1 q2 q3
        go_upto_region 13 with fail
        clear c0 c1 c2 c3
        have hba := (Below.refl wr.heap.size wr).alloc (Nat.le_refl _) (.cells #[.int .i64 x.kind, .int .i64 x.pos, .string x.s, .slice x.ko x.ks.length x.kc] 39)
        obtain ⟨wP, hwP⟩ : ∃ wP, wP = wr.alloc (.cells #[.int .i64 x.kind, .int .i64 x.pos, .string x.s, .slice x.ko x.ks.length x.kc] 39) := ⟨_, rfl⟩
        have HPR := hidm (opRow wr x.kind x.pos x.s x.ko x.ks.length x.kc)
        rw [← hwP] at HPR hba ⊢
        obtain ⟨P, hP⟩ : ∃ P, P = wr.heap.size := ⟨_, rfl⟩
        have hPl : P < wP.heap.size := by rw [hwP, hP]; simp
        obtain ⟨Q1, hQ1⟩ : ∃ Q1 : Nat → Prop, Q1 = fun j => Q j ∨ (wr.heap.size ≤ j ∧ j < wP.heap.size) := ⟨_, rfl⟩
        have LV1 := hidm (show Live w Q1 L D 1 37 40 (1 + 1003 * i) t b A B (.slice vo xn vc) ((A ++ B).map Prod.snd) wP from by rw [hQ1]; exact HLV.out.later hba)
        have HQP := hidm (show Q1 P from by rw [hQ1]; exact .inr ⟨by omega, hPl⟩)
        rw [← hP] at HPR ⊢
        clear hwP hba hP hPl hQ1 HLV
        by_cases hk0 : x.kind = 0
        · rw [hk0] at HPR
          have p0 := cell_of_row wP P 0 _ _ (0, 0) HPR.out
          have p2 := cell_of_row wP P 2 _ _ (0, 0) HPR.out
          rcases Nat.lt_or_ge x.s.size 1000 with hs | hs
          · have g3 : (x.s.size : Int) < 1000 := by omega
            by_cases hf : np x.s.data.toList ≤ 37 - tot (A ++ B)
            · have AP := hidm (LV1.out.lg.append x.s hf (by omega))
              clear hf
              go_wp2_with fail
              refine AP.out.mono ?_
              rintro e w3 ⟨rfl, h3, k3⟩
              have LV3 := hidm (LV1.out.call h3 k3)
              have HP3 := hidm ((k3 P HQP.out).trans HPR.out)
              clear h3 k3 p0 p2 AP
              have p2 := cell_of_row w3 P 2 _ _ (0, 0) HP3.out
              have hba := (Below.refl w3.heap.size w3).alloc (Nat.le_refl _) (.cells #[.string x.s] 9)
              have LV4 := hidm (LV3.out.later hba)
              have HP4 := hidm (Cod.below_keeps hba HP3.out)
              have HOW := hidm LV4.out.own
              have hxn : ((A ++ B).map Prod.snd).length = xn := by rw [List.length_map]; exact HN.out.2.1.symm
              rw [hxn] at HOW
              have hxs : xn ≤ 100000 := by
                have h1 := len_tot (A ++ B)
                have h2 := HN.out.2.1
                obtain ⟨d, _, h3, _⟩ := LV1.out.lg.ex
                have h4 := h3.bd.room
                have h5 := tot_app A B
                omega
              have HXN := hidm hxn
              clear hba hxn
              go_wp2_with (at_builtin; refine wpList_append_lies _ rfl _ _ 37 rfl 0 9 i0 (.string ⟨#[]⟩) 1 16 Try.underlying37 hi0 hz0 hz1 hz2 rfl (by decide) _ xn (strs ((A ++ B).map Prod.snd)) rfl HOW.out ⟨w3.heap.size, 0, none⟩ 1 1 [.string x.s] rfl rfl ?CA ?CB (by decide) ?CC ?CD ?CE _ rfl ?_)
              case CA => exact World.news_of_block (heap_alloc_last _ _)
              case CB => intro u hu; simp at hu; rcases hu with rfl; rfl
              case CC => unfold maxLen; omega
              case CD => omega
              case CE => omega
              intro g cap w5 hown hgrow hg hlt5
              have LV5 := hidm (Live.push (s := x.s.data.toList) (g := g) (cap := cap) LV4.out (by rw [HXN.out, S_of, List.map_append]; exact hown) hgrow (hg.imp id (fun e => by rw [e]; simp)) hlt5)
              rw [HXN.out] at LV5
              have HP5 := hidm (LV4.out.kept hgrow HP4.out (by decide))
              clear hown hgrow hg hlt5 p2
              have p0 := cell_of_row w5 P 0 _ _ (0, 0) HP5.out
              have hx1 : (A ++ (B ++ [(t, x.s.data.toList)])).map Prod.snd = (A ++ B).map Prod.snd ++ [x.s.data.toList] := by rw [← List.append_assoc, List.map_append]; rfl
              rw [← hx1] at LV5
              clear hx1
              go_wp2_with fail
              go_roundw
              case rel => exact ⟨j, L, t, b, A, B ++ [(t, x.s.data.toList)], some ⟨g, 0, none⟩, xn + 1, cap, an, _, rfl, rfl, rfl, rfl, HJ2.out.1, HJ2.out.2, hidm ⟨HN.out.1, by rw [HN.out.2.1]; simp; omega, by rw [HJ.out]; exact Nat.le_succ_of_le HN.out.2.2⟩, hidm ⟨(LV5.out.lg.more (by rw [HJ.out]; omega) (by rw [HJ.out]; omega)), LV5.out.own, LV5.out.rO, LV5.out.low⟩⟩
              case measure => have := HJ.out; simp [intOf]; omega
            · have AP := hidm (LV1.out.lg.full x.s (by omega) hf)
              clear hf
              go_wp2_with fail
              refine AP.out.mono ?_
              rintro e w3 ⟨rfl, hb3⟩
              have LV3 := hidm (LV1.out.later hb3)
              have HP3 := hidm (Cod.below_keeps hb3 HPR.out)
              clear hb3 p0 p2 AP
              have p0 := cell_of_row w3 P 0 _ _ (0, 0) HP3.out
              go_wp2_with fail
              go_roundw
              case rel => exact ⟨j, L, t, b, A, B, vo, xn, vc, an, _, rfl, rfl, rfl, rfl, HJ2.out.1, HJ2.out.2, hidm ⟨HN.out.1, HN.out.2.1, by rw [HJ.out]; exact Nat.le_succ_of_le HN.out.2.2⟩, hidm ⟨(LV3.out.lg.more (by rw [HJ.out]; omega) (by rw [HJ.out]; omega)), LV3.out.own, LV3.out.rO, LV3.out.low⟩⟩
              case measure => have := HJ.out; simp [intOf]; omega
          · have g3 : ¬ (x.s.size : Int) < 1000 := by omega
            go_wp2_with fail
            go_roundw
            case rel => exact ⟨j, L, t, b, A, B, vo, xn, vc, an, _, rfl, rfl, rfl, rfl, HJ2.out.1, HJ2.out.2, hidm ⟨HN.out.1, HN.out.2.1, by rw [HJ.out]; exact Nat.le_succ_of_le HN.out.2.2⟩, hidm ⟨(LV1.out.lg.more (by rw [HJ.out]; omega) (by rw [HJ.out]; omega)), LV1.out.own, LV1.out.rO, LV1.out.low⟩⟩
            case measure => have := HJ.out; simp [intOf]; omega
        · have g3 : (x.kind == 0) = false := by simpa using hk0
          by_cases hk1 : x.kind = 1
          · rw [hk1] at HPR
            have p0 := cell_of_row wP P 0 _ _ (0, 0) HPR.out
            have CM := hidm (LV1.out.lg.commit (by omega))
            clear g3
            go_wp2_with fail
            refine CM.out.mono ?_
            rintro e w3 ⟨rfl, h3, k3⟩
            have LV3 := hidm (show Live w Q1 L D 1 37 40 (1 + 1003 * i + 1) t b (A ++ B) [] (.slice vo xn vc) (((A ++ B) ++ []).map Prod.snd) w3 from by rw [List.append_nil (A ++ B)]; exact LV1.out.call h3 k3)
            have HP3 := hidm ((k3 P HQP.out).trans HPR.out)
            clear h3 k3 p0 CM
            have p0 := cell_of_row w3 P 0 _ _ (0, 0) HP3.out
            go_wp2_with fail
            go_roundw
            case rel => exact ⟨j, L, t, b, A ++ B, [], vo, xn, vc, xn, _, rfl, rfl, rfl, rfl, HJ2.out.1, HJ2.out.2, hidm ⟨HN.out.2.1, by rw [List.append_nil]; exact HN.out.2.1, by rw [HJ.out]; exact Nat.le_succ_of_le HN.out.2.2⟩, hidm ⟨(LV3.out.lg.more (by rw [HJ.out]; omega) (by rw [HJ.out]; omega)), LV3.out.own, LV3.out.rO, LV3.out.low⟩⟩
            case measure => have := HJ.out; simp [intOf]; omega
          · have g4 : (x.kind == 1) = false := by simpa using hk1
            by_cases hk2 : x.kind = 2
            · rw [hk2] at HPR
              have p0 := cell_of_row wP P 0 _ _ (0, 0) HPR.out
              have RS := hidm (LV1.out.lg.reset (by omega) (by have := HN.out.2.2; omega))
              clear g3 g4
              go_wp2_with fail
              refine RS.out.mono ?_
              rintro e w3 ⟨rfl, h3, k3⟩
              have LV3 := hidm (LV1.out.call h3 k3).bare
              have HP3 := hidm ((k3 P HQP.out).trans HPR.out)
              clear h3 k3 p0 RS
              have p0 := cell_of_row w3 P 0 _ _ (0, 0) HP3.out
              go_wp2_with fail
              go_roundw
              case rel => exact ⟨j, L, t + 1, t + 1, [], [], none, 0, 0, 0, _, rfl, rfl, rfl, rfl, HJ2.out.1, HJ2.out.2, hidm ⟨rfl, rfl, by rw [HJ.out]; exact Nat.succ_le_succ HN.out.2.2⟩, hidm ⟨(LV3.out.lg.more (by rw [HJ.out]; omega) (by rw [HJ.out]; omega)), LV3.out.own, LV3.out.rO, LV3.out.low⟩⟩
              case measure => have := HJ.out; simp [intOf]; omega
            · have g5 : (x.kind == 2) = false := by simpa using hk2
              by_cases hk3 : x.kind = 3
              · rw [hk3] at HPR
                have p0 := cell_of_row wP P 0 _ _ (0, 0) HPR.out
                clear g3 g4 g5
                go_upto_region 27 with fail
                have HDR := hidm ((Below.refl wP.heap.size wP).drew)
                have LVd := hidm (LV1.out.later HDR.out)
                have HPd := hidm (Cod.below_keeps HDR.out HPR.out)
                obtain ⟨nd, hnd, hdi, hcr⟩ := LVd.out.lg.crash
                have HDI := hidm hdi
                obtain ⟨kn, hkn⟩ : ∃ kn, kn = x.ks.length := ⟨_, rfl⟩
                have HKN := hidm hkn
                have hk9 : kn ≤ x.kc ∧ x.kc ≤ 9223372036854775807 := by rw [hkn]; exact ⟨HBO.out.1, HBO.out.2.1⟩
                obtain ⟨kc, hkc⟩ : ∃ kc, kc = x.kc := ⟨_, rfl⟩
                obtain ⟨ko, hko⟩ : ∃ ko, ko = x.ko := ⟨_, rfl⟩
                rw [← hkn, ← hkc, ← hko] at HPd
                rw [← hko, ← hkc] at HBO
                rw [← hkc] at hk9
                obtain ⟨mm, hmm⟩ : ∃ mm, mm = min kn nd := ⟨_, rfl⟩
                have hmin : min (kn : Int) (nd : Int) = (mm : Int) := by omega
                have hmk : mm ≤ kn := by omega
                have hmd : mm ≤ nd := by omega
                have hms : mm ≤ kc := by omega
                have HLT := hidm (show (x.ks.take mm).length = mm from by rw [List.length_take, ← HKN.out]; omega)
                have HQPd := hidm (show (fun j => Q1 j ∨ (wP.heap.size ≤ j ∧ j < wP.drew.heap.size)) P from .inl HQP.out)
                have HCR := hidm (show ∀ w1, Below wP.drew.heap.size wP.drew w1 → _ from fun w1 hb => by
                  have h9 := hcr w1 hb (x.ks.take mm) ko kc (by rw [HLT.out]; exact hmd) (bools_take (HBO.out.later (LVd.out.lg.bel.trans (hb.mono LVd.out.lg.bel.size))) mm (by rw [← HKN.out]; exact hmk)) (fun hne p hp => by
                    obtain ⟨b9, o9, e9, hlt9, _⟩ := HBO.out.2.2 (fun e => hne (by rw [e]; simp))
                    rw [e9] at hp
                    cases hp
                    exact hlt9)
                  rw [HLT.out] at h9
                  exact h9)
                clear hdi hcr hkn hkc hko hmm hk3 HPR p0
                refine wp_region_held_drew (S := fun u => u.cell? ⟨P, 3, none⟩ = some (.slice ko kn kc)) (by kernel_rfl) (cell_of_row _ P 3 _ _ (0, 0) HPd.out) (fun hHeld => ?_)
                refine Man.take1 (i := 0) (v := ?_) rfl (by kernel_rfl) (by kernel_rfl) (by kernel_rfl) (fun _ _ _ h => h) (by rfl) ?_ (by assumption) ?_
                rotate_left
                · (intro u hSu; (try dsimp only at hSu); go_simp; (try with_reducible rfl))
                (try simp only [Act.put, List.setIfInBounds_toArray, List.set_cons_zero, List.set_cons_succ])
                refine Man.take1 (i := 1) (v := ?_) rfl (by kernel_rfl) (by kernel_rfl) (by kernel_rfl) (fun _ _ _ h => h) (by rfl) ?_ (by assumption) ?_
                rotate_left
                · (intro u hSu; (try dsimp only at hSu); go_simp; (try with_reducible rfl))
                (try simp only [Act.put, List.setIfInBounds_toArray, List.set_cons_zero, List.set_cons_succ])
                refine Man.take1 (i := 2) (v := ?_) rfl (by kernel_rfl) (by kernel_rfl) (by kernel_rfl) (fun _ _ _ h => h) (by rfl) ?_ (by assumption) ?_
                rotate_left
                · (intro u hSu; (try dsimp only at hSu); go_simp; (try with_reducible rfl))
                (try simp only [Act.put, List.setIfInBounds_toArray, List.set_cons_zero, List.set_cons_succ])
                refine Man.take1 (i := 3) (v := ?_) rfl (by kernel_rfl) (by kernel_rfl) (by kernel_rfl) (fun _ _ _ h => h) (by rfl) ?_ (by assumption) ?_
                rotate_left
                · (intro u hSu; (try dsimp only at hSu); go_simp; (try with_reducible rfl))
                (try simp only [Act.put, List.setIfInBounds_toArray, List.set_cons_zero, List.set_cons_succ])
                refine Man.take1 (i := 4) (v := ?_) rfl (by kernel_rfl) (by kernel_rfl) (by kernel_rfl) (fun _ _ _ h => h) (by rfl) ?_ (by assumption) ?_
                rotate_left
                · (intro u hSu; (try dsimp only at hSu); go_simp; (try with_reducible rfl))
                (try simp only [Act.put, List.setIfInBounds_toArray, List.set_cons_zero, List.set_cons_succ])
                refine Man.take1 (i := 5) (v := ?_) rfl (by kernel_rfl) (by kernel_rfl) (by kernel_rfl) (fun _ _ _ h => h) (by rfl) ?_ (by assumption) ?_
                rotate_left
                · (intro u hSu; (try dsimp only at hSu); go_simp; (try with_reducible rfl))
                (try simp only [Act.put, List.setIfInBounds_toArray, List.set_cons_zero, List.set_cons_succ])
                refine Man.take1 (i := 6) (v := ?_) rfl (by kernel_rfl) (by kernel_rfl) (by kernel_rfl) (fun _ _ _ h => h) (by rfl) ?_ (by assumption) ?_
                rotate_left
                · (intro u hSu; (try dsimp only at hSu); go_simp; (try with_reducible rfl))
                (try simp only [Act.put, List.setIfInBounds_toArray, List.set_cons_zero, List.set_cons_succ])
                refine Man.one (i := 7) rfl (by kernel_rfl) (fun K hK => ?_)
                go_simp
                refine HDI.out.mono ?_
                rintro e w5 ⟨vo5, vc5, rfl, hb5⟩
                have HB5 := hidm hb5
                have HP5 := hidm (Cod.below_keeps hb5 HPd.out)
                clear hb5
                refine hK.out _ _ (cell_of_row _ P 3 _ _ (0, 0) HP5.out) (fun hNew => ?_)
                clear hK K hHeld
                have hHeld := hNew
                clear hNew
                (try simp only [Act.put, List.setIfInBounds_toArray, List.set_cons_zero, List.set_cons_succ])
                (try simp only [Act.put, List.setIfInBounds_toArray, List.set_cons_zero, List.set_cons_succ])
                refine Man.take1 (i := 8) (v := ?_) rfl (by kernel_rfl) (by kernel_rfl) (by kernel_rfl) (fun _ _ _ h => h) (by rfl) ?_ (by assumption) ?_
                rotate_left
                · (intro u hSu; (try dsimp only at hSu); go_simp; (try with_reducible rfl))
                (try simp only [Act.put, List.setIfInBounds_toArray, List.set_cons_zero, List.set_cons_succ])
                refine Man.take1 (i := 9) (v := ?_) rfl (by kernel_rfl) (by kernel_rfl) (by kernel_rfl) (fun _ _ _ h => h) (by rfl) ?_ (by assumption) ?_
                rotate_left
                · (intro u hSu; (try dsimp only at hSu); go_simp; (try with_reducible rfl))
                (try simp only [Act.put, List.setIfInBounds_toArray, List.set_cons_zero, List.set_cons_succ])
                refine Man.take1 (i := 10) (v := ?_) rfl (by kernel_rfl) (by kernel_rfl) (by kernel_rfl) (fun _ _ _ h => h) (by rfl) ?_ (by assumption) ?_
                rotate_left
                · (intro u hSu; (try dsimp only at hSu); go_simp; (try with_reducible rfl))
                (try simp only [Act.put, List.setIfInBounds_toArray, List.set_cons_zero, List.set_cons_succ])
                refine Man.one (i := 11) rfl (by kernel_rfl) (fun K hK => ?_)
                go_simp
                refine (HCR.out w5 HB5.out).mono ?_
                rintro e w6 ⟨rfl, hr6, k6⟩
                have HR6 := hidm hr6
                have K6 := hidm k6
                have HP6 := hidm ((k6 P HQPd.out).trans HP5.out)
                clear hr6 k6
                refine hK.out _ _ (cell_of_row _ P 3 _ _ (0, 0) HP6.out) (fun hNew => ?_)
                clear hK K hHeld
                have hHeld := hNew
                clear hNew
                (try simp only [Act.put, List.setIfInBounds_toArray, List.set_cons_zero, List.set_cons_succ])
                (try simp only [Act.put, List.setIfInBounds_toArray, List.set_cons_zero, List.set_cons_succ])
                refine wpAnyH_done (by kernel_rfl) ?_ _
                have LV6 := hidm (show KeepQ (fun j => Q1 j ∨ (wP.heap.size ≤ j ∧ j < wP.drew.heap.size)) wP.drew w6 from (show KeepQ (fun j => Q1 j ∨ (wP.heap.size ≤ j ∧ j < wP.drew.heap.size)) wP.drew w5 from fun k hk => HB5.out.block k (by obtain ⟨d, hp, _⟩ := LVd.out.lg.ex; exact hp.qlt k hk)).trans K6.out)
                obtain ⟨m, hmB, hr⟩ := HR6.out
                have OP := hidm (hr.open 39 rfl (by omega) (by omega) (by have := HN.out.2.2; omega) (LVd.out.lg.top.2.1) (by omega))
                clear hr hHeld
                go_wp2_with fail
                refine OP.out.mono ?_
                rintro e w7 ⟨M, rfl, h7, k7, _⟩
                have LV7 := hidm (LVd.out.call h7 (LV6.out.trans k7))
                clear h7 k7 OP LV6 K6 HR6
                have RC := hidm LV7.out.lg.records
                obtain ⟨rn, hrn⟩ : ∃ rn, rn = ((A ++ B.take m) ++ []).length := ⟨_, rfl⟩
                rw [← hrn] at RC
                have HRN := hidm hrn
                have hrn1 : an ≤ rn := by rw [hrn, HN.out.1]; simp
                have hrn2 : rn ≤ xn := by rw [hrn, HN.out.2.1]; simp; omega
                clear hrn hmB
                go_wp2_with fail
                refine RC.out.mono ?_
                rintro e w8 ⟨ao, c8, rfl, hown, hb8⟩
                have HO8 := hidm hown
                have LV8 := hidm (LV7.out.later hb8)
                clear hown hb8 RC
                have hvc := (StrsAt.of_owns LV8.out.own).form
                obtain ⟨vo9, vc9, hv9, hvc1, hvc2⟩ := hvc
                simp only [Value.slice.injEq] at hv9
                obtain ⟨rfl, hx9, rfl⟩ := hv9
                rw [← hx9] at hvc1
                have hrc : rn ≤ vc := by omega
                have f1 : ¬ (rn : Int) < (an : Int) := by omega
                have f2 : ¬ (xn : Int) < (rn : Int) := by omega
                have f1b : decide (rn < an) = false := by simp; omega
                have f2b : decide (xn < rn) = false := by simp; omega
                have TX := hidm (show ∀ w', Below w8.heap.size w8 w' → Calls Try.prog 22 #[.slice ao rn c8, .slice vo rn vc] w' fun e w'' => e = .returned (.bool true) ∧ Below w'.heap.size w' w'' from fun w' hb => by
                  have hlen : ((A ++ B.take m).map Prod.snd).length = rn := by rw [List.length_map, HRN.out, List.append_nil]
                  have s1 : StrsAt ((A ++ B.take m).map Prod.snd) (.slice ao rn c8) w8 := by
                    have h1 := HO8.out
                    rw [List.append_nil] at h1
                    refine StrsAt.of_owns (base := w7.heap.size) ?_
                    rw [hlen]; exact h1
                  have s2 : StrsAt ((A ++ B.take m).map Prod.snd) (.slice vo rn vc) w8 := by
                    have h1 : StrsAt ((A ++ B).map Prod.snd) (.slice vo ((A ++ B).map Prod.snd).length vc) w8 := by rw [← hx9]; exact StrsAt.of_owns LV8.out.own
                    have h2 := h1.take rn vc (by rw [← hx9]; exact hrn2) hrc hvc2
                    have h3 := first_take A B m
                    rw [show (A ++ B.take m).length = rn from by rw [HRN.out, List.append_nil]] at h3
                    rw [h3] at h2
                    exact h2
                  exact rtexts_same _ _ _ w' (s1.later hb) (s2.later hb))
                have hx9' := hidm hx9
                clear hx9
                go_wp2_with fail
                refine (TX.out w8 (Below.refl _ _)).mono ?_
                rintro e w9 ⟨rfl, hb9⟩
                have LV9 := hidm (show Live w (fun j => (Q1 j ∨ (wP.heap.size ≤ j ∧ j < wP.drew.heap.size)) ∨ (w7.heap.size ≤ j ∧ j < w8.heap.size)) M D 1 37 40 (1 + 1003 * i + 1) (t + 1) b (A ++ B.take m) [] (.slice ao rn c8) (((A ++ B.take m) ++ []).map Prod.snd) w8 from ⟨LV8.out.lg, by
                  have h1 := own0 HO8.out
                  have e9 : (List.map Prod.snd ((A ++ B.take m) ++ [])).length = rn := by rw [List.length_map, HRN.out]
                  rw [e9]
                  exact h1, fun g hg => .inr (HO8.out.lt g hg), LV8.out.low⟩)
                have LV10 := hidm (LV9.out.later hb9)
                clear hb9 TX f1b f2b
                go_wp2_with fail
                go_roundw
                case rel => exact ⟨j, M, t + 1, b, A ++ B.take m, [], ao, rn, c8, rn, _, rfl, rfl, rfl, rfl, HJ2.out.1, HJ2.out.2, hidm ⟨by rw [HRN.out, List.append_nil], HRN.out, by rw [HJ.out]; exact Nat.succ_le_succ HN.out.2.2⟩, hidm ⟨(LV10.out.lg.more (by rw [HJ.out]; omega) (by rw [HJ.out]; omega)), LV10.out.own, LV10.out.rO, LV10.out.low⟩⟩
                case measure => have := HJ.out; simp [intOf]; omega
              · have g6 : (x.kind == 3) = false := by simpa using hk3
                have g7 : (x.kind != 3) = true := by simp [bne, g6]
                have p0 := cell_of_row wP P 0 _ _ (0, 0) HPR.out
                clear hk0 hk1 hk2 hk3
                go_wp2_with fail
                go_roundw
                case rel => exact ⟨j, L, t, b, A, B, vo, xn, vc, an, _, rfl, rfl, rfl, rfl, HJ2.out.1, HJ2.out.2, hidm ⟨HN.out.1, HN.out.2.1, by rw [HJ.out]; exact Nat.le_succ_of_le HN.out.2.2⟩, hidm ⟨(LV1.out.lg.more (by rw [HJ.out]; omega) (by rw [HJ.out]; omega)), LV1.out.own, LV1.out.rO, LV1.out.low⟩⟩
                case measure => have := HJ.out; simp [intOf]; omega
      · have g1 : (i : Int) < (ll : Int) := by omega
        have g2 : ¬ (i : Int) < 60 := by omega
        go_wp2_with fail
        refine (known_any _).mono ?_
        rintro e wk ⟨rfl, hb⟩
        have HB := hidm (HLV.out.lg.bel.trans (hb.mono HLV.out.lg.bel.size))
        clear hb
        go_wp2_with fail
        go_ret
        exact ⟨rfl, HB.out⟩
    · obtain rfl : i = ll := by omega
      have g1 : ¬ (i : Int) < (i : Int) := by omega
      go_wp2_with fail
      refine (known_any _).mono ?_
      rintro e wk ⟨rfl, hb⟩
      have HB := hidm (HLV.out.lg.bel.trans (hb.mono HLV.out.lg.bel.size))
      clear hb
      go_wp2_with fail
      go_ret
      exact ⟨rfl, HB.out⟩
theorem laidOut : laidOutB Try.prog = true := by kernel_rfl
set_option maxRecDepth 100000 in
theorem contract (H : Type) (enc : TypeId × Value → H) (W : World) (base : Nat) (args : Array Value) (ds gs : List (DataW H)) (before : List MemPlace)
    (hval : ∀ (j : Nat) t v, Try.f7.params[j]? = some t → args[j]? = some v → Value.okWide Try.prog W .any base t v)
    (hW : DataW.Whole enc Try.prog Try.f7.params.toList Rows.walLivesSpec.vars false W args.toList ds gs before)
    (hsz0 : (DataW.weightsEach Try.prog (Try.f7.params.toList ++ Rows.walLivesSpec.plain.varTypes Try.prog) (ds ++ gs)).all (· ≤ reachBytes) = true) :
    Calls Try.prog 7 args W fun e W' => ∃ v, e = .returned v ∧ Rows.walLivesSpec.post enc Try.prog Try.f7 false true false false W args v W' := by
  have hW' := hW
  obtain ⟨p, q, hA0, hV, rfl, hfz, hnd⟩ := hW
  have hA : DataW.TrodAll enc Try.prog W 0 (fun _ => true) true Try.f7.params.toList args.toList ds p := hA0
  rw [Try.params7] at hA hval hsz0
  obtain ⟨v0, vs0, d0, ds0, p0, q0, hargs, rfl, rfl, h0, r0⟩ := trodAll_cons hA
  obtain ⟨rfl, rfl, rfl⟩ := trodAll_nil r0
  obtain rfl : args = #[v0] := by cases args; simp_all
  obtain ⟨rfl, rfl⟩ := trodVars_none hV
  have hsz := fun n hn => of_decide_eq_true (List.all_eq_true.1 hsz0 n hn)
  obtain ⟨l, hml, hnl⟩ := open_ops (hval 0 27 v0 rfl rfl) h0
  clear hA0 hsz0
  simp only [List.append_nil] at hW'
  have hlt : ∀ x ∈ p0, x.block < W.heap.size := fun x hx => hW'.lt x (by simpa using hx)
  have walk := law_any l _ W hml
  refine walk.mono fun e W' ⟨he, hg⟩ => ?_
  subst he
  refine ⟨_, rfl, Fr.post_made (pa := p0) (pv := []) hW' (fun _ _ _ => trodAll_cons_mk (shut_bool Try.underlying4 _) trodAll_mk0) (fun sp hsp => ?_) (fun _ _ => rfl) (by simp) hg (ok_one (by kernel_rfl) rfl (okWide_bool_mk Try.underlying4 _))⟩
  have g0 : DataW.Trod enc Try.prog W' 0 sp true 27 _ d0 p0 := WideElems.Trod_stays laidOut (by kernel_rfl) (of_decide_eq_true (by kernel_rfl)) h0 (fun x hx => hg.same (hlt x (by simp [hx]))) (fun x hx => hsp x (by simp [hx]))
  have hT := (trodAll_cons_mk g0 trodAll_mk0)
  simp only [List.append_nil] at hT
  exact hT
set_option maxRecDepth 100000 in
theorem lifted (os : Os) (started : os.Started) (H : Type) (enc : TypeId × Value → H) :
    ReturnsInHanded {} Try.checked os 7 .any (Rows.walLivesSpec.pre6 enc Try.prog Try.f7 Rows.walLivesRow.domain false) (Rows.walLivesSpec.post enc Try.prog Try.f7 false true false false) := by
  refine returnsInHanded_of_change_sized (C := Try.checked) Fr.own started (by kernel_rfl) Try.func7
    (ChangeSpec.witness6 (enc := enc) (C := Try.checked) false ⟨#[], #[.slice none 0 0], []⟩ 8 (by kernel_rfl) (by kernel_rfl) (by kernel_rfl) (by kernel_rfl)) ?_
  intro W base args ds gs before hval hW _ hsz _
  exact contract H enc W base args ds gs before hval hW hsz
theorem said : Rows.WalLivesSaid :=
  OpenClaim.holds_of_wide 7 Try.f7 rfl rfl rfl rfl rfl rfl rfl ⟨rfl, rfl, rfl, rfl, rfl⟩ rfl rfl rfl rfl rfl (by kernel_rfl) Try.func7 (by kernel_rfl)
    (of_decide_eq_true (by kernel_rfl)) (by unfold Func.isWrapper; first | (rw [if_pos (by decide +kernel)]; kernel_rfl) | (rw [if_neg (by decide +kernel)]; exact ⟨rfl, rfl⟩))
    (fun os started H enc _ => lifted os started H enc)
end LaWalLives
end Go.Proofs.Ytpamffheapnoaaa
