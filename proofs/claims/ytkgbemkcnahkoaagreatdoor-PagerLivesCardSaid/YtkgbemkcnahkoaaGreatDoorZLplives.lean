/- PagerLives is proved: for every script the law returns true and its argument reads as it did. No other condition. -/
import Derived.Test.YtkgbemkcnahkoaaGreatDoorZPxto
import Derived.Test.YtkgbemkcnahkoaaGreatDoorZFrdto
import Derived.Deep.DeepCutAuto
import Derived.Deep.CutBlock
import Derived.WideKeyPair
import Derived.SizedLaws
namespace Go.Proofs.YtkgbemkcnahkoaaGreatDoor
open Go.ChangeShapes Go.WideShapes Go.ChangeAt Go.RowKit
open Go.ChangeMaps (open_string shut_string)
namespace LaPagerLives
open Pgr
open Dsk (PD Mine KeepQ DiskIs Only Grow upd pad BoolsAt NotGiven zeros open_ops open_bools OpsAt Opv)
open Crc (S S_of S_size)
theorem opRow (w : World) (a b : Int) (s : ByteArray) (o : Option Addr) (k c : Nat) : (w.alloc (.cells #[.int .i64 a, .int .i64 b, .string s, .slice o k c] 39)).heap[w.heap.size]? = some (.cells #[.int .i64 a, .int .i64 b, .string s, .slice o k c] 39 (0, 0)) := heap_alloc_last w _
set_option maxHeartbeats 16000000 in
set_option maxRecDepth 100000 in
theorem law_any (l : List Opv) (v0 : Value) (w : World) (hl : OpsAt l v0 w) (hin : ∀ x ∈ l, x.inn) :
    Calls Tryz.prog 9 #[v0] w fun e w' => e = .returned (.bool true) ∧ Below w.heap.size w w' := by
  have N0 := hidm (Dsk.m_new (W := w) (w := w) 60 (by omega) (by omega) (Below.refl _ _))
  have HIN := hidm hin
  obtain ⟨lo, lc, rfl, hlc, hlcm⟩ := hl.form
  obtain ⟨ll, hll⟩ : ∃ n, n = l.length := ⟨_, rfl⟩
  have HLLll := hidm hll
  have HSLll := hidm hl
  rw [← hll]
  have hll2 : ll ≤ 9223372036854775807 := by omega
  clear hl hll hlc hlcm
  clear hin
  go_enter Tryz.func9, Tryz.ntmps9
  go_wp2_with fail
  refine N0.out.mono ?_
  rintro e w1 ⟨rfl, hm1, hb1⟩
  have R1 := hidm (Re.new (n := 38) (N := 20) (by omega) hm1)
  obtain ⟨D, hD⟩ : ∃ D, D = w.heap.size + 1 := ⟨_, rfl⟩
  rw [← hD] at R1 ⊢
  clear hD hm1 hb1 N0
  go_wp2_with fail
  refine (R1.out.open (by omega) (by omega) (by omega) 40 rfl).mono ?_
  rintro e w2 ⟨P, L, rfl, h2, _⟩
  have H2 := hidm (show Lv w (fun _ => False) P L D 38 20 2000 true [] (fun _ => zeros) w2 from h2.more (by omega))
  clear h2 R1
  go_wp2_with fail
  refine H2.out.weak.pagesQ.mono ?_
  rintro e w3 ⟨xo, xc, Q0, rfl, _, ht3, h3, _⟩
  have TW3 := hidm (show Two w Q0 P L D (2000 + 3000 * 0) (all 20 (over [] (fun _ => zeros))) (all 20 (over [] (fun _ => zeros))) (.slice xo 20 xc) (.slice xo 20 xc) w3 from ⟨.inl ⟨_, _, h3, rfl, rfl⟩, ht3, ht3⟩)
  clear ht3 h3 H2
  go_wp2_with fail
  go_loopw [5, 7, 8, 9] (fun l5 s7 v8 ii wr => ∃ (i P L : Nat) (wo : Option Addr) (wc : Nat) (tn : Option Addr) (tc : Nat) (Q : Nat → Prop) (a b : List (List UInt8)), l5 = .pointer (some ⟨P, 0, none⟩) ∧ s7 = .slice wo 20 wc ∧ v8 = .slice tn 20 tc ∧ ii = .int .i64 i ∧ i ≤ ll ∧ i ≤ 40 ∧ Hid (Two w Q P L D (2000 + 3000 * i) a b (.slice wo 20 wc) (.slice tn 20 tc) wr)) (fun _ _ _ ii _ => (ll - (intOf ii).toNat))
  case atStart => exact ⟨0, P, L, xo, xc, xo, xc, Q0, _, _, rfl, rfl, rfl, rfl, by omega, by omega, TW3⟩
  case round =>
    clear TW3
    rename World => wr
    obtain ⟨i, P, L, wo, wc, tn, tc, Q, a, b, rfl, rfl, rfl, rfl, hi, hi6, HTW⟩ := hrel
    rcases Nat.lt_or_ge i ll with hlt | hge
    · rcases Nat.lt_or_ge i 40 with hlt2 | hge2
      · have g1 : (i : Int) < (ll : Int) := by omega
        have g2 : (i : Int) < 40 := by omega
        have hil : i < l.length := by rw [← HLLll.out]; exact hlt
        obtain ⟨b', o, cp, he, hbl, q0, q1, q2, q3⟩ := HSLll.out.at i hil
        have HBO := hidm (HSLll.out.bools i hil)
        have HXI := hidm (HIN.out _ (List.getElem_mem hil))
        have he2 : (Value.slice lo ll lc) = .slice (some ⟨b', o, none⟩) l.length cp := by rw [HLLll.out]; exact he
        simp only [Value.slice.injEq] at he2
        obtain ⟨rfl, -, rfl⟩ := he2
        clear he
        obtain ⟨x, hx⟩ : ∃ x, x = l[i] := ⟨_, rfl⟩
        rw [← hx] at q0 q1 q2 q3 HBO HXI
        clear hx
        have hbel := HTW.out.bel
        have c0 := (hbel.cell (p := ⟨b', o + i * 4, none⟩) hbl).trans q0
        have c1 := (hbel.cell (p := ⟨b', o + i * 4 + 1, none⟩) hbl).trans q1
        have c2 := (hbel.cell (p := ⟨b', o + i * 4 + 2, none⟩) hbl).trans q2
        have c3 := (hbel.cell (p := ⟨b', o + i * 4 + 3, none⟩) hbl).trans q3
        have i1 : (i : Int) + 1 = ((i + 1 : Nat) : Int) := by omega
        obtain ⟨j, hj⟩ : ∃ j, j = i + 1 := ⟨_, rfl⟩
        rw [← hj] at i1
        have i1w : IntKind.i64.wrap (j : Int) = (j : Int) := by simp only [IntKind.wrap_i64]; omega
        have HJ := hidm hj
        have HJ2 := hidm (show j ≤ ll ∧ j ≤ 40 from by omega)
        clear hj hbel q0 q1 q2 q3
        go_upto_region 13 with fail
        clear c0 c1 c2 c3
        have hba := (Below.refl wr.heap.size wr).alloc (Nat.le_refl _) (.cells #[.int .i64 x.kind, .int .i64 x.pos, .string x.s, .slice x.ko x.ks.length x.kc] 39)
        obtain ⟨wP, hwP⟩ : ∃ wP, wP = wr.alloc (.cells #[.int .i64 x.kind, .int .i64 x.pos, .string x.s, .slice x.ko x.ks.length x.kc] 39) := ⟨_, rfl⟩
        have HPR := hidm (opRow wr x.kind x.pos x.s x.ko x.ks.length x.kc)
        rw [← hwP] at HPR hba ⊢
        obtain ⟨B, hB⟩ : ∃ B, B = wr.heap.size := ⟨_, rfl⟩
        have hBl : B < wP.heap.size := by rw [hwP, hB]; simp
        obtain ⟨Q1, hQ1⟩ : ∃ Q1 : Nat → Prop, Q1 = fun j => Q j ∨ (wr.heap.size ≤ j ∧ j < wP.heap.size) := ⟨_, rfl⟩
        have TW1 := hidm (show Two w Q1 P L D (2000 + 3000 * i) a b (.slice wo 20 wc) (.slice tn 20 tc) wP from by rw [hQ1]; exact HTW.out.guard hba)
        have HQP := hidm (show Q1 B from by rw [hQ1]; exact .inr ⟨by omega, hBl⟩)
        rw [← hB] at HPR ⊢
        clear hwP hba hB hBl hQ1 HTW
        by_cases hk6 : x.kind = 6
        · rw [hk6] at HPR
          have p0 := cell_of_row wP B 0 _ _ (0, 0) HPR.out
          have p1 := cell_of_row wP B 1 _ _ (0, 0) HPR.out
          go_wp2_with fail
          refine (TW1.out.fuse x.pos HXI.out.p1).mono ?_
          rintro e w4 ⟨rfl, h4, k4⟩
          have TW4 := hidm h4
          have HP4 := hidm ((k4 B HQP.out).trans HPR.out)
          clear h4 k4 p0 p1
          have p0 := cell_of_row w4 B 0 _ _ (0, 0) HP4.out
          go_wp2_with fail
          go_roundw
          case rel => exact ⟨j, P, L, wo, wc, tn, tc, _, a, b, rfl, rfl, rfl, rfl, HJ2.out.1, HJ2.out.2, hidm (Two.more TW4.out (by rw [HJ.out]; omega))⟩
          case measure => have := HJ.out; simp [intOf]; omega
        · have g6 : (x.kind == 6) = false := by simpa using hk6
          by_cases hk3 : x.kind = 3
          · rw [hk3] at HPR
            have p0 := cell_of_row wP B 0 _ _ (0, 0) HPR.out
            clear g6
            go_wp2_with fail
            refine (TW1.out.commit (by omega)).mono ?_
            rintro e w4 ⟨no, nc, Q2, ln, rfl, hln, hq2, k4, hcm⟩
            have HQP2 := hidm (hq2 B HQP.out)
            have HP4 := hidm ((k4 B HQP.out).trans HPR.out)
            have HCM := hidm hcm
            have HLN := hidm hln
            clear k4 hq2 hcm hln p0
            go_wp2_with fail
            refine HCM.out.mono ?_
            rintro e w5 h5
            rcases h5 with ⟨rfl, h5, k5⟩ | ⟨rfl, ra5, rb5, hab, hnab, k5⟩
            · have TW5 := hidm h5
              have HP5 := hidm ((k5 B HQP2.out).trans HP4.out)
              clear h5 k5
              have p0 := cell_of_row w5 B 0 _ _ (0, 0) HP5.out
              go_wp2_with fail
              go_roundw
              case rel => exact ⟨j, P, L, no, nc, no, nc, _, ln, ln, rfl, rfl, rfl, rfl, HJ2.out.1, HJ2.out.2, hidm (Two.more TW5.out (by rw [HJ.out]; omega))⟩
              case measure => have := HJ.out; simp [intOf]; omega
            · have RA5 := hidm ra5
              have RB5 := hidm rb5
              have HP5 := hidm ((k5 B HQP2.out).trans HP4.out)
              have HAB := hidm (fun (h : a = b) => hab h)
              have HNAB := hidm (fun (h : a ≠ b) => hnab h)
              have HLA := hidm (show a.length = b.length from by
                obtain ⟨_, _, e1, _⟩ := ra5.1.form
                obtain ⟨_, _, e2, _⟩ := rb5.1.form
                simp only [Value.slice.injEq] at e1 e2
                omega)
              clear ra5 rb5 hab hnab k5
              go_wp2_with fail
              refine (texts_any a b _ _ _ HLA.out RA5.out.1 RB5.out.1).mono ?_
              rintro e w6 ⟨rfl, hb6⟩
              have HB6 := hidm hb6
              have HP6 := hidm (Cod.below_keeps hb6 HP5.out)
              clear hb6
              have p0 := cell_of_row w6 B 0 _ _ (0, 0) HP6.out
              by_cases hab : a = b
              · have TW6 := hidm ((HAB.out hab).later HB6.out)
                rw [decide_eq_true hab]
                clear hab HAB HNAB
                go_wp2_with fail
                go_roundw
                case rel => exact ⟨j, P, L, wo, wc, no, nc, _, a, ln, rfl, rfl, rfl, rfl, HJ2.out.1, HJ2.out.2, hidm (Two.more TW6.out (by rw [HJ.out]; omega))⟩
                case measure => have := HJ.out; simp [intOf]; omega
              · have TW6 := hidm ((HNAB.out hab).later HB6.out)
                rw [decide_eq_false hab]
                clear hab HAB HNAB
                go_wp2_with fail
                go_roundw
                case rel => exact ⟨j, P, L, wo, wc, tn, tc, _, a, b, rfl, rfl, rfl, rfl, HJ2.out.1, HJ2.out.2, hidm (Two.more TW6.out (by rw [HJ.out]; omega))⟩
                case measure => have := HJ.out; simp [intOf]; omega
          · have g3 : (x.kind == 3) = false := by simpa using hk3
            have HK3 := hidm hk3
            by_cases hk5 : x.kind = 5
            · rw [hk5] at HPR
              have p0 := cell_of_row wP B 0 _ _ (0, 0) HPR.out
              clear g6 g3 hk6 hk3
              go_upto_region 26 with fail
              have HDR := hidm ((Below.refl wP.heap.size wP).drew)
              have TWd := hidm (TW1.out.later HDR.out)
              have HPd := hidm (Cod.below_keeps HDR.out HPR.out)
              obtain ⟨nd, hnd, hdi, hcr⟩ := TWd.out.crash
              have HDI := hidm hdi
              obtain ⟨kn, hkn⟩ : ∃ kn, kn = x.ks.length := ⟨_, rfl⟩
              have HKN := hidm hkn
              have hk9 : kn ≤ x.kc ∧ x.kc ≤ 9223372036854775807 := by rw [hkn]; exact ⟨HBO.out.1, HBO.out.2.1⟩
              obtain ⟨kc, hkc⟩ : ∃ kc, kc = x.kc := ⟨_, rfl⟩
              obtain ⟨ko, hko⟩ : ∃ ko, ko = x.ko := ⟨_, rfl⟩
              rw [← hkn, ← hkc, ← hko] at HPd
              rw [← hko, ← hkc] at HBO
              rw [← hkc] at hk9
              obtain ⟨mm, hmm⟩ : ∃ mm, mm = min kn nd := ⟨_, rfl⟩
              have hmin : min (kn : Int) (nd : Int) = (mm : Int) := by omega
              have hmk : mm ≤ kn := by omega
              have hmd : mm ≤ nd := by omega
              have hms : mm ≤ kc := by omega
              have hnd9 : nd ≤ 9223372036854775807 := by omega
              have HLT := hidm (show (x.ks.take mm).length = mm from by rw [List.length_take, ← HKN.out]; omega)
              have HQPd := hidm HQP.out
              have HCR := hidm (show ∀ w1, Below wP.drew.heap.size wP.drew w1 → _ from fun w1 hb => by
                have h9 := hcr w1 hb (x.ks.take mm) ko kc (by rw [HLT.out]; exact hmd) (bools_take (HBO.out.later (TWd.out.bel.trans (hb.mono TWd.out.bel.size))) mm (by rw [← HKN.out]; exact hmk)) (fun hne p hp => by
                  obtain ⟨b9, o9, e9, hlt9, _⟩ := HBO.out.2.2 (fun e => hne (by rw [e]; simp))
                  rw [e9] at hp
                  cases hp
                  exact .inl hlt9)
                rw [HLT.out] at h9
                exact h9)
              clear hdi hcr hkn hkc hko hmm hk5 HPR p0
              refine wp_region_held_drew (S := fun u => u.cell? ⟨B, 3, none⟩ = some (.slice ko kn kc)) (by kernel_rfl) (cell_of_row _ B 3 _ _ (0, 0) HPd.out) (fun hHeld => ?_)
              refine Man.take1 (i := 0) (v := ?_) rfl (by kernel_rfl) (by kernel_rfl) (by kernel_rfl) (fun _ _ _ h => h) (by rfl) ?_ (by assumption) ?_
              rotate_left
              · (intro u hSu; (try dsimp only at hSu); go_simp; (try with_reducible rfl))
              (try simp only [Act.put, List.setIfInBounds_toArray, List.set_cons_zero, List.set_cons_succ])
              refine Man.take1 (i := 1) (v := ?_) rfl (by kernel_rfl) (by kernel_rfl) (by kernel_rfl) (fun _ _ _ h => h) (by rfl) ?_ (by assumption) ?_
              rotate_left
              · (intro u hSu; (try dsimp only at hSu); go_simp; (try with_reducible rfl))
              (try simp only [Act.put, List.setIfInBounds_toArray, List.set_cons_zero, List.set_cons_succ])
              refine Man.take1 (i := 2) (v := ?_) rfl (by kernel_rfl) (by kernel_rfl) (by kernel_rfl) (fun _ _ _ h => h) (by rfl) ?_ (by assumption) ?_
              rotate_left
              · (intro u hSu; (try dsimp only at hSu); go_simp; (try with_reducible rfl))
              (try simp only [Act.put, List.setIfInBounds_toArray, List.set_cons_zero, List.set_cons_succ])
              refine Man.take1 (i := 3) (v := ?_) rfl (by kernel_rfl) (by kernel_rfl) (by kernel_rfl) (fun _ _ _ h => h) (by rfl) ?_ (by assumption) ?_
              rotate_left
              · (intro u hSu; (try dsimp only at hSu); go_simp; (try with_reducible rfl))
              (try simp only [Act.put, List.setIfInBounds_toArray, List.set_cons_zero, List.set_cons_succ])
              refine Man.take1 (i := 4) (v := ?_) rfl (by kernel_rfl) (by kernel_rfl) (by kernel_rfl) (fun _ _ _ h => h) (by rfl) ?_ (by assumption) ?_
              rotate_left
              · (intro u hSu; (try dsimp only at hSu); go_simp; (try with_reducible rfl))
              (try simp only [Act.put, List.setIfInBounds_toArray, List.set_cons_zero, List.set_cons_succ])
              refine Man.take1 (i := 5) (v := ?_) rfl (by kernel_rfl) (by kernel_rfl) (by kernel_rfl) (fun _ _ _ h => h) (by rfl) ?_ (by assumption) ?_
              rotate_left
              · (intro u hSu; (try dsimp only at hSu); go_simp; (try with_reducible rfl))
              (try simp only [Act.put, List.setIfInBounds_toArray, List.set_cons_zero, List.set_cons_succ])
              refine Man.take1 (i := 6) (v := ?_) rfl (by kernel_rfl) (by kernel_rfl) (by kernel_rfl) (fun _ _ _ h => h) (by rfl) ?_ (by assumption) ?_
              rotate_left
              · (intro u hSu; (try dsimp only at hSu); go_simp; (try with_reducible rfl))
              (try simp only [Act.put, List.setIfInBounds_toArray, List.set_cons_zero, List.set_cons_succ])
              refine Man.one (i := 7) rfl (by kernel_rfl) (fun K hK => ?_)
              go_simp
              refine HDI.out.mono ?_
              rintro e w5 ⟨vo5, vc5, rfl, hb5⟩
              have HB5 := hidm hb5
              have HP5 := hidm (Cod.below_keeps hb5 HPd.out)
              clear hb5
              refine hK.out _ _ (cell_of_row _ B 3 _ _ (0, 0) HP5.out) (fun hNew => ?_)
              clear hK K hHeld
              have hHeld := hNew
              clear hNew
              (try simp only [Act.put, List.setIfInBounds_toArray, List.set_cons_zero, List.set_cons_succ])
              (try simp only [Act.put, List.setIfInBounds_toArray, List.set_cons_zero, List.set_cons_succ])
              refine Man.take1 (i := 8) (v := ?_) rfl (by kernel_rfl) (by kernel_rfl) (by kernel_rfl) (fun _ _ _ h => h) (by rfl) ?_ (by assumption) ?_
              rotate_left
              · (intro u hSu; (try dsimp only at hSu); go_simp; (try with_reducible rfl))
              (try simp only [Act.put, List.setIfInBounds_toArray, List.set_cons_zero, List.set_cons_succ])
              refine Man.take1 (i := 9) (v := ?_) rfl (by kernel_rfl) (by kernel_rfl) (by kernel_rfl) (fun _ _ _ h => h) (by rfl) ?_ (by assumption) ?_
              rotate_left
              · (intro u hSu; (try dsimp only at hSu); go_simp; (try with_reducible rfl))
              (try simp only [Act.put, List.setIfInBounds_toArray, List.set_cons_zero, List.set_cons_succ])
              refine Man.take1 (i := 10) (v := ?_) rfl (by kernel_rfl) (by kernel_rfl) (by kernel_rfl) (fun _ _ _ h => h) (by rfl) ?_ (by assumption) ?_
              rotate_left
              · (intro u hSu; (try dsimp only at hSu); go_simp; (try with_reducible rfl))
              (try simp only [Act.put, List.setIfInBounds_toArray, List.set_cons_zero, List.set_cons_succ])
              refine Man.one (i := 11) rfl (by kernel_rfl) (fun K hK => ?_)
              go_simp
              refine (HCR.out w5 HB5.out).mono ?_
              rintro e w6 ⟨rfl, hr6, k6⟩
              have HR6 := hidm hr6
              have HP6 := hidm ((k6 B HQPd.out).trans HP5.out)
              clear hr6 k6
              refine hK.out _ _ (cell_of_row _ B 3 _ _ (0, 0) HP6.out) (fun hNew => ?_)
              clear hK K hHeld
              have hHeld := hNew
              clear hNew
              (try simp only [Act.put, List.setIfInBounds_toArray, List.set_cons_zero, List.set_cons_succ])
              (try simp only [Act.put, List.setIfInBounds_toArray, List.set_cons_zero, List.set_cons_succ])
              refine wpAnyH_done (by kernel_rfl) ?_ _
              clear hHeld
              go_wp2_with fail
              refine (HR6.out.open (by omega)).mono ?_
              rintro e w7 ⟨P2, L2, rfl, _, hpg⟩
              have HPG := hidm hpg
              clear hpg HR6
              go_wp2_with fail
              refine HPG.out.mono ?_
              rintro e w8 ⟨lo8, lc8, Q8, l8, rfl, _, _, hl8, hor, ra8, rb8, h8⟩
              have TW8 := hidm h8
              have RA8 := hidm ra8
              have RB8 := hidm rb8
              have HLa := hidm (show l8.length = a.length from by
                obtain ⟨_, _, e1, _⟩ := ra8.1.form
                simp only [Value.slice.injEq] at e1
                omega)
              have HLb := hidm (show l8.length = b.length from by
                obtain ⟨_, _, e1, _⟩ := rb8.1.form
                simp only [Value.slice.injEq] at e1
                omega)
              have HOR := hidm hor
              clear h8 ra8 rb8 hl8 hor HPG
              go_wp2_with fail
              refine (texts_any l8 a _ _ _ HLa.out TW8.out.ra.1 RA8.out.1).mono ?_
              rintro e w9 ⟨rfl, hb9⟩
              have TW9 := hidm (TW8.out.later hb9)
              have RB9 := hidm (RB8.out.keep (TW8.out.kept hb9))
              clear hb9
              by_cases hla : l8 = a
              · rw [decide_eq_true hla]
                clear hla
                go_wp2_with fail
                go_roundw
                case rel => exact ⟨j, P2, L2, lo8, lc8, lo8, lc8, _, l8, l8, rfl, rfl, rfl, rfl, HJ2.out.1, HJ2.out.2, hidm (Two.more TW9.out (by rw [HJ.out]; omega))⟩
                case measure => have := HJ.out; simp [intOf]; omega
              · have hlb : l8 = b := by
                  rcases HOR.out with h | h
                  · exact absurd h hla
                  · exact h
                rw [decide_eq_false hla]
                have HLBE := hidm hlb
                clear hla hlb
                go_wp2_with fail
                refine (texts_any l8 b _ _ _ HLb.out TW9.out.ra.1 RB9.out.1).mono ?_
                rintro e w10 ⟨rfl, hb10⟩
                have TW10 := hidm (TW9.out.later hb10)
                rw [decide_eq_true HLBE.out]
                clear hb10
                go_wp2_with fail
                go_roundw
                case rel => exact ⟨j, P2, L2, lo8, lc8, lo8, lc8, _, l8, l8, rfl, rfl, rfl, rfl, HJ2.out.1, HJ2.out.2, hidm (Two.more TW10.out (by rw [HJ.out]; omega))⟩
                case measure => have := HJ.out; simp [intOf]; omega
            · have g5 : (x.kind == 5) = false := by simpa using hk5
              have g5n : (x.kind != 5) = true := by simp [bne, g5]
              have p0 := cell_of_row wP B 0 _ _ (0, 0) HPR.out
              have p1 := cell_of_row wP B 1 _ _ (0, 0) HPR.out
              have p2 := cell_of_row wP B 2 _ _ (0, 0) HPR.out
              have p3 := cell_of_row wP B 3 _ _ (0, 0) HPR.out
              clear hk6 hk3 hk5
              by_cases hkl : x.kind < 5
              · rcases Nat.lt_or_ge x.s.size 200 with hs | hs
                · have g7 : (x.s.size : Int) < 200 := by omega
                  clear hs
                  go_wp2_with fail
                  refine (TW1.out.do x HXI.out HK3.out).mono ?_
                  rintro e w4 ⟨ya, yc, ys, rfl, h4, k4⟩
                  have TW4 := hidm h4
                  have HP4 := hidm ((k4 B HQP.out).trans HPR.out)
                  clear h4 k4 p0 p1 p2 p3
                  have p0 := cell_of_row w4 B 0 _ _ (0, 0) HP4.out
                  go_wp2_with fail
                  go_roundw
                  case rel => exact ⟨j, P, L, wo, wc, tn, tc, _, a, b, rfl, rfl, rfl, rfl, HJ2.out.1, HJ2.out.2, hidm (Two.more TW4.out (by rw [HJ.out]; omega))⟩
                  case measure => have := HJ.out; simp [intOf]; omega
                · have g7 : ¬ (x.s.size : Int) < 200 := by omega
                  clear hs
                  go_wp2_with fail
                  go_roundw
                  case rel => exact ⟨j, P, L, wo, wc, tn, tc, _, a, b, rfl, rfl, rfl, rfl, HJ2.out.1, HJ2.out.2, hidm (Two.more TW1.out (by rw [HJ.out]; omega))⟩
                  case measure => have := HJ.out; simp [intOf]; omega
              · go_wp2_with fail
                go_roundw
                case rel => exact ⟨j, P, L, wo, wc, tn, tc, _, a, b, rfl, rfl, rfl, rfl, HJ2.out.1, HJ2.out.2, hidm (Two.more TW1.out (by rw [HJ.out]; omega))⟩
                case measure => have := HJ.out; simp [intOf]; omega
      · have g1 : (i : Int) < (ll : Int) := by omega
        have g2 : ¬ (i : Int) < 40 := by omega
        go_wp2_with fail
        refine (known_any _).mono ?_
        rintro e wk ⟨rfl, hb⟩
        have HB := hidm (HTW.out.bel.trans (hb.mono HTW.out.bel.size))
        clear hb
        go_wp2_with fail
        go_ret
        exact ⟨by trivial, HB.out⟩
    · obtain rfl : i = ll := by omega
      have g1 : ¬ (i : Int) < (i : Int) := by omega
      go_wp2_with fail
      refine (known_any _).mono ?_
      rintro e wk ⟨rfl, hb⟩
      have HB := hidm (HTW.out.bel.trans (hb.mono HTW.out.bel.size))
      clear hb
      go_wp2_with fail
      go_ret
      exact ⟨by trivial, HB.out⟩
theorem laidOut : laidOutB Tryz.prog = true := by kernel_rfl
set_option maxRecDepth 100000 in
theorem contract (H : Type) (enc : TypeId × Value → H) (W : World) (base : Nat) (args : Array Value) (ds gs : List (DataW H)) (before : List MemPlace)
    (hval : ∀ (j : Nat) t v, Tryz.f9.params[j]? = some t → args[j]? = some v → Value.okWide Tryz.prog W .any base t v)
    (hW : DataW.Whole enc Tryz.prog Tryz.f9.params.toList Rows.pagerLivesSpec.vars false W args.toList ds gs before) :
    Calls Tryz.prog 9 args W fun e W' => ∃ v, e = .returned v ∧ Rows.pagerLivesSpec.post enc Tryz.prog Tryz.f9 false true false false W args v W' := by
  have hW' := hW
  obtain ⟨p, q, hA0, hV, rfl, hfz, hnd⟩ := hW
  have hA : DataW.TrodAll enc Tryz.prog W 0 (fun _ => true) true Tryz.f9.params.toList args.toList ds p := hA0
  rw [Tryz.params9] at hA hval
  obtain ⟨v0, vs0, d0, ds0, p0, q0, hargs, rfl, rfl, h0, r0⟩ := trodAll_cons hA
  obtain ⟨rfl, rfl, rfl⟩ := trodAll_nil r0
  obtain rfl : args = #[v0] := by cases args; simp_all
  obtain ⟨rfl, rfl⟩ := trodVars_none hV
  obtain ⟨l, hml, hnl⟩ := open_ops (hval 0 23 v0 rfl rfl) h0
  clear hA0
  simp only [List.append_nil] at hW'
  have hlt : ∀ x ∈ p0, x.block < W.heap.size := fun x hx => hW'.lt x (by simpa using hx)
  have walk := law_any l _ W hml hnl
  refine walk.mono fun e W' ⟨he, hg⟩ => ?_
  subst he
  refine ⟨_, rfl, Fr.post_made (pa := p0) (pv := []) hW' (fun _ _ _ => trodAll_cons_mk (shut_bool Tryz.underlying4 _) trodAll_mk0) (fun sp hsp => ?_) (fun _ _ => rfl) (by simp) hg (ok_one (by kernel_rfl) rfl (okWide_bool_mk Tryz.underlying4 _))⟩
  have g0 : DataW.Trod enc Tryz.prog W' 0 sp true 23 _ d0 p0 := WideElems.Trod_stays laidOut (by kernel_rfl) (of_decide_eq_true (by kernel_rfl)) h0 (fun x hx => hg.same (hlt x (by simp [hx]))) (fun x hx => hsp x (by simp [hx]))
  have hT := (trodAll_cons_mk g0 trodAll_mk0)
  simp only [List.append_nil] at hT
  exact hT
set_option maxRecDepth 100000 in
theorem reads (os : Os) {H : Type} (enc : TypeId × Value → H) : ∃ places, DataW.whole enc Tryz.prog ((World.laidAll Tryz.prog os Rows.pagerLivesRow.laid).forCall (fun _ _ => 0) ⟨#[], #[.slice none 0 0], []⟩).memory Tryz.f9.params.toList Rows.pagerLivesSpec.vars false (#[.slice none 0 0] : Array Value).toList 8 = some ([.nil], [], places) :=
  ⟨[], by kernel_rfl⟩
set_option maxRecDepth 100000 in
theorem lifted (os : Os) (started : os.Started) (H : Type) (enc : TypeId × Value → H) (F : Stop.Interp) :
    ReturnsInHanded {} Tryz.checked os 9 .any ((OpenSpec.ofChange Rows.pagerLivesSpec).preRow enc Tryz.prog Tryz.f9 Rows.pagerLivesRow.domain false Rows.pagerLivesRow.laid) (((OpenSpec.ofChange Rows.pagerLivesSpec).at F).post enc Tryz.prog Tryz.f9 false true false false) := by
  obtain ⟨places, hx⟩ := reads os enc
  refine returnsInHanded_of_row (C := Tryz.checked) (s := OpenSpec.ofChange Rows.pagerLivesSpec) Fr.own started (by kernel_rfl) Tryz.func9
    (Fr.wit (World.laidAll Tryz.prog os Rows.pagerLivesRow.laid) #[.slice none 0 0] (World.laidAll_os _ _ _) (World.shaped_of_ZipB (by kernel_rfl) (by kernel_rfl)) (by kernel_rfl)
      (OpenSpec.preRow_of_cond 8 hx (by kernel_rfl) (fun k hk => by cases hk) (by kernel_rfl) (laidMet_laidAll _ (by kernel_rfl) (by kernel_rfl)))) ?_
  intro W base args ds gs before hval hW _ _ _ _ _ _
  exact contract H enc W base args ds gs before hval hW
set_option maxRecDepth 100000 in
theorem said : Rows.PagerLivesSaid :=
  OpenClaim.holds_of_cond 9 Tryz.f9 rfl rfl rfl rfl rfl rfl rfl ⟨rfl, rfl, rfl, rfl, rfl⟩ rfl rfl rfl rfl rfl (by kernel_rfl) Tryz.func9 (by kernel_rfl)
    (of_decide_eq_true (by kernel_rfl)) (by unfold Func.isWrapper; first | (rw [if_pos (by decide +kernel)]; kernel_rfl) | (rw [if_neg (by decide +kernel)]; exact ⟨rfl, rfl⟩))
    (fun os started H enc _ F => by rw [OpenClaim.pre_eq_preRow]; exact lifted os started H enc F)
set_option maxRecDepth 100000 in
theorem plain (f : FuncId) (fn : Func) (hf : Tryz.pinned.checked.prog.funcNamed "memoir/memoirlaw09.PagerLives" = some f) (hfn : Tryz.pinned.checked.prog.funcs[f]? = some fn) :
    true = Tryz.pinned.checked.prog.looks [] ∧ ∀ (j : Nat) t, fn.params[j]? = some t → Tryz.pinned.checked.prog.wantsStandIn t = false := by
  obtain rfl : f = 9 := Option.some.inj ((show Tryz.prog.funcNamed "memoir/memoirlaw09.PagerLives" = some 9 by kernel_rfl).symm.trans hf) |>.symm
  obtain rfl : fn = Tryz.f9 := (Option.some.inj (Tryz.func9.symm.trans hfn)).symm
  refine ⟨by kernel_rfl, fun j t ht => ?_⟩
  rw [Tryz.params9] at ht
  have hm := Array.mem_of_getElem? ht
  simp only [List.mem_toArray, List.mem_cons, List.not_mem_nil, or_false] at hm
  subst hm
  all_goals first | exact (show Tryz.prog.wantsStandIn 23 = false by kernel_rfl)
set_option maxRecDepth 100000 in
theorem card : Rows.PagerLivesCardSaid :=
  Claim7.holds_tied_plain_at .later [] _ _ _ _ said (fun _ h => by cases h) (by kernel_rfl) (fun _ h => by cases h) pagerLives_row_tie rfl ⟨rfl, rfl⟩ (by kernel_rfl) rfl plain (by kernel_rfl)
end LaPagerLives
end Go.Proofs.YtkgbemkcnahkoaaGreatDoor
