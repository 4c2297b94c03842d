/- WalSafe is proved: for every script, every number and all truths the law returns true and its arguments read as they did. No other condition. -/
import Derived.Test.YtpamffheapnoaaaWzb
import Derived.Test.YtpamffheapnoaaaWo
import Derived.Test.YtpamffheapnoaaaFra
import Derived.WideKeyPair
import Derived.SizedLaws
namespace Go.Proofs.Ytpamffheapnoaaa
open Go.ChangeShapes Go.WideShapes Go.ChangeAt Go.RowKit
open Go.ChangeMaps (open_string shut_string)
namespace LaWalSafe
open Wal
open Dsk (PD Mine KeepQ DiskIs Only Grow upd pad BoolsAt NotGiven)
open Crc (S S_of S_size S_append S_add hidm)
open Dsk (open_ops open_bools OpsAt Opv)
theorem first_take (A B : List R) (m : Nat) (zs : List (List UInt8)) : ((A ++ B).map Prod.snd ++ zs).take (A ++ B.take m).length = (A ++ B.take m).map Prod.snd := by
  rw [List.take_append_of_le_length (by simp; omega), ← List.map_take]
  congr 1
  rw [List.length_append, List.take_append, List.take_of_length_le (by omega)]
  congr 1
  rw [Nat.add_sub_cancel_left, List.length_take]
  rcases Nat.le_total m B.length with h | h
  · rw [Nat.min_eq_left h]
  · rw [Nat.min_eq_right h, List.take_of_length_le h, List.take_of_length_le (Nat.le_refl _)]
/-- What holds behind i calls: the log lives, or an Append has failed. -/
def SafeI (w : World) (Q : Nat → Prop) (L D i : Nat) (A B : List R) (v : Value) (xn : Nat) (wr : World) : Prop :=
  (∃ h, Lf w Q L D (1 + 1002 * i) A B h wr ∧ Rw w Q v ((A ++ B).map Prod.snd) wr ∧ xn = (A ++ B).length ∧ i ≤ 30) ∨
  (i = 31 ∧ ∃ zs, Lb w Q L D (1 + 1002 * 31) A B wr ∧ Rw w Q v ((A ++ B).map Prod.snd ++ zs) wr ∧ xn = ((A ++ B).map Prod.snd ++ zs).length)
theorem SafeI.fin {w : World} {Q : Nat → Prop} {L D i : Nat} {A B : List R} {v : Value} {xn : Nat} {wr : World} (h : SafeI w Q L D i A B v xn wr) : ∃ zs, Lb w Q L D (1 + 1002 * 31) A B wr ∧ Rw w Q v ((A ++ B).map Prod.snd ++ zs) wr ∧ xn = ((A ++ B).map Prod.snd ++ zs).length := by
  rcases h with ⟨h, h1, h2, h3, h4⟩ | ⟨_, h⟩
  · exact ⟨[], h1.lb.more (by omega) (by omega), by rw [List.append_nil]; exact h2, by rw [List.append_nil, List.length_map]; exact h3⟩
  · exact h
set_option maxHeartbeats 16000000 in
set_option maxRecDepth 100000 in
theorem law_any (l : List Opv) (v0 : Value) (f : Int) (hf0 : -9223372036854775808 ≤ f ∧ f ≤ 9223372036854775807) (ks : List Bool) (ko : Option Addr) (kc : Nat) (w : World) (hl : OpsAt l v0 w) (hks : BoolsAt ks ko kc w) :
    Calls Try.prog 4 #[v0, .int .i64 f, .slice ko ks.length kc] w fun e w' => e = .returned (.bool true) ∧ Below w.heap.size w w' := by
  have N0 := hidm (Dsk.m_new (W := w) (w := w) 40 (by omega) (by omega) (Below.refl _ _))
  obtain ⟨i0, hi0, hz0, hz1, hz2⟩ := info_parts infoS
  obtain ⟨lo, lc, rfl, hlc, hlm⟩ := hl.form
  obtain ⟨ll, hll⟩ : ∃ ll, ll = l.length := ⟨_, rfl⟩
  have HLL := hidm hll
  have HSL := hidm hl
  have HKS := hidm hks
  obtain ⟨kn, hkn⟩ : ∃ kn, kn = ks.length := ⟨_, rfl⟩
  have HKN := hidm hkn
  have hk9 : kn ≤ kc ∧ kc ≤ 9223372036854775807 := by rw [hkn]; exact ⟨hks.1, hks.2.1⟩
  rw [← hll, ← hkn]
  have hll2 : ll ≤ 9223372036854775807 := by omega
  have HF0 := hidm hf0.2
  clear hl hll hlc hlm hks hkn hf0
  go_enter Try.func4, Try.ntmps4
  go_wp2_with fail
  refine N0.out.mono ?_
  rintro e w1 ⟨rfl, hm1, hb1⟩
  have R1 := hidm (Rest.new (F := 3) (n := 28) hm1)
  obtain ⟨D, hD⟩ : ∃ D, D = w.heap.size + 1 := ⟨_, rfl⟩
  rw [← hD] at R1 ⊢
  clear hD hm1 hb1 N0
  have OP := hidm (R1.out.open 30 rfl (by omega) (by omega) (by omega) (by omega) (by omega))
  go_wp2_with fail
  refine OP.out.mono ?_
  rintro e w2 ⟨L, rfl, h2, _, _⟩
  have FU := hidm (h2.lf f HF0.out)
  clear h2 R1 OP
  go_wp2_with fail
  refine FU.out.mono ?_
  rintro e w2' ⟨rfl, h2, _⟩
  have SI := hidm (show SafeI w (fun _ => False) L D 0 [] [] (.slice none 0 0) 0 w2' from .inl ⟨false, h2, ⟨World.ownsRow_nil _ _ _ _, fun g hg => (by cases hg), fun g hg => hg.elim, h2.bel.size⟩, rfl, by omega⟩)
  clear h2 FU
  go_wp2_with fail
  go_loopw [11, 12, 13] (fun s11 s12 ii wr => ∃ (i : Nat) (A B : List R) (so : Option Addr) (sn sc : Nat) (vo : Option Addr) (xn vc : Nat) (Q : Nat → Prop), s11 = .slice so sn sc ∧ s12 = .slice vo xn vc ∧ ii = .int .i64 i ∧ i ≤ 31 ∧ Hid (sn = A.length) ∧ Hid (SafeI w Q L D i A B (.slice vo xn vc) xn wr)) (fun _ _ ii _ => (ll - (intOf ii).toNat))
  case atStart => exact ⟨0, [], [], none, 0, 0, none, 0, 0, _, rfl, rfl, rfl, by omega, hidm rfl, SI⟩
  case round =>
    rename World => wr
    obtain ⟨i, A, B, so, sn, sc, vo, xn, vc, Q, rfl, rfl, rfl, hi, HSN, HSI⟩ := hrel
    have hgo : (i < ll ∧ i < 30) ∨ ¬ (i < ll ∧ i < 30) := Classical.em _
    rcases hgo with ⟨hlt, hlt2⟩ | hgo
    · have g1 : (i : Int) < (ll : Int) := by omega
      have g2 : (i : Int) < 30 := by omega
      obtain ⟨h, hlf, hrw, hxn0, _⟩ : ∃ h, Lf w Q L D (1 + 1002 * i) A B h wr ∧ Rw w Q (.slice vo xn vc) ((A ++ B).map Prod.snd) wr ∧ xn = (A ++ B).length ∧ i ≤ 30 := by
        rcases HSI.out with h9 | h9
        · exact h9
        · have := h9.1; omega
      have hxn : ((A ++ B).map Prod.snd).length = xn := by rw [List.length_map]; exact hxn0.symm
      have hxs : xn ≤ 28 := by rw [hxn0]; exact hlf.room
      have HXN := hidm hxn
      have HXN0 := hidm hxn0
      have hil : i < l.length := by rw [← HLL.out]; exact hlt
      obtain ⟨b', o, cp, he, hbl, q0, q1, q2, q3⟩ := HSL.out.at i hil
      have he2 : (Value.slice lo ll lc) = .slice (some ⟨b', o, none⟩) l.length cp := by rw [HLL.out]; exact he
      simp only [Value.slice.injEq] at he2
      obtain ⟨rfl, -, rfl⟩ := he2
      clear he
      obtain ⟨x, hx⟩ : ∃ x, x = l[i] := ⟨_, rfl⟩
      rw [← hx] at q0 q1 q2 q3
      clear hx
      have hbel := hlf.bel
      have c0 := (hbel.cell (p := ⟨b', o + i * 4, none⟩) hbl).trans q0
      have c1 := (hbel.cell (p := ⟨b', o + i * 4 + 1, none⟩) hbl).trans q1
      have c2 := (hbel.cell (p := ⟨b', o + i * 4 + 2, none⟩) hbl).trans q2
      have c3 := (hbel.cell (p := ⟨b', o + i * 4 + 3, none⟩) hbl).trans q3
      have i1 : (i : Int) + 1 = ((i + 1 : Nat) : Int) := by omega
      obtain ⟨j, hj⟩ : ∃ j, j = i + 1 := ⟨_, rfl⟩
      rw [← hj] at i1
      have i1w : IntKind.i64.wrap (j : Int) = (j : Int) := by simp only [IntKind.wrap_i64]; omega
      have HJ := hidm hj
      have HJ2 := hidm (show j ≤ 30 from by omega)
      have LF := hidm hlf
      have RW := hidm hrw
      clear hj hbel q0 q1 q2 q3 hlf hrw hxn hxn0 HSI
      go_upto_region 14 with fail
      clear c0 c1 c2 c3
      have hba := (Below.refl wr.heap.size wr).alloc (Nat.le_refl _) (.cells #[.int .i64 x.kind, .int .i64 x.pos, .string x.s, .slice x.ko x.ks.length x.kc] 39)
      obtain ⟨wP, hwP⟩ : ∃ wP, wP = wr.alloc (.cells #[.int .i64 x.kind, .int .i64 x.pos, .string x.s, .slice x.ko x.ks.length x.kc] 39) := ⟨_, rfl⟩
      have HPR := hidm (opRow wr x.kind x.pos x.s x.ko x.ks.length x.kc)
      rw [← hwP] at HPR hba ⊢
      obtain ⟨P, hP⟩ : ∃ P, P = wr.heap.size := ⟨_, rfl⟩
      have hPl : P < wP.heap.size := by rw [hwP, hP]; simp
      obtain ⟨Q1, hQ1⟩ : ∃ Q1 : Nat → Prop, Q1 = fun j => Q j ∨ (wr.heap.size ≤ j ∧ j < wP.heap.size) := ⟨_, rfl⟩
      have LF1 := hidm (show Lf w Q1 L D (1 + 1002 * i) A B h wP from by rw [hQ1]; exact LF.out.guard hba)
      have RW1 := hidm (show Rw w Q1 (.slice vo xn vc) ((A ++ B).map Prod.snd) wP from by rw [hQ1]; exact RW.out.later hba)
      have HQP := hidm (show Q1 P from by rw [hQ1]; exact .inr ⟨by omega, hPl⟩)
      rw [← hP] at HPR ⊢
      clear hwP hba hP hPl hQ1 LF RW
      by_cases hk0 : x.kind = 0
      · rw [hk0] at HPR
        have p0 := cell_of_row wP P 0 _ _ (0, 0) HPR.out
        have p2 := cell_of_row wP P 2 _ _ (0, 0) HPR.out
        rcases Nat.lt_or_ge x.s.size 1000 with hs | hs
        · have g3 : (x.s.size : Int) < 1000 := by omega
          cases h with
          | false =>
            by_cases hf : np x.s.data.toList ≤ 28 - tot (A ++ B)
            · have AP := hidm (LF1.out.append x.s hf (by omega))
              clear hf
              go_wp2_with fail
              refine AP.out.mono ?_
              rintro e w3 ⟨⟨rfl, h3⟩ | ⟨rfl, h3⟩, k3⟩
              · have LF3 := hidm h3
                have RW3 := hidm (RW1.out.call k3 h3.bel.size)
                have HP3 := hidm ((k3 P HQP.out).trans HPR.out)
                clear h3 k3 p0 p2 AP
                have p2 := cell_of_row w3 P 2 _ _ (0, 0) HP3.out
                have hba := (Below.refl w3.heap.size w3).alloc (Nat.le_refl _) (.cells #[.string x.s] 9)
                have LF4 := hidm (LF3.out.guard hba)
                have RW4 := hidm (RW3.out.later hba)
                have HP4 := hidm (Cod.below_keeps hba HP3.out)
                have HOW := hidm RW4.out.own
                rw [HXN.out] at HOW
                clear hba
                go_wp2_with (at_builtin; refine wpList_append_lies _ rfl _ _ 37 rfl 0 9 i0 (.string ⟨#[]⟩) 1 16 Try.underlying37 hi0 hz0 hz1 hz2 rfl (by decide) _ xn (strs ((A ++ B).map Prod.snd)) rfl HOW.out ⟨w3.heap.size, 0, none⟩ 1 1 [.string x.s] rfl rfl ?CA ?CB (by decide) ?CC ?CD ?CE _ rfl ?_)
                case CA => exact World.news_of_block (heap_alloc_last _ _)
                case CB => intro u hu; simp at hu; rcases hu with rfl; rfl
                case CC => unfold maxLen; omega
                case CD => omega
                case CE => omega
                intro g cap w5 hown hgrow hg hlt5
                have hpu := Rw.push (s := x.s.data.toList) (g := g) (cap := cap) RW4.out (by rw [HXN.out, S_of, List.map_append]; exact hown) hgrow (hg.imp id (fun e => by rw [e]; simp)) hlt5
                rw [HXN.out] at hpu
                have RW5 := hidm hpu.1
                have LF5 := hidm (LF4.out.guardO hpu.2.1 hpu.2.2)
                have HP5 := hidm (RW4.out.kept hgrow HP4.out (by decide))
                clear hown hgrow hg hlt5 p2 hpu
                have p0 := cell_of_row w5 P 0 _ _ (0, 0) HP5.out
                go_wp2_with fail
                have hx1 : (A ++ (B ++ [(1, x.s.data.toList)])).map Prod.snd = (A ++ B).map Prod.snd ++ [x.s.data.toList] := by rw [← List.append_assoc, List.map_append]; rfl
                rw [← hx1] at RW5
                clear hx1
                go_roundw
                case rel => exact ⟨j, A, B ++ [(1, x.s.data.toList)], so, sn, sc, some ⟨g, 0, none⟩, xn + 1, cap, _, rfl, rfl, rfl, by have := HJ2.out; omega, HSN, hidm (.inl ⟨_, LF5.out.more (by rw [HJ.out]; omega) (by rw [HJ.out]; omega), RW5.out, by rw [HXN0.out]; simp; omega, HJ2.out⟩)⟩
                case measure => have := HJ.out; simp [intOf]; omega
              · have LF3 := hidm h3
                have RW3 := hidm (RW1.out.call k3 h3.bel.size)
                have HP3 := hidm ((k3 P HQP.out).trans HPR.out)
                clear h3 k3 p0 p2 AP
                have p2 := cell_of_row w3 P 2 _ _ (0, 0) HP3.out
                have hba := (Below.refl w3.heap.size w3).alloc (Nat.le_refl _) (.cells #[.string x.s] 9)
                have LF4 := hidm (LF3.out.guard hba)
                have RW4 := hidm (RW3.out.later hba)
                have HP4 := hidm (Cod.below_keeps hba HP3.out)
                have HOW := hidm RW4.out.own
                rw [HXN.out] at HOW
                clear hba
                go_wp2_with (at_builtin; refine wpList_append_lies _ rfl _ _ 37 rfl 0 9 i0 (.string ⟨#[]⟩) 1 16 Try.underlying37 hi0 hz0 hz1 hz2 rfl (by decide) _ xn (strs ((A ++ B).map Prod.snd)) rfl HOW.out ⟨w3.heap.size, 0, none⟩ 1 1 [.string x.s] rfl rfl ?CA ?CB (by decide) ?CC ?CD ?CE _ rfl ?_)
                case CA => exact World.news_of_block (heap_alloc_last _ _)
                case CB => intro u hu; simp at hu; rcases hu with rfl; rfl
                case CC => unfold maxLen; omega
                case CD => omega
                case CE => omega
                intro g cap w5 hown hgrow hg hlt5
                have hpu := Rw.push (s := x.s.data.toList) (g := g) (cap := cap) RW4.out (by rw [HXN.out, S_of, List.map_append]; exact hown) hgrow (hg.imp id (fun e => by rw [e]; simp)) hlt5
                rw [HXN.out] at hpu
                have RW5 := hidm hpu.1
                have LF5 := hidm (LF4.out.guardO hpu.2.1 hpu.2.2)
                have HP5 := hidm (RW4.out.kept hgrow HP4.out (by decide))
                clear hown hgrow hg hlt5 p2 hpu
                have p0 := cell_of_row w5 P 0 _ _ (0, 0) HP5.out
                go_wp2_with fail
                have hx1 : (A ++ (B ++ [(1, x.s.data.toList)])).map Prod.snd = (A ++ B).map Prod.snd ++ [x.s.data.toList] := by rw [← List.append_assoc, List.map_append]; rfl
                rw [← hx1] at RW5
                clear hx1
                go_roundw
                case rel => exact ⟨31, A, B ++ [(1, x.s.data.toList)], so, sn, sc, some ⟨g, 0, none⟩, xn + 1, cap, _, rfl, rfl, by first | rfl | go_num, by omega, HSN, hidm (.inr ⟨rfl, [], LF5.out.more (by omega) (by omega), by rw [List.append_nil]; exact RW5.out, by rw [List.append_nil, List.length_map, HXN0.out]; simp; omega⟩)⟩
                case measure => have := HJ.out; simp [intOf]; omega
            · have AP := hidm (LF1.out.full x.s (by omega) hf)
              clear hf
              go_wp2_with fail
              refine AP.out.mono ?_
              rintro e w3 ⟨rfl, hb3⟩
              have LF3 := hidm (LF1.out.guard hb3)
              have RW3 := hidm (RW1.out.later hb3)
              have HP3 := hidm (Cod.below_keeps hb3 HPR.out)
              clear hb3 p0 p2 AP
              have p0 := cell_of_row w3 P 0 _ _ (0, 0) HP3.out
              go_wp2_with fail
              go_roundw
              case rel => exact ⟨j, A, B, so, sn, sc, vo, xn, vc, _, rfl, rfl, rfl, by have := HJ2.out; omega, HSN, hidm (.inl ⟨_, LF3.out.more (by rw [HJ.out]; omega) (by rw [HJ.out]; omega), RW3.out, HXN0.out, HJ2.out⟩)⟩
              case measure => have := HJ.out; simp [intOf]; omega
          | true =>
            have AP := hidm (LF1.out.shut x.s)
            go_wp2_with fail
            refine AP.out.mono ?_
            rintro e w3 ⟨rfl, rfl⟩
            have LF3 := hidm LF1.out.lb
            have RW3 := RW1
            have HP3 := HPR
            clear p0 p2 AP
            have p2 := cell_of_row wP P 2 _ _ (0, 0) HP3.out
            have hba := (Below.refl wP.heap.size wP).alloc (Nat.le_refl _) (.cells #[.string x.s] 9)
            have LF4 := hidm (LF3.out.guard hba)
            have RW4 := hidm (RW3.out.later hba)
            have HP4 := hidm (Cod.below_keeps hba HP3.out)
            have HOW := hidm RW4.out.own
            rw [HXN.out] at HOW
            clear hba
            go_wp2_with (at_builtin; refine wpList_append_lies _ rfl _ _ 37 rfl 0 9 i0 (.string ⟨#[]⟩) 1 16 Try.underlying37 hi0 hz0 hz1 hz2 rfl (by decide) _ xn (strs ((A ++ B).map Prod.snd)) rfl HOW.out ⟨wP.heap.size, 0, none⟩ 1 1 [.string x.s] rfl rfl ?CA ?CB (by decide) ?CC ?CD ?CE _ rfl ?_)
            case CA => exact World.news_of_block (heap_alloc_last _ _)
            case CB => intro u hu; simp at hu; rcases hu with rfl; rfl
            case CC => unfold maxLen; omega
            case CD => omega
            case CE => omega
            intro g cap w5 hown hgrow hg hlt5
            have hpu := Rw.push (s := x.s.data.toList) (g := g) (cap := cap) RW4.out (by rw [HXN.out, S_of, List.map_append]; exact hown) hgrow (hg.imp id (fun e => by rw [e]; simp)) hlt5
            rw [HXN.out] at hpu
            have RW5 := hidm hpu.1
            have LF5 := hidm (LF4.out.guardO hpu.2.1 hpu.2.2)
            have HP5 := hidm (RW4.out.kept hgrow HP4.out (by decide))
            clear hown hgrow hg hlt5 p2 hpu
            have p0 := cell_of_row w5 P 0 _ _ (0, 0) HP5.out
            go_wp2_with fail
            go_roundw
            case rel => exact ⟨31, A, B, so, sn, sc, some ⟨g, 0, none⟩, xn + 1, cap, _, rfl, rfl, by first | rfl | go_num, by omega, HSN, hidm (.inr ⟨rfl, [x.s.data.toList], LF5.out.more (by omega) (by omega), RW5.out, by rw [List.length_append, HXN.out]; rfl⟩)⟩
            case measure => have := HJ.out; simp [intOf]; omega
        · have g3 : ¬ (x.s.size : Int) < 1000 := by omega
          go_wp2_with fail
          go_roundw
          case rel => exact ⟨j, A, B, so, sn, sc, vo, xn, vc, _, rfl, rfl, rfl, by have := HJ2.out; omega, HSN, hidm (.inl ⟨_, LF1.out.more (by rw [HJ.out]; omega) (by rw [HJ.out]; omega), RW1.out, HXN0.out, HJ2.out⟩)⟩
          case measure => have := HJ.out; simp [intOf]; omega
      · have g3 : (x.kind == 0) = false := by simpa using hk0
        by_cases hk1 : x.kind = 1
        · rw [hk1] at HPR
          have p0 := cell_of_row wP P 0 _ _ (0, 0) HPR.out
          have CM := hidm (LF1.out.commit (by omega))
          clear g3
          go_wp2_with fail
          refine CM.out.mono ?_
          rintro e w3 ⟨⟨rfl, h3⟩ | ⟨rfl, h3⟩, k3⟩
          · have LF3 := hidm h3
            have RW3 := hidm (RW1.out.call k3 h3.bel.size)
            clear h3 k3 p0 CM
            go_wp2_with fail
            go_roundw
            case rel => exact ⟨j, A ++ B, [], vo, xn, vc, vo, xn, vc, _, rfl, rfl, rfl, by have := HJ2.out; omega, HXN0, hidm (.inl ⟨_, LF3.out.more (by rw [HJ.out]; omega) (by rw [HJ.out]; omega), by rw [List.append_nil (A ++ B)]; exact RW3.out, by rw [List.append_nil]; exact HXN0.out, HJ2.out⟩)⟩
            case measure => have := HJ.out; simp [intOf]; omega
          · have LF3 := hidm h3
            have RW3 := hidm (RW1.out.call k3 h3.bel.size)
            clear h3 k3 p0 CM
            go_wp2_with fail
            go_roundw
            case rel => exact ⟨j, A, B, so, sn, sc, vo, xn, vc, _, rfl, rfl, rfl, by have := HJ2.out; omega, HSN, hidm (.inl ⟨_, LF3.out.more (by rw [HJ.out]; omega) (by rw [HJ.out]; omega), RW3.out, HXN0.out, HJ2.out⟩)⟩
            case measure => have := HJ.out; simp [intOf]; omega
        · have g4 : (x.kind == 1) = false := by simpa using hk1
          have p0 := cell_of_row wP P 0 _ _ (0, 0) HPR.out
          clear hk0 hk1
          go_wp2_with fail
          go_roundw
          case rel => exact ⟨j, A, B, so, sn, sc, vo, xn, vc, _, rfl, rfl, rfl, by have := HJ2.out; omega, HSN, hidm (.inl ⟨_, LF1.out.more (by rw [HJ.out]; omega) (by rw [HJ.out]; omega), RW1.out, HXN0.out, HJ2.out⟩)⟩
          case measure => have := HJ.out; simp [intOf]; omega
    · obtain ⟨zs, hlb, hrw, hxn⟩ := HSI.out.fin
      have HRW := hidm hrw
      have HXN := hidm hxn
      have HBE := hidm hlb.bel
      obtain ⟨nd, hnd2, hdi, hcr⟩ := hlb.crash
      have HDI := hidm hdi
      obtain ⟨mm, hmm⟩ : ∃ mm, mm = min kn nd := ⟨_, rfl⟩
      have hmin : min (kn : Int) (nd : Int) = (mm : Int) := by omega
      have hmk : mm ≤ kn := by omega
      have hmd : mm ≤ nd := by omega
      have hms : mm ≤ kc := by omega
      have HLT := hidm (show (ks.take mm).length = mm from by rw [List.length_take, ← HKN.out]; omega)
      have HCR := hidm (show ∀ w1, Below wr.heap.size wr w1 → _ from fun w1 hb => by
        have h9 := hcr w1 hb (ks.take mm) ko kc (by rw [HLT.out]; exact hmd) (bools_take (HKS.out.later (HBE.out.trans (hb.mono HBE.out.size))) mm (by rw [← HKN.out]; exact hmk)) (fun hne p hp => by
          obtain ⟨b9, o9, e9, hlt9, _⟩ := HKS.out.2.2 (fun e => hne (by rw [e]; simp))
          rw [e9] at hp
          cases hp
          exact hlt9)
        rw [HLT.out] at h9
        exact h9)
      clear hmm hdi hcr hlb hrw hxn HSI
      have GO : Hid (∀ (Z : Prop), ((i < ll → ¬ (i : Int) < 30) → Z) → Z) := hidm (fun Z hZ => hZ (fun h1 => by omega))
      rcases (show ¬ i < ll ∨ (i < ll ∧ ¬ i < 30) by omega) with hst | hst
      · have g1 : ¬ (i : Int) < (ll : Int) := by omega
        clear GO hgo
        go_wp2_with fail
        refine HDI.out.mono ?_
        rintro e w6 ⟨vo6, vc6, rfl, hb6⟩
        have HB6 := hidm hb6
        have HOA6 := hidm (Dsk.owns_later HRW.out.own hb6)
        clear hb6 HDI
        go_wp2_with fail
        refine (HCR.out w6 HB6.out).mono ?_
        rintro e w7 ⟨rfl, hr7, k7⟩
        have HOA7 := hidm (Dsk.ownsRow_of HOA6.out (fun g hg => k7 g (HRW.out.rO g hg)))
        obtain ⟨m, hmB, hr⟩ := hr7
        have OP := hidm (hr.open 30 rfl (by omega) (by omega) (by omega) (by omega) (by omega))
        clear k7 hr HCR HOA6
        go_wp2_with fail
        refine OP.out.mono ?_
        rintro e w8 ⟨M, rfl, h8, k8, _⟩
        have H8 := hidm h8
        have HOA8 := hidm (Dsk.ownsRow_of HOA7.out (fun g hg => k8 g (HRW.out.rO g hg)))
        have RC := hidm h8.records
        obtain ⟨rn, hrn⟩ : ∃ rn, rn = ((A ++ B.take m) ++ []).length := ⟨_, rfl⟩
        rw [← hrn] at RC
        have HRN := hidm hrn
        have hrn1 : sn ≤ rn := by rw [hrn, HSN.out]; simp
        have hrn2 : rn ≤ xn := by rw [hrn, HXN.out]; simp; omega
        clear h8 k8 OP HOA7 hrn hmB
        go_wp2_with fail
        refine RC.out.mono ?_
        rintro e w9 ⟨ao, c9, rfl, hown, hb9⟩
        have HR9 := hidm hown
        have HOA9 := hidm (Dsk.owns_later HOA8.out hb9)
        have G9 := hidm (H8.out.later hb9)
        clear hown hb9 RC HOA8
        have hvc := (StrsAt.of_owns HOA9.out).form
        obtain ⟨vo9, vc9, hv9, hvc1, hvc2⟩ := hvc
        simp only [Value.slice.injEq] at hv9
        obtain ⟨rfl, hx9, rfl⟩ := hv9
        rw [← hx9] at hvc1
        have hrc : rn ≤ vc := by omega
        have f1 : (sn : Int) ≤ (rn : Int) := by omega
        have f2 : (rn : Int) ≤ (xn : Int) := by omega
        have TX := hidm (show ∀ w', Below w9.heap.size w9 w' → Calls Try.prog 22 #[.slice ao rn c9, .slice vo rn vc] w' fun e w'' => e = .returned (.bool true) ∧ Below w'.heap.size w' w'' from fun w' hb => by
          have hlen : ((A ++ B.take m).map Prod.snd).length = rn := by rw [List.length_map, HRN.out, List.append_nil]
          have s1 : StrsAt ((A ++ B.take m).map Prod.snd) (.slice ao rn c9) w9 := by
            have h1 := HR9.out
            rw [List.append_nil] at h1
            refine StrsAt.of_owns (base := w8.heap.size) ?_
            rw [hlen]; exact h1
          have s2 : StrsAt ((A ++ B.take m).map Prod.snd) (.slice vo rn vc) w9 := by
            have h1 : StrsAt ((A ++ B).map Prod.snd ++ zs) (.slice vo ((A ++ B).map Prod.snd ++ zs).length vc) w9 := by rw [← hx9]; exact StrsAt.of_owns HOA9.out
            have h2 := h1.take rn vc (by rw [← hx9]; exact hrn2) hrc hvc2
            have h3 := first_take A B m zs
            rw [show (A ++ B.take m).length = rn from by rw [HRN.out, List.append_nil]] at h3
            rw [h3] at h2
            exact h2
          exact rtexts_same _ _ _ w' (s1.later hb) (s2.later hb))
        clear hx9
        go_wp2_with fail
        refine (TX.out w9 (Below.refl _ _)).mono ?_
        rintro e w10 ⟨rfl, hb10⟩
        have G10 := hidm (G9.out.later hb10)
        clear hb10 TX
        go_wp2_with fail
        refine G10.out.gen.mono ?_
        rintro e wx ⟨rfl, rfl⟩
        have HB10 := hidm G10.out.bel
        go_wp2_with fail
        refine (known_any _).mono ?_
        rintro e wk ⟨rfl, hb⟩
        have HBK := hidm (HB10.out.trans (hb.mono HB10.out.size))
        clear hb
        go_wp2_with fail
        go_ret
        exact ⟨rfl, HBK.out⟩
      · have g1 : (i : Int) < (ll : Int) := by omega
        have g2 : ¬ (i : Int) < 30 := by omega
        clear GO hgo
        go_wp2_with fail
        refine HDI.out.mono ?_
        rintro e w6 ⟨vo6, vc6, rfl, hb6⟩
        have HB6 := hidm hb6
        have HOA6 := hidm (Dsk.owns_later HRW.out.own hb6)
        clear hb6 HDI
        go_wp2_with fail
        refine (HCR.out w6 HB6.out).mono ?_
        rintro e w7 ⟨rfl, hr7, k7⟩
        have HOA7 := hidm (Dsk.ownsRow_of HOA6.out (fun g hg => k7 g (HRW.out.rO g hg)))
        obtain ⟨m, hmB, hr⟩ := hr7
        have OP := hidm (hr.open 30 rfl (by omega) (by omega) (by omega) (by omega) (by omega))
        clear k7 hr HCR HOA6
        go_wp2_with fail
        refine OP.out.mono ?_
        rintro e w8 ⟨M, rfl, h8, k8, _⟩
        have H8 := hidm h8
        have HOA8 := hidm (Dsk.ownsRow_of HOA7.out (fun g hg => k8 g (HRW.out.rO g hg)))
        have RC := hidm h8.records
        obtain ⟨rn, hrn⟩ : ∃ rn, rn = ((A ++ B.take m) ++ []).length := ⟨_, rfl⟩
        rw [← hrn] at RC
        have HRN := hidm hrn
        have hrn1 : sn ≤ rn := by rw [hrn, HSN.out]; simp
        have hrn2 : rn ≤ xn := by rw [hrn, HXN.out]; simp; omega
        clear h8 k8 OP HOA7 hrn hmB
        go_wp2_with fail
        refine RC.out.mono ?_
        rintro e w9 ⟨ao, c9, rfl, hown, hb9⟩
        have HR9 := hidm hown
        have HOA9 := hidm (Dsk.owns_later HOA8.out hb9)
        have G9 := hidm (H8.out.later hb9)
        clear hown hb9 RC HOA8
        have hvc := (StrsAt.of_owns HOA9.out).form
        obtain ⟨vo9, vc9, hv9, hvc1, hvc2⟩ := hvc
        simp only [Value.slice.injEq] at hv9
        obtain ⟨rfl, hx9, rfl⟩ := hv9
        rw [← hx9] at hvc1
        have hrc : rn ≤ vc := by omega
        have f1 : (sn : Int) ≤ (rn : Int) := by omega
        have f2 : (rn : Int) ≤ (xn : Int) := by omega
        have TX := hidm (show ∀ w', Below w9.heap.size w9 w' → Calls Try.prog 22 #[.slice ao rn c9, .slice vo rn vc] w' fun e w'' => e = .returned (.bool true) ∧ Below w'.heap.size w' w'' from fun w' hb => by
          have hlen : ((A ++ B.take m).map Prod.snd).length = rn := by rw [List.length_map, HRN.out, List.append_nil]
          have s1 : StrsAt ((A ++ B.take m).map Prod.snd) (.slice ao rn c9) w9 := by
            have h1 := HR9.out
            rw [List.append_nil] at h1
            refine StrsAt.of_owns (base := w8.heap.size) ?_
            rw [hlen]; exact h1
          have s2 : StrsAt ((A ++ B.take m).map Prod.snd) (.slice vo rn vc) w9 := by
            have h1 : StrsAt ((A ++ B).map Prod.snd ++ zs) (.slice vo ((A ++ B).map Prod.snd ++ zs).length vc) w9 := by rw [← hx9]; exact StrsAt.of_owns HOA9.out
            have h2 := h1.take rn vc (by rw [← hx9]; exact hrn2) hrc hvc2
            have h3 := first_take A B m zs
            rw [show (A ++ B.take m).length = rn from by rw [HRN.out, List.append_nil]] at h3
            rw [h3] at h2
            exact h2
          exact rtexts_same _ _ _ w' (s1.later hb) (s2.later hb))
        clear hx9
        go_wp2_with fail
        refine (TX.out w9 (Below.refl _ _)).mono ?_
        rintro e w10 ⟨rfl, hb10⟩
        have G10 := hidm (G9.out.later hb10)
        clear hb10 TX
        go_wp2_with fail
        refine G10.out.gen.mono ?_
        rintro e wx ⟨rfl, rfl⟩
        have HB10 := hidm G10.out.bel
        go_wp2_with fail
        refine (known_any _).mono ?_
        rintro e wk ⟨rfl, hb⟩
        have HBK := hidm (HB10.out.trans (hb.mono HB10.out.size))
        clear hb
        go_wp2_with fail
        go_ret
        exact ⟨rfl, HBK.out⟩
theorem laidOut : laidOutB Try.prog = true := by kernel_rfl
set_option maxRecDepth 100000 in
theorem contract (H : Type) (enc : TypeId × Value → H) (W : World) (base : Nat) (args : Array Value) (ds gs : List (DataW H)) (before : List MemPlace)
    (hval : ∀ (j : Nat) t v, Try.f4.params[j]? = some t → args[j]? = some v → Value.okWide Try.prog W .any base t v)
    (hW : DataW.Whole enc Try.prog Try.f4.params.toList Rows.walSafeSpec.vars false W args.toList ds gs before)
    (hsz0 : (DataW.weightsEach Try.prog (Try.f4.params.toList ++ Rows.walSafeSpec.plain.varTypes Try.prog) (ds ++ gs)).all (· ≤ reachBytes) = true) :
    Calls Try.prog 4 args W fun e W' => ∃ v, e = .returned v ∧ Rows.walSafeSpec.post enc Try.prog Try.f4 false true false false W args v W' := by
  have hW' := hW
  obtain ⟨p, q, hA0, hV, rfl, hfz, hnd⟩ := hW
  have hA : DataW.TrodAll enc Try.prog W 0 (fun _ => true) true Try.f4.params.toList args.toList ds p := hA0
  rw [Try.params4] at hA hval hsz0
  obtain ⟨v0, vs0, d0, ds0, p0, q0, hargs, rfl, rfl, h0, r0⟩ := trodAll_cons hA
  obtain ⟨v1, vs1, d1, ds1, p1, q1, rfl, rfl, rfl, h1, r1⟩ := trodAll_cons r0
  obtain ⟨v2, vs2, d2, ds2, p2, q2, rfl, rfl, rfl, h2, r2⟩ := trodAll_cons r1
  obtain ⟨rfl, rfl, rfl⟩ := trodAll_nil r2
  obtain rfl : args = #[v0, v1, v2] := by cases args; simp_all
  obtain ⟨rfl, rfl⟩ := trodVars_none hV
  have hsz := fun n hn => of_decide_eq_true (List.all_eq_true.1 hsz0 n hn)
  obtain ⟨l, hml, hnl⟩ := open_ops (hval 0 27 v0 rfl rfl) h0
  obtain ⟨f, rfl, hd1, hp1, wf⟩ := open_int Try.underlying3 (hval 1 3 v1 rfl rfl) h1
  have bf := bounds_i64 wf
  obtain ⟨ks, kso, ksc, rfl, hmks⟩ := open_bools (hval 2 28 v2 rfl rfl) h2
  clear hA0 hsz0
  simp only [List.append_nil] at hW'
  have hlt : ∀ x ∈ p0 ++ p1 ++ p2, x.block < W.heap.size := fun x hx => hW'.lt x (by simpa using hx)
  have walk := law_any l _ f bf ks kso ksc W hml hmks
  refine walk.mono fun e W' ⟨he, hg⟩ => ?_
  subst he
  refine ⟨_, rfl, Fr.post_made (pa := p0 ++ (p1 ++ p2)) (pv := []) hW' (fun _ _ _ => trodAll_cons_mk (shut_bool Try.underlying4 _) trodAll_mk0) (fun sp hsp => ?_) (fun _ _ => rfl) (by simp) hg (ok_one (by kernel_rfl) rfl (okWide_bool_mk Try.underlying4 _))⟩
  have g0 : DataW.Trod enc Try.prog W' 0 sp true 27 _ d0 p0 := WideElems.Trod_stays laidOut (by kernel_rfl) (of_decide_eq_true (by kernel_rfl)) h0 (fun x hx => hg.same (hlt x (by simp [hx]))) (fun x hx => hsp x (by simp [hx]))
  have g1 : DataW.Trod enc Try.prog W' 0 sp true 3 _ d1 p1 := WideElems.Trod_stays laidOut (by kernel_rfl) (of_decide_eq_true (by kernel_rfl)) h1 (fun x hx => hg.same (hlt x (by simp [hx]))) (fun x hx => hsp x (by simp [hx]))
  have g2 : DataW.Trod enc Try.prog W' 0 sp true 28 _ d2 p2 := WideElems.Trod_stays laidOut (by kernel_rfl) (of_decide_eq_true (by kernel_rfl)) h2 (fun x hx => hg.same (hlt x (by simp [hx]))) (fun x hx => hsp x (by simp [hx]))
  have hT := (trodAll_cons_mk g0 (trodAll_cons_mk g1 (trodAll_cons_mk g2 trodAll_mk0)))
  simp only [List.append_nil] at hT
  exact hT
set_option maxRecDepth 100000 in
theorem lifted (os : Os) (started : os.Started) (H : Type) (enc : TypeId × Value → H) :
    ReturnsInHanded {} Try.checked os 4 .any (Rows.walSafeSpec.pre6 enc Try.prog Try.f4 Rows.walSafeRow.domain false) (Rows.walSafeSpec.post enc Try.prog Try.f4 false true false false) := by
  refine returnsInHanded_of_change_sized (C := Try.checked) Fr.own started (by kernel_rfl) Try.func4
    (ChangeSpec.witness6 (enc := enc) (C := Try.checked) false ⟨#[], #[.slice none 0 0, .int .i64 0, .slice none 0 0], []⟩ 8 (by kernel_rfl) (by kernel_rfl) (by kernel_rfl) (by kernel_rfl)) ?_
  intro W base args ds gs before hval hW _ hsz _
  exact contract H enc W base args ds gs before hval hW hsz
theorem said : Rows.WalSafeSaid :=
  OpenClaim.holds_of_wide 4 Try.f4 rfl rfl rfl rfl rfl rfl rfl ⟨rfl, rfl, rfl, rfl, rfl⟩ rfl rfl rfl rfl rfl (by kernel_rfl) Try.func4 (by kernel_rfl)
    (of_decide_eq_true (by kernel_rfl)) (by unfold Func.isWrapper; first | (rw [if_pos (by decide +kernel)]; kernel_rfl) | (rw [if_neg (by decide +kernel)]; exact ⟨rfl, rfl⟩))
    (fun os started H enc _ => lifted os started H enc)
end LaWalSafe
end Go.Proofs.Ytpamffheapnoaaa
