/- PeriodDiffs walked, given what the program's functions do. Condition: as each says. -/
import Derived.Test.YtoacombaddknfaaOq
namespace Go.Proofs.Ytoacombaddknfaa
open Go.RowKit
namespace Prd
open Spn (Sp hide At below_alloc Right rcut Has Meets mid)
open Cod (V RowAt)
def DiffC : Prop := ∀ (l l' : List Pm) (sl sl' : Value) (w : World), PcsAt l sl w → Rows3 l w → Small l → PcsAt l' sl' w → Rows3 l' w → Small l' →
  Calls Try.prog 25 #[sl, sl'] w fun e w' => ∃ (m m' : List Pm) (u u' : Value), e = .returned (.tuple #[u, u']) ∧ PcsAt m u w' ∧ PcsAt m' u' w' ∧ Rows3 m w' ∧ Rows3 m' w' ∧ pcs m = goesR (pcs l) (pcs l') ∧ pcs m' = goesR (pcs l') (pcs l) ∧ Below w.heap.size w w'
theorem goesR_sub {a b : List (Sp × List V)} {p : Sp × List V} (h : p ∈ goesR a b) : p ∈ a := by
  unfold goesR at h
  split at h
  · exact List.filter_sublist.subset h
  · cases h
theorem goesR_le (a b : List (Sp × List V)) : (goesR a b).length ≤ a.length := by
  unfold goesR
  split
  · exact goes_le _ _
  · simp
theorem small_goes {l m : List Pm} {b : List (Sp × List V)} (hs : Small l) (h : pcs m = goesR (pcs l) b) : Small m := by
  have h1 := goesR_le (pcs l) b
  rw [← h, pcs_len, pcs_len] at h1
  exact small_of hs (by have := hs.n; omega) (fun p hp => ⟨p, by rw [h] at hp; exact goesR_sub hp, rfl⟩)
theorem light_small {l : List Pm} (h : lightB l = true) (hi : ∀ x, x ∈ l → x.inn) : Small l := by
  obtain ⟨h1, h2⟩ := (lightB_iff l).1 h
  exact ⟨by omega, fun x hx => by have := h2 x hx; omega, fun x hx => (hi x hx).r⟩
set_option maxHeartbeats 8000000 in
set_option maxRecDepth 100000 in
theorem diffs_walk (hD : DiffC) (hS : SameC) (hK : KnownC) {a b : List Pm} {av bv : Value} {w : World} (ha : PcsAt a av w) (hra : Rows3 a w) (hia : ∀ x, x ∈ a → x.inn) (hb : PcsAt b bv w) (hrb : Rows3 b w) (hib : ∀ x, x ∈ b → x.inn) :
    Calls Try.prog 4 #[av, bv] w fun x w' => x = .returned (.bool true) ∧ Below w.heap.size w w' := by
  have HD := hide hD
  have HS := hide hS
  have HK := hide hK
  have Aa0 := hide ha
  have Ra0 := hide hra
  have Ab0 := hide hb
  have Rb0 := hide hrb
  have CL := hide (show ∀ u, Below w.heap.size w u → _ from fun u hu => light_any (hb.later hu (Nat.le_refl _)))
  have C1 := light_any ha
  clear hD hS hK ha hra hb hrb
  cases hla : lightB a with
  | false =>
    rw [hla] at C1
    have C1 := hide C1
    go_enter Try.func4, Try.ntmps4
    go_wp2_with fail
    refine C1.out.mono ?_
    rintro e w1 ⟨rfl, hb⟩
    have HB1 := hide hb
    have C2 := hide (HK.out w1)
    clear hb C1 hla
    go_wp2_with fail
    refine C2.out.mono ?_
    rintro e w2 ⟨rfl, hb⟩
    have HB2 := hide (HB1.out.trans (hb.mono HB1.out.size))
    clear hb C2
    go_wp2_with fail
    go_ret
    exact ⟨rfl, HB2.out⟩
  | true =>
    rw [hla] at C1
    have C1 := hide C1
    have Sa := hide (light_small hla hia)
    clear hla hia
    cases hlb : lightB b with
    | false =>
      rw [hlb] at CL
      go_enter Try.func4, Try.ntmps4
      go_wp2_with fail
      refine C1.out.mono ?_
      rintro e w1 ⟨rfl, hb⟩
      have HB1 := hide hb
      have C2 := hide (CL.out w1 hb)
      clear hb C1 hlb
      go_wp2_with fail
      refine C2.out.mono ?_
      rintro e w2 ⟨rfl, hb⟩
      have HB2 := hide (HB1.out.trans (hb.mono HB1.out.size))
      have C3 := hide (HK.out w2)
      clear hb C2
      go_wp2_with fail
      refine C3.out.mono ?_
      rintro e w3 ⟨rfl, hb⟩
      have HB3 := hide (HB2.out.trans (hb.mono HB2.out.size))
      clear hb C3
      go_wp2_with fail
      go_ret
      exact ⟨rfl, HB3.out⟩
    | true =>
      rw [hlb] at CL
      have Sb := hide (light_small hlb hib)
      obtain ⟨d, hd⟩ : ∃ d, d = decide (pcs a = pcs b) := ⟨_, rfl⟩
      have HDD := hide hd
      clear hlb hib hd
      go_enter Try.func4, Try.ntmps4
      have C := C1.out
      have C := hide C
      go_wp2_with fail
      refine C.out.mono ?_
      rintro e w1 ⟨rfl, hb⟩
      have HB1 := hide hb
      have Aa1 := hide (Aa0.out.later hb (Nat.le_refl _))
      have Ra1 := hide (Ra0.out.later hb)
      have Ab1 := hide (Ab0.out.later hb (Nat.le_refl _))
      have Rb1 := hide (Rb0.out.later hb)
      clear C hb Aa0 Ra0 Ab0 Rb0
      clear C1
      have C := CL.out w1 HB1.out
      have C := hide C
      go_wp2_with fail
      refine C.out.mono ?_
      rintro e w2 ⟨rfl, hb⟩
      have HB2 := hide (HB1.out.trans (hb.mono HB1.out.size))
      have Aa2 := hide (Aa1.out.later hb (Nat.le_refl _))
      have Ra2 := hide (Ra1.out.later hb)
      have Ab2 := hide (Ab1.out.later hb (Nat.le_refl _))
      have Rb2 := hide (Rb1.out.later hb)
      clear C hb Aa1 Ra1 Ab1 Rb1 HB1
      clear CL
      have C := HD.out a b av bv w2 Aa2.out Ra2.out Sa.out Ab2.out Rb2.out Sb.out
      have C := hide C
      go_wp2_with fail
      refine C.out.mono ?_
      rintro e w3 ⟨x, y, xv, yv, rfl, hx, hy, hrx, hry, hpx, hpy, hb⟩
      have HB3 := hide (HB2.out.trans (hb.mono HB2.out.size))
      have Aa3 := hide (Aa2.out.later hb (Nat.le_refl _))
      have Ra3 := hide (Ra2.out.later hb)
      have Ab3 := hide (Ab2.out.later hb (Nat.le_refl _))
      have Rb3 := hide (Rb2.out.later hb)
      have Ax3 := hide hx
      have Rx3 := hide hrx
      have Ay3 := hide hy
      have Ry3 := hide hry
      have Px := hide hpx
      have Py := hide hpy
      have Sx := hide (small_goes Sa.out hpx)
      have Sy := hide (small_goes Sb.out hpy)
      clear hx hy hrx hry hpx hpy
      clear C hb Aa2 Ra2 Ab2 Rb2 HB2
      have C := plain_any Aa3.out Sa.out.n
      have C := hide C
      go_wp2_with fail
      refine C.out.mono ?_
      rintro e w4 ⟨pav, rfl, hz, hb⟩
      have HB4 := hide (HB3.out.trans (hb.mono HB3.out.size))
      have Aa4 := hide (Aa3.out.later hb (Nat.le_refl _))
      have Ra4 := hide (Ra3.out.later hb)
      have Ab4 := hide (Ab3.out.later hb (Nat.le_refl _))
      have Rb4 := hide (Rb3.out.later hb)
      have Ax4 := hide (Ax3.out.later hb (Nat.le_refl _))
      have Rx4 := hide (Rx3.out.later hb)
      have Ay4 := hide (Ay3.out.later hb (Nat.le_refl _))
      have Ry4 := hide (Ry3.out.later hb)
      have Apa4 := hide hz
      have Rpa4 := hide (Ra3.out.later hb)
      clear hz
      clear C hb Aa3 Ra3 Ab3 Rb3 Ax3 Rx3 Ay3 Ry3 HB3
      have C := plain_any Ab4.out Sb.out.n
      have C := hide C
      go_wp2_with fail
      refine C.out.mono ?_
      rintro e w5 ⟨pbv, rfl, hz, hb⟩
      have HB5 := hide (HB4.out.trans (hb.mono HB4.out.size))
      have Aa5 := hide (Aa4.out.later hb (Nat.le_refl _))
      have Ra5 := hide (Ra4.out.later hb)
      have Ab5 := hide (Ab4.out.later hb (Nat.le_refl _))
      have Rb5 := hide (Rb4.out.later hb)
      have Ax5 := hide (Ax4.out.later hb (Nat.le_refl _))
      have Rx5 := hide (Rx4.out.later hb)
      have Ay5 := hide (Ay4.out.later hb (Nat.le_refl _))
      have Ry5 := hide (Ry4.out.later hb)
      have Apa5 := hide (Apa4.out.later hb (Nat.le_refl _))
      have Rpa5 := hide (Rpa4.out.later hb)
      have Apb5 := hide hz
      have Rpb5 := hide (Rb4.out.later hb)
      clear hz
      clear C hb Aa4 Ra4 Ab4 Rb4 Ax4 Rx4 Ay4 Ry4 Apa4 Rpa4 HB4
      have C := rdiff_any Apa5.out Rpa5.out Sa.out Apb5.out Rpb5.out Sb.out
      have C := hide C
      go_wp2_with fail
      refine C.out.mono ?_
      rintro e w6 ⟨u, t, uv, tv, rfl, hx, hy, hfx, hfy, hpx, hpy, hb⟩
      have HB6 := hide (HB5.out.trans (hb.mono HB5.out.size))
      have Aa6 := hide (Aa5.out.later hb (Nat.le_refl _))
      have Ra6 := hide (Ra5.out.later hb)
      have Ab6 := hide (Ab5.out.later hb (Nat.le_refl _))
      have Rb6 := hide (Rb5.out.later hb)
      have Ax6 := hide (Ax5.out.later hb (Nat.le_refl _))
      have Rx6 := hide (Rx5.out.later hb)
      have Ay6 := hide (Ay5.out.later hb (Nat.le_refl _))
      have Ry6 := hide (Ry5.out.later hb)
      have Apa6 := hide (Apa5.out.later hb (Nat.le_refl _))
      have Rpa6 := hide (Rpa5.out.later hb)
      have Apb6 := hide (Apb5.out.later hb (Nat.le_refl _))
      have Rpb6 := hide (Rpb5.out.later hb)
      have Au6 := hide hx
      have Ru6 := hide (hfx.rows (Rpa5.out.later hb))
      have At6 := hide hy
      have Rt6 := hide (hfy.rows (Rpb5.out.later hb))
      have Pu := hide hpx
      have Pt := hide hpy
      have Su := hide (small_goes Sa.out hpx)
      have St := hide (small_goes Sb.out hpy)
      clear hx hy hfx hfy hpx hpy
      clear C hb Aa5 Ra5 Ab5 Rb5 Ax5 Rx5 Ay5 Ry5 Apa5 Rpa5 Apb5 Rpb5 HB5
      clear Apa6 Rpa6
      clear Apb6 Rpb6
      have C := plain_any Ax6.out Sx.out.n
      have C := hide C
      go_wp2_with fail
      refine C.out.mono ?_
      rintro e w7 ⟨pxv, rfl, hz, hb⟩
      have HB7 := hide (HB6.out.trans (hb.mono HB6.out.size))
      have Aa7 := hide (Aa6.out.later hb (Nat.le_refl _))
      have Ra7 := hide (Ra6.out.later hb)
      have Ab7 := hide (Ab6.out.later hb (Nat.le_refl _))
      have Rb7 := hide (Rb6.out.later hb)
      have Ax7 := hide (Ax6.out.later hb (Nat.le_refl _))
      have Rx7 := hide (Rx6.out.later hb)
      have Ay7 := hide (Ay6.out.later hb (Nat.le_refl _))
      have Ry7 := hide (Ry6.out.later hb)
      have Au7 := hide (Au6.out.later hb (Nat.le_refl _))
      have Ru7 := hide (Ru6.out.later hb)
      have At7 := hide (At6.out.later hb (Nat.le_refl _))
      have Rt7 := hide (Rt6.out.later hb)
      have Apx7 := hide hz
      have Rpx7 := hide (Rx6.out.later hb)
      clear hz
      clear C hb Aa6 Ra6 Ab6 Rb6 Ax6 Rx6 Ay6 Ry6 Au6 Ru6 At6 Rt6 HB6
      have C := rsame_any Apx7.out Rpx7.out Sx.out Au7.out Ru7.out Su.out
      rw [decide_eq_true (show pcs x = pcs u from by rw [Px.out, Pu.out])] at C
      have C := hide C
      go_wp2_with fail
      refine C.out.mono ?_
      rintro e w8 ⟨rfl, hb⟩
      have HB8 := hide (HB7.out.trans (hb.mono HB7.out.size))
      have Aa8 := hide (Aa7.out.later hb (Nat.le_refl _))
      have Ra8 := hide (Ra7.out.later hb)
      have Ab8 := hide (Ab7.out.later hb (Nat.le_refl _))
      have Rb8 := hide (Rb7.out.later hb)
      have Ax8 := hide (Ax7.out.later hb (Nat.le_refl _))
      have Rx8 := hide (Rx7.out.later hb)
      have Ay8 := hide (Ay7.out.later hb (Nat.le_refl _))
      have Ry8 := hide (Ry7.out.later hb)
      have Au8 := hide (Au7.out.later hb (Nat.le_refl _))
      have Ru8 := hide (Ru7.out.later hb)
      have At8 := hide (At7.out.later hb (Nat.le_refl _))
      have Rt8 := hide (Rt7.out.later hb)
      have Apx8 := hide (Apx7.out.later hb (Nat.le_refl _))
      have Rpx8 := hide (Rpx7.out.later hb)
      clear C hb Aa7 Ra7 Ab7 Rb7 Ax7 Rx7 Ay7 Ry7 Au7 Ru7 At7 Rt7 Apx7 Rpx7 HB7
      have C := plain_any Ay8.out Sy.out.n
      have C := hide C
      go_wp2_with fail
      refine C.out.mono ?_
      rintro e w9 ⟨pyv, rfl, hz, hb⟩
      have HB9 := hide (HB8.out.trans (hb.mono HB8.out.size))
      have Aa9 := hide (Aa8.out.later hb (Nat.le_refl _))
      have Ra9 := hide (Ra8.out.later hb)
      have Ab9 := hide (Ab8.out.later hb (Nat.le_refl _))
      have Rb9 := hide (Rb8.out.later hb)
      have Ax9 := hide (Ax8.out.later hb (Nat.le_refl _))
      have Rx9 := hide (Rx8.out.later hb)
      have Ay9 := hide (Ay8.out.later hb (Nat.le_refl _))
      have Ry9 := hide (Ry8.out.later hb)
      have Au9 := hide (Au8.out.later hb (Nat.le_refl _))
      have Ru9 := hide (Ru8.out.later hb)
      have At9 := hide (At8.out.later hb (Nat.le_refl _))
      have Rt9 := hide (Rt8.out.later hb)
      have Apx9 := hide (Apx8.out.later hb (Nat.le_refl _))
      have Rpx9 := hide (Rpx8.out.later hb)
      have Apy9 := hide hz
      have Rpy9 := hide (Ry8.out.later hb)
      clear hz
      clear C hb Aa8 Ra8 Ab8 Rb8 Ax8 Rx8 Ay8 Ry8 Au8 Ru8 At8 Rt8 Apx8 Rpx8 HB8
      have C := rsame_any Apy9.out Rpy9.out Sy.out At9.out Rt9.out St.out
      rw [decide_eq_true (show pcs y = pcs t from by rw [Py.out, Pt.out])] at C
      have C := hide C
      go_wp2_with fail
      refine C.out.mono ?_
      rintro e w10 ⟨rfl, hb⟩
      have HB10 := hide (HB9.out.trans (hb.mono HB9.out.size))
      have Aa10 := hide (Aa9.out.later hb (Nat.le_refl _))
      have Ra10 := hide (Ra9.out.later hb)
      have Ab10 := hide (Ab9.out.later hb (Nat.le_refl _))
      have Rb10 := hide (Rb9.out.later hb)
      have Ax10 := hide (Ax9.out.later hb (Nat.le_refl _))
      have Rx10 := hide (Rx9.out.later hb)
      have Ay10 := hide (Ay9.out.later hb (Nat.le_refl _))
      have Ry10 := hide (Ry9.out.later hb)
      have Au10 := hide (Au9.out.later hb (Nat.le_refl _))
      have Ru10 := hide (Ru9.out.later hb)
      have At10 := hide (At9.out.later hb (Nat.le_refl _))
      have Rt10 := hide (Rt9.out.later hb)
      have Apx10 := hide (Apx9.out.later hb (Nat.le_refl _))
      have Rpx10 := hide (Rpx9.out.later hb)
      have Apy10 := hide (Apy9.out.later hb (Nat.le_refl _))
      have Rpy10 := hide (Rpy9.out.later hb)
      clear C hb Aa9 Ra9 Ab9 Rb9 Ax9 Rx9 Ay9 Ry9 Au9 Ru9 At9 Rt9 Apx9 Rpx9 Apy9 Rpy9 HB9
      clear Ax10 Rx10
      clear Ay10 Ry10
      clear Apx10 Rpx10
      clear Apy10 Rpy10
      clear Au10 Ru10
      clear At10 Rt10
      have C := HS.out a b av bv w10 Aa10.out Ra10.out Sa.out Ab10.out Rb10.out Sb.out
      rw [← HDD.out] at C
      have C := hide C
      go_wp2_with fail
      refine C.out.mono ?_
      rintro e w11 ⟨rfl, hb⟩
      have HB11 := hide (HB10.out.trans (hb.mono HB10.out.size))
      have Aa11 := hide (Aa10.out.later hb (Nat.le_refl _))
      have Ra11 := hide (Ra10.out.later hb)
      have Ab11 := hide (Ab10.out.later hb (Nat.le_refl _))
      have Rb11 := hide (Rb10.out.later hb)
      clear C hb Aa10 Ra10 Ab10 Rb10 HB10
      have C := plain_any Aa11.out Sa.out.n
      have C := hide C
      go_wp2_with fail
      refine C.out.mono ?_
      rintro e w12 ⟨qav, rfl, hz, hb⟩
      have HB12 := hide (HB11.out.trans (hb.mono HB11.out.size))
      have Aa12 := hide (Aa11.out.later hb (Nat.le_refl _))
      have Ra12 := hide (Ra11.out.later hb)
      have Ab12 := hide (Ab11.out.later hb (Nat.le_refl _))
      have Rb12 := hide (Rb11.out.later hb)
      have Aqa12 := hide hz
      have Rqa12 := hide (Ra11.out.later hb)
      clear hz
      clear C hb Aa11 Ra11 Ab11 Rb11 HB11
      have C := plain_any Ab12.out Sb.out.n
      have C := hide C
      go_wp2_with fail
      refine C.out.mono ?_
      rintro e w13 ⟨qbv, rfl, hz, hb⟩
      have HB13 := hide (HB12.out.trans (hb.mono HB12.out.size))
      have Aa13 := hide (Aa12.out.later hb (Nat.le_refl _))
      have Ra13 := hide (Ra12.out.later hb)
      have Ab13 := hide (Ab12.out.later hb (Nat.le_refl _))
      have Rb13 := hide (Rb12.out.later hb)
      have Aqa13 := hide (Aqa12.out.later hb (Nat.le_refl _))
      have Rqa13 := hide (Rqa12.out.later hb)
      have Aqb13 := hide hz
      have Rqb13 := hide (Rb12.out.later hb)
      clear hz
      clear C hb Aa12 Ra12 Ab12 Rb12 Aqa12 Rqa12 HB12
      have C := rsame_any Aqa13.out Rqa13.out Sa.out Aqb13.out Rqb13.out Sb.out
      rw [← HDD.out] at C
      have C := hide C
      go_wp2_with fail
      refine C.out.mono ?_
      rintro e w14 ⟨rfl, hb⟩
      have HB14 := hide (HB13.out.trans (hb.mono HB13.out.size))
      have Aa14 := hide (Aa13.out.later hb (Nat.le_refl _))
      have Ra14 := hide (Ra13.out.later hb)
      have Ab14 := hide (Ab13.out.later hb (Nat.le_refl _))
      have Rb14 := hide (Rb13.out.later hb)
      have Aqa14 := hide (Aqa13.out.later hb (Nat.le_refl _))
      have Rqa14 := hide (Rqa13.out.later hb)
      have Aqb14 := hide (Aqb13.out.later hb (Nat.le_refl _))
      have Rqb14 := hide (Rqb13.out.later hb)
      clear C hb Aa13 Ra13 Ab13 Rb13 Aqa13 Rqa13 Aqb13 Rqb13 HB13
      have C := HK.out w14
      have C := hide C
      go_wp2_with fail
      refine C.out.mono ?_
      rintro e w15 ⟨rfl, hb⟩
      have HB15 := hide (HB14.out.trans (hb.mono HB14.out.size))
      have Aa15 := hide (Aa14.out.later hb (Nat.le_refl _))
      have Ra15 := hide (Ra14.out.later hb)
      have Ab15 := hide (Ab14.out.later hb (Nat.le_refl _))
      have Rb15 := hide (Rb14.out.later hb)
      have Aqa15 := hide (Aqa14.out.later hb (Nat.le_refl _))
      have Rqa15 := hide (Rqa14.out.later hb)
      have Aqb15 := hide (Aqb14.out.later hb (Nat.le_refl _))
      have Rqb15 := hide (Rqb14.out.later hb)
      clear C hb Aa14 Ra14 Ab14 Rb14 Aqa14 Rqa14 Aqb14 Rqb14 HB14
      go_wp2_with fail
      go_ret
      exact ⟨rfl, HB15.out⟩
end Prd
end Go.Proofs.Ytoacombaddknfaa
