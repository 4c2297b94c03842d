/- KeyTells of the landed program returns true for every two keys. No other condition. -/
import Derived.Test.YtppdebhcaodcnaaDoorYq
import Derived.Test.YtppdebhcaodcnaaDoorYu
import Derived.Test.YtppdebhcaodcnaaDoorFrK
namespace Go.Proofs.YtppdebhcaodcnaaDoor
open Go.ChangeShapes Go.WideShapes Go.ChangeAt Go.RowKit Cod
open Go.ChangeMaps (open_string shut_string)
namespace LaKeyTells
theorem rof_is {vs : List V} {sl : Value} {T : ByteArray} (hT : T = S (Ky.ofB vs)) (hl : Ky.lightB vs = true) (hi : ∀ x ∈ vs, x.inn) (w : World) (hr : RowAt vs sl w) :
    Calls Tryd.prog 17 #[sl] w fun e w' => e = .returned (.string T) ∧ Below w.heap.size w w' := by
  have g := Ky.rof_any vs sl hi (by have := Ky.light_len hl; omega) w hr
  rw [← hT] at g
  exact g
theorem rck_is {a b : List V} {sa sb : Value} {c : Int} (hc : Ky.cmpKk a b = c) (ha : Ky.lightB a = true) (hb : Ky.lightB b = true) (ia : ∀ x ∈ a, x.inn) (ib : ∀ x ∈ b, x.inn) (w : World) (h1 : RowAt a sa w) (h2 : RowAt b sb w) :
    Calls Tryd.prog 19 #[sa, sb] w fun e w' => e = .returned (.int .i64 c) ∧ Below w.heap.size w w' := by
  have g := Ky.rloop_any a b sa sb (by have := Ky.light_len ha; omega) (by have := Ky.light_len hb; omega) ia ib w h1 h2
  rw [hc] at g
  exact g
theorem rpre_is {a b : List V} {sa sb : Value} {v : Bool} (hv : Ky.preB a b = v) (ha : Ky.lightB a = true) (hb : Ky.lightB b = true) (ia : ∀ x ∈ a, x.inn) (w : World) (h1 : RowAt a sa w) (h2 : RowAt b sb w) :
    Calls Tryd.prog 21 #[sa, sb] w fun e w' => e = .returned (.bool v) ∧ Below w.heap.size w w' := by
  have g := Ky.rprefix_any a b sa sb (by have := Ky.light_len ha; omega) (by have := Ky.light_len hb; omega) ia w h1 h2
  rw [hv] at g
  exact g
theorem next_is (T : ByteArray) (hs : T.size ≤ 1000000) (w : World) :
    Calls Tryd.prog 22 #[.string T] w fun e w' => e = .returned (.string (T ++ ⟨#[0]⟩)) ∧ Below w.heap.size w w' := by
  refine (Ky.next_any T hs w).mono ?_
  rintro e w' ⟨rfl, rfl⟩
  refine ⟨congrArg (fun q => Ending.returned (.string q)) ?_, Below.refl _ _⟩
  conv => rhs; lhs; rw [← S_of T]
  exact (S_append _ [0]).symm
set_option maxHeartbeats 4000000 in
set_option maxRecDepth 100000 in
theorem p0 (a b : List V) (sa : Value) (sb : Value) (w : World) (hm : Ky.ML w) (ra : RowAt a sa w) (rb : RowAt b sb w) (na : a.length ≤ 9223372036854775807) (_nb : b.length ≤ 9223372036854775807) (l1 : Hid (Ky.lightB a = false)) : Calls Tryd.prog 4 #[sa, sb] w fun e w' => e = .returned (.bool true) ∧ Below w.heap.size w w' := by
  have HM0 := Lib.hid hm
  have RA0 := Lib.hid ra
  have RB0 := Lib.hid rb
  have NA := Lib.hid na
  clear hm ra rb na
  go_enter Tryd.func4, Tryd.ntmps4
  go_wp2_with fail
  refine (Ky.light_is l1.out NA.out _ RA0.out).mono ?_
  rintro e w1 ⟨rfl, hb⟩
  have HM1 := Lib.hid (HM0.out.later hb)
  have RA1 := Lib.hid (RA0.out.later hb)
  have RB1 := Lib.hid (RB0.out.later hb)
  have HB1 := Lib.hid hb
  clear hb HM0 RA0 RB0
  go_wp2_with fail
  refine (Ky.known_any _ HM1.out).mono ?_
  rintro e w2 ⟨rfl, hb⟩
  have HM2 := Lib.hid (HM1.out.later hb)
  have RA2 := Lib.hid (RA1.out.later hb)
  have RB2 := Lib.hid (RB1.out.later hb)
  have HB2 := Lib.hid (HB1.out.trans (hb.mono HB1.out.size))
  clear hb HM1 RA1 RB1 HB1
  go_wp2_with fail
  go_ret
  exact ⟨rfl, HB2.out⟩
set_option maxHeartbeats 4000000 in
set_option maxRecDepth 100000 in
theorem p1 (a b : List V) (sa : Value) (sb : Value) (w : World) (hm : Ky.ML w) (ra : RowAt a sa w) (rb : RowAt b sb w) (na : a.length ≤ 9223372036854775807) (nb : b.length ≤ 9223372036854775807) (l1 : Hid (Ky.lightB a = true)) (l2 : Hid (Ky.lightB b = false)) : Calls Tryd.prog 4 #[sa, sb] w fun e w' => e = .returned (.bool true) ∧ Below w.heap.size w w' := by
  have HM0 := Lib.hid hm
  have RA0 := Lib.hid ra
  have RB0 := Lib.hid rb
  have NA := Lib.hid na
  have NB := Lib.hid nb
  clear hm ra rb na nb
  go_enter Tryd.func4, Tryd.ntmps4
  go_wp2_with fail
  refine (Ky.light_is l1.out NA.out _ RA0.out).mono ?_
  rintro e w1 ⟨rfl, hb⟩
  have HM1 := Lib.hid (HM0.out.later hb)
  have RA1 := Lib.hid (RA0.out.later hb)
  have RB1 := Lib.hid (RB0.out.later hb)
  have HB1 := Lib.hid hb
  clear hb HM0 RA0 RB0
  go_wp2_with fail
  refine (Ky.light_is l2.out NB.out _ RB1.out).mono ?_
  rintro e w2 ⟨rfl, hb⟩
  have HM2 := Lib.hid (HM1.out.later hb)
  have RA2 := Lib.hid (RA1.out.later hb)
  have RB2 := Lib.hid (RB1.out.later hb)
  have HB2 := Lib.hid (HB1.out.trans (hb.mono HB1.out.size))
  clear hb HM1 RA1 RB1 HB1
  go_wp2_with fail
  refine (Ky.known_any _ HM2.out).mono ?_
  rintro e w3 ⟨rfl, hb⟩
  have HM3 := Lib.hid (HM2.out.later hb)
  have RA3 := Lib.hid (RA2.out.later hb)
  have RB3 := Lib.hid (RB2.out.later hb)
  have HB3 := Lib.hid (HB2.out.trans (hb.mono HB2.out.size))
  clear hb HM2 RA2 RB2 HB2
  go_wp2_with fail
  go_ret
  exact ⟨rfl, HB3.out⟩
set_option maxHeartbeats 4000000 in
set_option maxRecDepth 100000 in
theorem m0 (a b : List V) (sa : Value) (bo : Option Addr) (nB bcap : Nat) (hn : Hid (nB = b.length)) (hc : Hid (nB ≤ bcap)) (w : World) (hm : Ky.ML w) (ra : RowAt a sa w) (rb : RowAt b (.slice bo nB bcap) w) (na : a.length ≤ 9223372036854775807) (nb : b.length ≤ 9223372036854775807) (ia : Hid (∀ x ∈ a, x.inn)) (ib : Hid (∀ x ∈ b, x.inn)) (l1 : Hid (Ky.lightB a = true)) (l2 : Hid (Ky.lightB b = true)) (ha : a.length ≤ 1000000) (hb : b.length ≤ 1000000) (T : ByteArray) (hT : Hid (T = S (Ky.ofB a))) (zT : T.size ≤ 1000000) (c : Int) (hk : Hid (Ky.cmpKk a b = c)) (v : Bool) (hv : Hid (Ky.preB a b = v)) : Calls Tryd.prog 4 #[sa, .slice bo nB bcap] w fun e w' => e = .returned (.bool true) ∧ Below w.heap.size w w' := by
  have HM0 := Lib.hid hm
  have RA0 := Lib.hid ra
  have RB0 := Lib.hid rb
  have NA := Lib.hid na
  have NB := Lib.hid nb
  clear hm ra rb na nb
  have gs : (T.toList == T.toList) = true := by simp
  have gs2 : ((T ++ ⟨#[0]⟩ : ByteArray).toList == (T ++ ⟨#[0]⟩ : ByteArray).toList) = true := by simp
  have gs3 : (c == c) = true := by simp
  have gs4 : (v == v) = true := by simp
  have gs5 : ¬ 9223372036854775807 < T.size + 1 := by omega
  go_enter Tryd.func4, Tryd.ntmps4
  go_wp2_with fail
  refine (Ky.light_is l1.out NA.out _ RA0.out).mono ?_
  rintro e w1 ⟨rfl, hbw⟩
  have HM1 := Lib.hid (HM0.out.later hbw)
  have RA1 := Lib.hid (RA0.out.later hbw)
  have RB1 := Lib.hid (RB0.out.later hbw)
  have HB1 := Lib.hid hbw
  clear hbw HM0 RA0 RB0
  go_wp2_with fail
  refine (Ky.light_is l2.out NB.out _ RB1.out).mono ?_
  rintro e w2 ⟨rfl, hbw⟩
  have HM2 := Lib.hid (HM1.out.later hbw)
  have RA2 := Lib.hid (RA1.out.later hbw)
  have RB2 := Lib.hid (RB1.out.later hbw)
  have HB2 := Lib.hid (HB1.out.trans (hbw.mono HB1.out.size))
  clear hbw HM1 RA1 RB1 HB1
  go_wp2_with fail
  refine (Ky.of_is hT.out l1.out ia.out _ RA2.out HM2.out).mono ?_
  rintro e w3 ⟨rfl, hbw⟩
  have HM3 := Lib.hid (HM2.out.later hbw)
  have RA3 := Lib.hid (RA2.out.later hbw)
  have RB3 := Lib.hid (RB2.out.later hbw)
  have HB3 := Lib.hid (HB2.out.trans (hbw.mono HB2.out.size))
  clear hbw HM2 RA2 RB2 HB2
  go_wp2_with fail
  refine (rof_is hT.out l1.out ia.out _ RA3.out).mono ?_
  rintro e w4 ⟨rfl, hbw⟩
  have HM4 := Lib.hid (HM3.out.later hbw)
  have RA4 := Lib.hid (RA3.out.later hbw)
  have RB4 := Lib.hid (RB3.out.later hbw)
  have HB4 := Lib.hid (HB3.out.trans (hbw.mono HB3.out.size))
  clear hbw HM3 RA3 RB3 HB3
  go_wp2_with fail
  refine (Ky.cmp_is hk.out l1.out l2.out _ RA4.out RB4.out).mono ?_
  rintro e w5 ⟨rfl, hbw⟩
  have HM5 := Lib.hid (HM4.out.later hbw)
  have RA5 := Lib.hid (RA4.out.later hbw)
  have RB5 := Lib.hid (RB4.out.later hbw)
  have HB5 := Lib.hid (HB4.out.trans (hbw.mono HB4.out.size))
  clear hbw HM4 RA4 RB4 HB4
  go_wp2_with fail
  refine (rck_is hk.out l1.out l2.out ia.out ib.out _ RA5.out RB5.out).mono ?_
  rintro e w6 ⟨rfl, hbw⟩
  have HM6 := Lib.hid (HM5.out.later hbw)
  have RA6 := Lib.hid (RA5.out.later hbw)
  have RB6 := Lib.hid (RB5.out.later hbw)
  have HB6 := Lib.hid (HB5.out.trans (hbw.mono HB5.out.size))
  clear hbw HM5 RA5 RB5 HB5
  go_wp2_with fail
  refine (Ky.pre_is hv.out hn.out hc.out ha hb _ RA6.out RB6.out).mono ?_
  rintro e w7 ⟨rfl, hbw⟩
  have HM7 := Lib.hid (HM6.out.later hbw)
  have RA7 := Lib.hid (RA6.out.later hbw)
  have RB7 := Lib.hid (RB6.out.later hbw)
  have HB7 := Lib.hid (HB6.out.trans (hbw.mono HB6.out.size))
  clear hbw HM6 RA6 RB6 HB6
  go_wp2_with fail
  refine (rpre_is hv.out l1.out l2.out ia.out _ RA7.out RB7.out).mono ?_
  rintro e w8 ⟨rfl, hbw⟩
  have HM8 := Lib.hid (HM7.out.later hbw)
  have RA8 := Lib.hid (RA7.out.later hbw)
  have RB8 := Lib.hid (RB7.out.later hbw)
  have HB8 := Lib.hid (HB7.out.trans (hbw.mono HB7.out.size))
  clear hbw HM7 RA7 RB7 HB7
  go_wp2_with fail
  refine (Ky.of_is hT.out l1.out ia.out _ RA8.out HM8.out).mono ?_
  rintro e w9 ⟨rfl, hbw⟩
  have HM9 := Lib.hid (HM8.out.later hbw)
  have RA9 := Lib.hid (RA8.out.later hbw)
  have RB9 := Lib.hid (RB8.out.later hbw)
  have HB9 := Lib.hid (HB8.out.trans (hbw.mono HB8.out.size))
  clear hbw HM8 RA8 RB8 HB8
  go_wp2_with fail
  refine (next_is T zT _).mono ?_
  rintro e w10 ⟨rfl, hbw⟩
  have HM10 := Lib.hid (HM9.out.later hbw)
  have RA10 := Lib.hid (RA9.out.later hbw)
  have RB10 := Lib.hid (RB9.out.later hbw)
  have HB10 := Lib.hid (HB9.out.trans (hbw.mono HB9.out.size))
  clear hbw HM9 RA9 RB9 HB9
  go_wp2_with fail
  refine (Ky.of_is hT.out l1.out ia.out _ RA10.out HM10.out).mono ?_
  rintro e w11 ⟨rfl, hbw⟩
  have HM11 := Lib.hid (HM10.out.later hbw)
  have RA11 := Lib.hid (RA10.out.later hbw)
  have RB11 := Lib.hid (RB10.out.later hbw)
  have HB11 := Lib.hid (HB10.out.trans (hbw.mono HB10.out.size))
  clear hbw HM10 RA10 RB10 HB10
  go_wp2_with fail
  refine (Ky.known_any _ HM11.out).mono ?_
  rintro e w12 ⟨rfl, hbw⟩
  have HM12 := Lib.hid (HM11.out.later hbw)
  have RA12 := Lib.hid (RA11.out.later hbw)
  have RB12 := Lib.hid (RB11.out.later hbw)
  have HB12 := Lib.hid (HB11.out.trans (hbw.mono HB11.out.size))
  clear hbw HM11 RA11 RB11 HB11
  go_wp2_with fail
  go_ret
  exact ⟨rfl, HB12.out⟩
theorem law_any (a b : List V) (sa : Value) (bo : Option Addr) (bcap : Nat) (w : World) (hm : Ky.ML w) (ra : RowAt a sa w) (rb : RowAt b (.slice bo b.length bcap) w) (hcb : b.length ≤ bcap) (na : a.length ≤ 9223372036854775807) (nb : b.length ≤ 9223372036854775807) (ia : ∀ x ∈ a, x.inn) (ib : ∀ x ∈ b, x.inn) : Calls Tryd.prog 4 #[sa, .slice bo b.length bcap] w fun e w' => e = .returned (.bool true) ∧ Below w.heap.size w w' := by
  rcases l1 : Ky.lightB a with _ | _
  · exact p0 a b sa _ w hm ra rb na nb (Lib.hid l1)
  rcases l2 : Ky.lightB b with _ | _
  · exact p1 a b sa _ w hm ra rb na nb (Lib.hid l1) (Lib.hid l2)
  have ha := Ky.light_len l1
  have hb := Ky.light_len l2
  have zT : (S (Ky.ofB a)).size ≤ 1000000 := by
    rw [S_size]
    unfold Ky.ofB
    split
    · next r1 => have := Ky.body_size ⟨r1, ia⟩; omega
    · simp
  exact m0 a b sa bo b.length bcap (Lib.hid rfl) (Lib.hid hcb) w hm ra rb na nb (Lib.hid ia) (Lib.hid ib) (Lib.hid l1) (Lib.hid l2) (by omega) (by omega) _ (Lib.hid rfl) zT _ (Lib.hid rfl) _ (Lib.hid rfl)
theorem laidOut : laidOutB Tryd.prog = true := by kernel_rfl
set_option maxRecDepth 100000 in
theorem contract (H : Type) (enc : TypeId × Value → H) (W : World) (base : Nat) (args : Array Value) (ds gs : List (DataW H)) (before : List MemPlace)
    (hval : ∀ (j : Nat) t v, Tryd.f4.params[j]? = some t → args[j]? = some v → Value.okWide Tryd.prog W .any base t v)
    (hW : DataW.Whole enc Tryd.prog Tryd.f4.params.toList Rows.keyTellsSpec.vars false W args.toList ds gs before) (hml : Ky.ML W) :
    Calls Tryd.prog 4 args W fun e W' => ∃ v, e = .returned v ∧ Rows.keyTellsSpec.post enc Tryd.prog Tryd.f4 false true false false W args v W' := by
  have hW' := hW
  obtain ⟨p, q, hA0, hV, rfl, hfz, hnd⟩ := hW
  have hA : DataW.TrodAll enc Tryd.prog W 0 (fun _ => true) true Tryd.f4.params.toList args.toList ds p := hA0
  rw [Tryd.params4] at hA hval
  obtain ⟨v0, vs0, d0, ds0, p0, q0, hargs, rfl, rfl, h0, r0⟩ := trodAll_cons hA
  obtain ⟨v1, vs1, d1, ds1, p1, q1, rfl, rfl, rfl, h1, r1⟩ := trodAll_cons r0
  obtain ⟨rfl, rfl, rfl⟩ := trodAll_nil r1
  obtain rfl : args = #[v0, v1] := by cases args; simp_all
  obtain ⟨rfl, rfl⟩ := trodVars_none hV
  obtain ⟨a, hrowa, hina, hla, hca⟩ := Cod.open_vals2 (hval 0 30 v0 rfl rfl) h0
  obtain ⟨b, hrowb, hinb, hlb, hcb⟩ := Cod.open_vals2 (hval 1 30 v1 rfl rfl) h1
  clear hA0
  simp only [List.append_nil] at hW'
  have hlt0 : ∀ x ∈ p0, x.block < W.heap.size := fun x hx => hW'.lt x (by simp [hx])
  have hlt1 : ∀ x ∈ p1, x.block < W.heap.size := fun x hx => hW'.lt x (by simp [hx])
  obtain ⟨bo, bcap, rfl, hcb⟩ := hcb
  have walk := law_any a b v0 bo bcap W hml hrowa hrowb hcb hla hlb hina hinb
  refine walk.mono fun e W' ⟨he, hg⟩ => ?_
  subst he
  refine ⟨_, rfl, Fr.post_made (pa := p0 ++ p1) (pv := []) hW' (fun _ _ _ => trodAll_cons_mk (shut_bool Tryd.underlying4 _) trodAll_mk0) (fun sp hsp => ?_) (fun _ _ => rfl) (by simp) hg (ok_one (by kernel_rfl) rfl (okWide_bool_mk Tryd.underlying4 _))⟩
  have g0 : DataW.Trod enc Tryd.prog W' 0 sp true 30 v0 d0 p0 := WideElems.Trod_stays laidOut (by kernel_rfl) (of_decide_eq_true (by kernel_rfl)) h0 (fun x hx => hg.same (hlt0 x hx)) (fun x hx => hsp x (by simp [hx]))
  have g1 : DataW.Trod enc Tryd.prog W' 0 sp true 30 (.slice bo b.length bcap) d1 p1 := WideElems.Trod_stays laidOut (by kernel_rfl) (of_decide_eq_true (by kernel_rfl)) h1 (fun x hx => hg.same (hlt1 x hx)) (fun x hx => hsp x (by simp [hx]))
  have hT : DataW.TrodAll enc Tryd.prog W' 0 sp true _ _ _ _ := trodAll_cons_mk g0 (trodAll_cons_mk g1 trodAll_mk0)
  simp only [List.append_nil] at hT ⊢
  exact hT
set_option maxRecDepth 100000 in
theorem reads (os : Os) {H : Type} (enc : TypeId × Value → H) : ∃ places, DataW.whole enc Tryd.prog ((World.laidAll Tryd.prog os Rows.keyTellsRow.laid).forCall (fun _ _ => 0) ⟨#[], #[.slice none 0 0, .slice none 0 0], []⟩).memory Tryd.f4.params.toList Rows.keyTellsSpec.vars false (#[.slice none 0 0, .slice none 0 0] : Array Value).toList 8 = some ([.nil, .nil], [], places) :=
  ⟨[], by kernel_rfl⟩
set_option maxRecDepth 100000 in
theorem lifted (os : Os) (started : os.Started) (H : Type) (enc : TypeId × Value → H) (F : Stop.Interp) :
    ReturnsInHanded {} Tryd.checked os 4 .any ((OpenSpec.ofChange Rows.keyTellsSpec).preRow enc Tryd.prog Tryd.f4 Rows.keyTellsRow.domain false Rows.keyTellsRow.laid) (((OpenSpec.ofChange Rows.keyTellsSpec).at F).post enc Tryd.prog Tryd.f4 false true false false) := by
  obtain ⟨places, hx⟩ := reads os enc
  refine returnsInHanded_of_row (C := Tryd.checked) (s := OpenSpec.ofChange Rows.keyTellsSpec) Fr.own started (by kernel_rfl) Tryd.func4
    (Fr.wit (World.laidAll Tryd.prog os Rows.keyTellsRow.laid) #[.slice none 0 0, .slice none 0 0] (World.laidAll_os _ _ _) (World.shaped_of_ZipB (by kernel_rfl) (by kernel_rfl)) (by kernel_rfl)
      (OpenSpec.preRow_of_cond 8 hx (by kernel_rfl) (fun k hk => by cases hk) (by kernel_rfl) (laidMet_laidAll _ (by kernel_rfl) (by kernel_rfl)))) ?_
  intro W base args ds gs before hval hW _ _ _ _ hsh _
  exact contract H enc W base args ds gs before hval hW (Tryd.laysM143.s1_3 W hsh)
set_option maxRecDepth 100000 in
theorem said : Rows.KeyTellsSaid :=
  OpenClaim.holds_of_cond 4 Tryd.f4 rfl rfl rfl rfl rfl rfl rfl ⟨rfl, rfl, rfl, rfl, rfl⟩ rfl rfl rfl rfl rfl (by kernel_rfl) Tryd.func4 (by kernel_rfl)
    (of_decide_eq_true (by kernel_rfl)) (by unfold Func.isWrapper; first | (rw [if_pos (by decide +kernel)]; kernel_rfl) | (rw [if_neg (by decide +kernel)]; exact ⟨rfl, rfl⟩))
    (fun os started H enc _ F => by rw [OpenClaim.pre_eq_preRow]; exact lifted os started H enc F)
set_option maxRecDepth 100000 in
theorem plain (f : FuncId) (fn : Func) (hf : Tryd.pinned.checked.prog.funcNamed "memoir/memoirlaw04.KeyTells" = some f) (hfn : Tryd.pinned.checked.prog.funcs[f]? = some fn) :
    true = Tryd.pinned.checked.prog.looks [] ∧ ∀ (j : Nat) t, fn.params[j]? = some t → Tryd.pinned.checked.prog.wantsStandIn t = false := by
  obtain rfl : f = 4 := Option.some.inj ((show Tryd.prog.funcNamed "memoir/memoirlaw04.KeyTells" = some 4 by kernel_rfl).symm.trans hf) |>.symm
  obtain rfl : fn = Tryd.f4 := (Option.some.inj (Tryd.func4.symm.trans hfn)).symm
  refine ⟨by kernel_rfl, fun j t ht => ?_⟩
  rw [Tryd.params4] at ht
  have hm := Array.mem_of_getElem? ht
  simp only [List.mem_toArray, List.mem_cons, List.not_mem_nil, or_false] at hm
  rcases hm with rfl | rfl
  all_goals first | exact (show Tryd.prog.wantsStandIn 9 = false by kernel_rfl) | exact (show Tryd.prog.wantsStandIn 30 = false by kernel_rfl)
set_option maxRecDepth 100000 in
theorem card : Rows.KeyTellsCardSaid :=
  Claim7.holds_tied_plain_at .later [] _ _ _ _ said (fun _ h => by cases h) (by kernel_rfl) (fun _ h => by cases h) keyTells_row_tie rfl ⟨rfl, rfl⟩ (by kernel_rfl) rfl plain (by kernel_rfl)
end LaKeyTells
end Go.Proofs.YtppdebhcaodcnaaDoor
