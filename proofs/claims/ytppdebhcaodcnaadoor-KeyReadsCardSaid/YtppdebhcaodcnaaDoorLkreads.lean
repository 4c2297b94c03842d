/- KeyReads of the landed program returns true for every text. No other condition. -/
import Derived.Test.YtppdebhcaodcnaaDoorYy
import Derived.Test.YtppdebhcaodcnaaDoorYp
import Derived.Test.YtppdebhcaodcnaaDoorFrK
namespace Go.Proofs.YtppdebhcaodcnaaDoor
open Go.ChangeShapes Go.WideShapes Go.ChangeAt Go.RowKit Cod
open Go.ChangeMaps (open_string shut_string)
namespace LaKeyReads
theorem parse_yes (T : ByteArray) (hs : T.size ≤ 1000000) (us : List V) (hg : Ky.Good us) (hb : Ky.body us = T.data.toList) (w : World) (hm : Ky.ML w) : Calls Tryd.prog 23 #[.string T] w fun e w' => ∃ ao cap, e = .returned (.tuple #[.slice ao us.length cap, .int .i64 0]) ∧ RowAt us (.slice ao us.length cap) w' ∧ Below w.heap.size w w' := by
  refine (Ky.parse_any T hs w hm).mono ?_
  rintro e w' (⟨vs, v, hg2, hb2, rfl, ho, hbl⟩ | ⟨hn, _⟩)
  · have e := Ky.body_inj hg2.both hg.both (hb2.trans hb.symm)
    subst e
    obtain ⟨ao, cap, rfl, _⟩ := RowAt.of_owns ho rfl
    exact ⟨ao, cap, rfl, RowAt.of_owns ho rfl, hbl⟩
  · exact absurd hb (hn _ hg)
theorem parse_no (T : ByteArray) (hs : T.size ≤ 1000000) (hn : ∀ us, Ky.Good us → Ky.body us ≠ T.data.toList) (w : World) (hm : Ky.ML w) : Calls Tryd.prog 23 #[.string T] w fun e w' => e = .returned (.tuple #[.slice none 0 0, .int .i64 7]) ∧ Below w.heap.size w w' := by
  refine (Ky.parse_any T hs w hm).mono ?_
  rintro e w' (⟨vs, v, hg2, hb2, rfl, ho, hbl⟩ | ⟨_, h1, h2⟩)
  · exact absurd hb2 (hn _ hg2)
  · exact ⟨h1, h2⟩
theorem rparse_yes (T : ByteArray) (hs : T.size ≤ 1000000) (us : List V) (hg : Ky.Good us) (hb : Ky.body us = T.data.toList) (w : World) : Calls Tryd.prog 24 #[.string T] w fun e w' => ∃ ao cap, e = .returned (.tuple #[.slice ao us.length cap, .int .i64 0]) ∧ RowAt us (.slice ao us.length cap) w' ∧ Below w.heap.size w w' := by
  refine (Ky.rparse_any T hs w).mono ?_
  rintro e w' (⟨vs, v, hg2, hb2, rfl, ho, hbl⟩ | ⟨hn, _⟩)
  · have e := Ky.body_inj hg2.both hg.both (hb2.trans hb.symm)
    subst e
    obtain ⟨ao, cap, rfl, _⟩ := RowAt.of_owns ho rfl
    exact ⟨ao, cap, rfl, RowAt.of_owns ho rfl, hbl⟩
  · exact absurd hb (hn _ hg)
theorem rparse_no (T : ByteArray) (hs : T.size ≤ 1000000) (hn : ∀ us, Ky.Good us → Ky.body us ≠ T.data.toList) (w : World) : Calls Tryd.prog 24 #[.string T] w fun e w' => e = .returned (.tuple #[.slice none 0 0, .int .i64 7]) ∧ Below w.heap.size w w' := by
  refine (Ky.rparse_any T hs w).mono ?_
  rintro e w' (⟨vs, v, hg2, hb2, rfl, ho, hbl⟩ | ⟨_, h1, h2⟩)
  · exact absurd hb2 (hn _ hg2)
  · exact ⟨h1, h2⟩
theorem row_none (w : World) : RowAt [] (.slice none 0 0) w := ⟨none, 0, rfl, fun h => absurd rfl h⟩
set_option maxHeartbeats 4000000 in
set_option maxRecDepth 100000 in
theorem p0 (s : ByteArray) (w : World) (hm : Ky.ML w) (f1 : (500 : Int) < s.size) : Calls Tryd.prog 5 #[.string s] w fun e w' => e = .returned (.bool true) ∧ Below w.heap.size w w' := by
  have HM0 := Lib.hid hm
  clear hm
  go_enter Tryd.func5, Tryd.ntmps5
  go_wp2_with fail
  refine (Ky.known_any _ HM0.out).mono ?_
  rintro e w1 ⟨rfl, hb⟩
  go_wp2_with fail
  go_ret
  exact ⟨rfl, hb⟩
set_option maxHeartbeats 4000000 in
set_option maxRecDepth 100000 in
theorem m1 (s : ByteArray) (w : World) (hm : Ky.ML w) (f1 : ¬ (500 : Int) < s.size) (zs : s.size ≤ 1000000) (us : List V) (gu : Hid (Ky.Good us ∧ Ky.body us = s.data.toList)) : Calls Tryd.prog 5 #[.string s] w fun e w' => e = .returned (.bool true) ∧ Below w.heap.size w w' := by
  have HM0 := Lib.hid hm
  clear hm
  go_enter Tryd.func5, Tryd.ntmps5
  go_wp2_with fail
  refine (parse_yes s zs us gu.out.1 gu.out.2 _ HM0.out).mono ?_
  rintro e w1 ⟨bo, bcap, rfl, hrb, hb⟩
  have HM1 := Lib.hid (HM0.out.later hb)
  have HB1 := Lib.hid hb
  clear hb HM0
  have RB9 := Lib.hid hrb
  obtain ⟨N, hN⟩ : ∃ N, N = us.length := ⟨_, rfl⟩
  have HN := Lib.hid hN
  rw [← hN] at RB9 ⊢
  clear hrb hN
  go_wp2_with fail
  refine (rparse_yes s zs us gu.out.1 gu.out.2 _).mono ?_
  rintro e w2 ⟨co, ccap, rfl, hrc, hb⟩
  have HM2 := Lib.hid (HM1.out.later hb)
  have RB2 := Lib.hid (RB9.out.later hb)
  have HB2 := Lib.hid (HB1.out.trans (hb.mono HB1.out.size))
  clear hb HM1 RB9 HB1
  have RC9 := Lib.hid hrc
  rw [← HN.out] at RC9 ⊢
  clear hrc
  go_wp2_with fail
  refine (Ky.rows_is (v := true) (decide_eq_true rfl) (by have := gu.out.1.len; omega) (by have := gu.out.1.len; omega) _ RB2.out RC9.out).mono ?_
  rintro e w3 ⟨rfl, hb⟩
  have HM3 := Lib.hid (HM2.out.later hb)
  have RB3 := Lib.hid (RB2.out.later hb)
  have RC3 := Lib.hid (RC9.out.later hb)
  have HB3 := Lib.hid (HB2.out.trans (hb.mono HB2.out.size))
  clear hb HM2 RB2 RC9 HB2
  go_wp2_with fail
  refine (Ky.known_any _ HM3.out).mono ?_
  rintro e w4 ⟨rfl, hb⟩
  have HM4 := Lib.hid (HM3.out.later hb)
  have RB4 := Lib.hid (RB3.out.later hb)
  have RC4 := Lib.hid (RC3.out.later hb)
  have HB4 := Lib.hid (HB3.out.trans (hb.mono HB3.out.size))
  clear hb HM3 RB3 RC3 HB3
  go_wp2_with fail
  go_ret
  exact ⟨rfl, HB4.out⟩
set_option maxHeartbeats 4000000 in
set_option maxRecDepth 100000 in
theorem m0 (s : ByteArray) (w : World) (hm : Ky.ML w) (f1 : ¬ (500 : Int) < s.size) (zs : s.size ≤ 1000000) (qn : Hid (∀ us, Ky.Good us → Ky.body us ≠ s.data.toList)) : Calls Tryd.prog 5 #[.string s] w fun e w' => e = .returned (.bool true) ∧ Below w.heap.size w w' := by
  have HM0 := Lib.hid hm
  clear hm
  go_enter Tryd.func5, Tryd.ntmps5
  go_wp2_with fail
  refine (parse_no s zs qn.out _ HM0.out).mono ?_
  rintro e w1 ⟨rfl, hb⟩
  have HM1 := Lib.hid (HM0.out.later hb)
  have HB1 := Lib.hid hb
  clear hb HM0
  go_wp2_with fail
  refine (rparse_no s zs qn.out _).mono ?_
  rintro e w2 ⟨rfl, hb⟩
  have HM2 := Lib.hid (HM1.out.later hb)
  have HB2 := Lib.hid (HB1.out.trans (hb.mono HB1.out.size))
  clear hb HM1 HB1
  go_wp2_with fail
  refine (Ky.rows_is (a := []) (b := []) (v := true) (decide_eq_true rfl) (by simp) (by simp) _ (row_none _) (row_none _)).mono ?_
  rintro e w3 ⟨rfl, hb⟩
  have HM3 := Lib.hid (HM2.out.later hb)
  have HB3 := Lib.hid (HB2.out.trans (hb.mono HB2.out.size))
  clear hb HM2 HB2
  go_wp2_with fail
  refine (Ky.known_any _ HM3.out).mono ?_
  rintro e w4 ⟨rfl, hb⟩
  have HM4 := Lib.hid (HM3.out.later hb)
  have HB4 := Lib.hid (HB3.out.trans (hb.mono HB3.out.size))
  clear hb HM3 HB3
  go_wp2_with fail
  go_ret
  exact ⟨rfl, HB4.out⟩
theorem law_any (s : ByteArray) (w : World) (hm : Ky.ML w) : Calls Tryd.prog 5 #[.string s] w fun e w' => e = .returned (.bool true) ∧ Below w.heap.size w w' := by
  by_cases f1 : (500 : Int) < s.size
  · exact p0 s w hm f1
  · rcases Classical.em (∃ us, Ky.Good us ∧ Ky.body us = s.data.toList) with ⟨us, h⟩ | h
    · exact m1 s w hm f1 (by omega) us (Lib.hid h)
    · exact m0 s w hm f1 (by omega) (Lib.hid (fun us h1 h2 => h ⟨us, h1, h2⟩))
theorem laidOut : laidOutB Tryd.prog = true := by kernel_rfl
set_option maxRecDepth 100000 in
theorem contract (H : Type) (enc : TypeId × Value → H) (W : World) (base : Nat) (args : Array Value) (ds gs : List (DataW H)) (before : List MemPlace)
    (hval : ∀ (j : Nat) t v, Tryd.f5.params[j]? = some t → args[j]? = some v → Value.okWide Tryd.prog W .any base t v)
    (hW : DataW.Whole enc Tryd.prog Tryd.f5.params.toList Rows.keyReadsSpec.vars false W args.toList ds gs before) (hml : Ky.ML W) :
    Calls Tryd.prog 5 args W fun e W' => ∃ v, e = .returned v ∧ Rows.keyReadsSpec.post enc Tryd.prog Tryd.f5 false true false false W args v W' := by
  have hW' := hW
  obtain ⟨p, q, hA0, hV, rfl, hfz, hnd⟩ := hW
  have hA : DataW.TrodAll enc Tryd.prog W 0 (fun _ => true) true Tryd.f5.params.toList args.toList ds p := hA0
  rw [Tryd.params5] at hA hval
  obtain ⟨v0, vs0, d0, ds0, p0, q0, hargs, rfl, rfl, h0, r0⟩ := trodAll_cons hA
  obtain ⟨rfl, rfl, rfl⟩ := trodAll_nil r0
  obtain rfl : args = #[v0] := by cases args; simp_all
  obtain ⟨rfl, rfl⟩ := trodVars_none hV
  obtain ⟨s, rfl, rfl, rfl, ws⟩ := open_string Tryd.underlying9 (hval 0 9 v0 rfl rfl) h0
  clear hA0
  simp only [List.append_nil] at hW'
  have walk := law_any s W hml
  refine walk.mono fun e W' ⟨he, hg⟩ => ?_
  subst he
  refine ⟨_, rfl, Fr.post_made (pa := []) (pv := []) hW' (fun _ _ _ => trodAll_cons_mk (shut_bool Tryd.underlying4 _) trodAll_mk0) (fun sp hsp => ?_) (fun _ _ => rfl) (by simp) hg (ok_one (by kernel_rfl) rfl (okWide_bool_mk Tryd.underlying4 _))⟩
  exact trodAll_cons_mk (shut_string Tryd.underlying9 ws) trodAll_mk0
set_option maxRecDepth 100000 in
theorem reads (os : Os) {H : Type} (enc : TypeId × Value → H) : ∃ places, DataW.whole enc Tryd.prog ((World.laidAll Tryd.prog os Rows.keyReadsRow.laid).forCall (fun _ _ => 0) ⟨#[], #[.string ⟨#[]⟩], []⟩).memory Tryd.f5.params.toList Rows.keyReadsSpec.vars false (#[.string ⟨#[]⟩] : Array Value).toList 8 = some ([.lit (.string [])], [], places) :=
  ⟨[], by kernel_rfl⟩
set_option maxRecDepth 100000 in
theorem lifted (os : Os) (started : os.Started) (H : Type) (enc : TypeId × Value → H) (F : Stop.Interp) :
    ReturnsInHanded {} Tryd.checked os 5 .any ((OpenSpec.ofChange Rows.keyReadsSpec).preRow enc Tryd.prog Tryd.f5 Rows.keyReadsRow.domain false Rows.keyReadsRow.laid) (((OpenSpec.ofChange Rows.keyReadsSpec).at F).post enc Tryd.prog Tryd.f5 false true false false) := by
  obtain ⟨places, hx⟩ := reads os enc
  refine returnsInHanded_of_row (C := Tryd.checked) (s := OpenSpec.ofChange Rows.keyReadsSpec) Fr.own started (by kernel_rfl) Tryd.func5
    (Fr.wit (World.laidAll Tryd.prog os Rows.keyReadsRow.laid) #[.string ⟨#[]⟩] (World.laidAll_os _ _ _) (World.shaped_of_ZipB (by kernel_rfl) (by kernel_rfl)) (by kernel_rfl)
      (OpenSpec.preRow_of_cond 8 hx (by kernel_rfl) (fun k hk => by cases hk) (by kernel_rfl) (laidMet_laidAll _ (by kernel_rfl) (by kernel_rfl)))) ?_
  intro W base args ds gs before hval hW _ _ _ _ hsh _
  exact contract H enc W base args ds gs before hval hW (Tryd.laysM143.s1_3 W hsh)
set_option maxRecDepth 100000 in
theorem said : Rows.KeyReadsSaid :=
  OpenClaim.holds_of_cond 5 Tryd.f5 rfl rfl rfl rfl rfl rfl rfl ⟨rfl, rfl, rfl, rfl, rfl⟩ rfl rfl rfl rfl rfl (by kernel_rfl) Tryd.func5 (by kernel_rfl)
    (of_decide_eq_true (by kernel_rfl)) (by unfold Func.isWrapper; first | (rw [if_pos (by decide +kernel)]; kernel_rfl) | (rw [if_neg (by decide +kernel)]; exact ⟨rfl, rfl⟩))
    (fun os started H enc _ F => by rw [OpenClaim.pre_eq_preRow]; exact lifted os started H enc F)
set_option maxRecDepth 100000 in
theorem plain (f : FuncId) (fn : Func) (hf : Tryd.pinned.checked.prog.funcNamed "memoir/memoirlaw04.KeyReads" = some f) (hfn : Tryd.pinned.checked.prog.funcs[f]? = some fn) :
    true = Tryd.pinned.checked.prog.looks [] ∧ ∀ (j : Nat) t, fn.params[j]? = some t → Tryd.pinned.checked.prog.wantsStandIn t = false := by
  obtain rfl : f = 5 := Option.some.inj ((show Tryd.prog.funcNamed "memoir/memoirlaw04.KeyReads" = some 5 by kernel_rfl).symm.trans hf) |>.symm
  obtain rfl : fn = Tryd.f5 := (Option.some.inj (Tryd.func5.symm.trans hfn)).symm
  refine ⟨by kernel_rfl, fun j t ht => ?_⟩
  rw [Tryd.params5] at ht
  have hm := Array.mem_of_getElem? ht
  simp only [List.mem_toArray, List.mem_cons, List.not_mem_nil, or_false] at hm
  subst hm
  all_goals first | exact (show Tryd.prog.wantsStandIn 9 = false by kernel_rfl) | exact (show Tryd.prog.wantsStandIn 30 = false by kernel_rfl)
set_option maxRecDepth 100000 in
theorem card : Rows.KeyReadsCardSaid :=
  Claim7.holds_tied_plain_at .later [] _ _ _ _ said (fun _ h => by cases h) (by kernel_rfl) (fun _ h => by cases h) keyReads_row_tie rfl ⟨rfl, rfl⟩ (by kernel_rfl) rfl plain (by kernel_rfl)
end LaKeyReads
end Go.Proofs.YtppdebhcaodcnaaDoor
