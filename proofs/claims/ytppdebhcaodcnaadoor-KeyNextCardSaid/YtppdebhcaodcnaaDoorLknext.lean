/- KeyNext of the landed program returns true for every two texts. No other condition. -/
import Derived.Test.YtppdebhcaodcnaaDoorYn
import Derived.Test.YtppdebhcaodcnaaDoorFrK
namespace Go.Proofs.YtppdebhcaodcnaaDoor
open Go.ChangeShapes Go.WideShapes Go.ChangeAt Go.RowKit Cod
open Go.ChangeMaps (open_string shut_string)
namespace LaKeyNext
theorem lx_next (s : List UInt8) : Ky.lx s (s ++ [0]) = -1 := by
  have h := Ky.lx_app s [] [0]
  rw [List.append_nil] at h
  rw [h]; rfl
theorem lx_step : ∀ s t : List UInt8, Ky.lx s t < 0 → Ky.lx (s ++ [0]) t ≤ 0
  | [], [], h => by simp [Ky.lx] at h
  | [], b :: m, _ => by
    have z : (0 : UInt8).toNat = 0 := rfl
    simp only [List.nil_append, Ky.lx, z]
    split
    · omega
    · split
      · omega
      · cases m <;> simp [Ky.lx]
  | _ :: _, [], h => by simp [Ky.lx] at h
  | a :: l, b :: m, h => by
    simp only [List.cons_append, Ky.lx] at h ⊢
    split
    · omega
    · rename_i h1
      rw [if_neg h1] at h
      split
      · rename_i h2; rw [if_pos h2] at h; omega
      · rename_i h2; rw [if_neg h2] at h; exact lx_step l m h
theorem bytes_is (a b : ByteArray) (c : Int) (hc : Ky.lx a.data.toList b.data.toList = c) (ha : a.size ≤ 1000000) (hb : b.size ≤ 1000000) (w : World) :
    Calls Tryd.prog 27 #[.string a, .string b] w fun e w' => e = .returned (.int .i64 c) ∧ Below w.heap.size w w' := by
  have h := Ref.bytes_any a b w (by omega) (by omega)
  have e : Val.cmpS a b = c := by rw [← hc, ← Ky.lx_cmpS, Cod.S_of]
  rw [e] at h
  exact h
set_option maxHeartbeats 4000000 in
set_option maxRecDepth 100000 in
theorem long1 (s t : ByteArray) (w : World) (hm : Ky.ML w) (g1 : decide ((300 : Int) < s.size) = true) : Calls Tryd.prog 9 #[.string s, .string t] w fun e w' => e = .returned (.bool true) ∧ Below w.heap.size w w' := by
  have HM := Lib.hid hm
  clear hm
  go_enter Tryd.func9, Tryd.ntmps9
  go_wp2_with fail
  refine (Ky.known_any _ HM.out).mono ?_
  rintro e w1 ⟨rfl, hb⟩
  go_wp2_with fail
  go_ret
  exact ⟨rfl, hb⟩
set_option maxHeartbeats 4000000 in
set_option maxRecDepth 100000 in
theorem long2 (s t : ByteArray) (w : World) (hm : Ky.ML w) (g1 : decide ((300 : Int) < s.size) = false) (g2 : decide ((300 : Int) < t.size) = true) : Calls Tryd.prog 9 #[.string s, .string t] w fun e w' => e = .returned (.bool true) ∧ Below w.heap.size w w' := by
  have HM := Lib.hid hm
  clear hm
  go_enter Tryd.func9, Tryd.ntmps9
  go_wp2_with fail
  refine (Ky.known_any _ HM.out).mono ?_
  rintro e w1 ⟨rfl, hb⟩
  go_wp2_with fail
  go_ret
  exact ⟨rfl, hb⟩
set_option maxHeartbeats 4000000 in
set_option maxRecDepth 100000 in
theorem at_ge (s t : ByteArray) (w : World) (hm : Ky.ML w) (g1 : ¬ (300 : Int) < s.size) (g2 : ¬ (300 : Int) < t.size) (c : Int) (hc : Hid (Ky.lx s.data.toList t.data.toList = c)) (g3 : (0 : Int) ≤ c) : Calls Tryd.prog 9 #[.string s, .string t] w fun e w' => e = .returned (.bool true) ∧ Below w.heap.size w w' := by
  have HM := Lib.hid hm
  have B1 := fun u => bytes_is s (Cod.S (s.data.toList ++ [0])) (-1) (lx_next _) (by omega) (by rw [Cod.S_size, List.length_append]; simp; omega) u
  have B2 := fun u => bytes_is s t c hc.out (by omega) (by omega) u
  have NX := Ky.next_any s (by omega)
  obtain ⟨T, hT⟩ : ∃ T, T = Cod.S (s.data.toList ++ [0]) := ⟨_, rfl⟩
  rw [← hT] at B1 NX
  clear hm hT
  go_enter Tryd.func9, Tryd.ntmps9
  go_wp2_with fail
  refine (NX _).mono ?_
  rintro e w0 ⟨rfl, rfl⟩
  go_wp2_with fail
  refine (B1 _).mono ?_
  rintro e w1 ⟨rfl, hb⟩
  have HB1 := Lib.hid hb
  have HM1 := Lib.hid (HM.out.later hb)
  clear hb
  go_wp2_with fail
  refine (B2 _).mono ?_
  rintro e w2 ⟨rfl, hb⟩
  have HB2 := Lib.hid (HB1.out.trans (hb.mono HB1.out.size))
  have HM2 := Lib.hid (HM1.out.later hb)
  clear hb
  go_wp2_with fail
  refine (Ky.known_any _ HM2.out).mono ?_
  rintro e w9 ⟨rfl, hb⟩
  have HB9 := Lib.hid (HB2.out.trans (hb.mono HB2.out.size))
  clear hb
  go_wp2_with fail
  go_ret
  exact ⟨rfl, HB9.out⟩
set_option maxHeartbeats 4000000 in
set_option maxRecDepth 100000 in
theorem at_lt (s t : ByteArray) (w : World) (hm : Ky.ML w) (g1 : ¬ (300 : Int) < s.size) (g2 : ¬ (300 : Int) < t.size) (c d : Int) (hc : Hid (Ky.lx s.data.toList t.data.toList = c)) (hd : Hid (Ky.lx (s.data.toList ++ [0]) t.data.toList = d)) (g3 : ¬ (0 : Int) ≤ c) (g4 : d ≤ 0) : Calls Tryd.prog 9 #[.string s, .string t] w fun e w' => e = .returned (.bool true) ∧ Below w.heap.size w w' := by
  have HM := Lib.hid hm
  have B1 := fun u => bytes_is s (Cod.S (s.data.toList ++ [0])) (-1) (lx_next _) (by omega) (by rw [Cod.S_size, List.length_append]; simp; omega) u
  have B2 := fun u => bytes_is s t c hc.out (by omega) (by omega) u
  have B3 := fun u => bytes_is (Cod.S (s.data.toList ++ [0])) t d hd.out (by rw [Cod.S_size, List.length_append]; simp; omega) (by omega) u
  have NX := Ky.next_any s (by omega)
  obtain ⟨T, hT⟩ : ∃ T, T = Cod.S (s.data.toList ++ [0]) := ⟨_, rfl⟩
  rw [← hT] at B1 B3 NX
  clear hm hT
  go_enter Tryd.func9, Tryd.ntmps9
  go_wp2_with fail
  refine (NX _).mono ?_
  rintro e w0 ⟨rfl, rfl⟩
  go_wp2_with fail
  refine (B1 _).mono ?_
  rintro e w1 ⟨rfl, hb⟩
  have HB1 := Lib.hid hb
  have HM1 := Lib.hid (HM.out.later hb)
  clear hb
  go_wp2_with fail
  refine (B2 _).mono ?_
  rintro e w2 ⟨rfl, hb⟩
  have HB2 := Lib.hid (HB1.out.trans (hb.mono HB1.out.size))
  have HM2 := Lib.hid (HM1.out.later hb)
  clear hb
  go_wp2_with fail
  refine (B3 _).mono ?_
  rintro e w3 ⟨rfl, hb⟩
  have HB3 := Lib.hid (HB2.out.trans (hb.mono HB2.out.size))
  have HM3 := Lib.hid (HM2.out.later hb)
  clear hb
  go_wp2_with fail
  refine (Ky.known_any _ HM3.out).mono ?_
  rintro e w9 ⟨rfl, hb⟩
  have HB9 := Lib.hid (HB3.out.trans (hb.mono HB3.out.size))
  clear hb
  go_wp2_with fail
  go_ret
  exact ⟨rfl, HB9.out⟩
theorem law_any (s t : ByteArray) (w : World) (hm : Ky.ML w) : Calls Tryd.prog 9 #[.string s, .string t] w fun e w' => e = .returned (.bool true) ∧ Below w.heap.size w w' := by
  by_cases g1 : (300 : Int) < s.size
  · exact long1 s t w hm (decide_eq_true g1)
  · by_cases g2 : (300 : Int) < t.size
    · exact long2 s t w hm (decide_eq_false g1) (decide_eq_true g2)
    · by_cases g3 : 0 ≤ Ky.lx s.data.toList t.data.toList
      · exact at_ge s t w hm g1 g2 _ (Lib.hid rfl) g3
      · exact at_lt s t w hm g1 g2 _ _ (Lib.hid rfl) (Lib.hid rfl) g3 (lx_step _ _ (by omega))
theorem laidOut : laidOutB Tryd.prog = true := by kernel_rfl
set_option maxRecDepth 100000 in
theorem contract (H : Type) (enc : TypeId × Value → H) (W : World) (base : Nat) (args : Array Value) (ds gs : List (DataW H)) (before : List MemPlace)
    (hval : ∀ (j : Nat) t v, Tryd.f9.params[j]? = some t → args[j]? = some v → Value.okWide Tryd.prog W .any base t v)
    (hW : DataW.Whole enc Tryd.prog Tryd.f9.params.toList Rows.keyNextSpec.vars false W args.toList ds gs before) (hml : Ky.ML W) :
    Calls Tryd.prog 9 args W fun e W' => ∃ v, e = .returned v ∧ Rows.keyNextSpec.post enc Tryd.prog Tryd.f9 false true false false W args v W' := by
  have hW' := hW
  obtain ⟨p, q, hA0, hV, rfl, hfz, hnd⟩ := hW
  have hA : DataW.TrodAll enc Tryd.prog W 0 (fun _ => true) true Tryd.f9.params.toList args.toList ds p := hA0
  rw [Tryd.params9] at hA hval
  obtain ⟨v0, vs0, d0, ds0, p0, q0, hargs, rfl, rfl, h0, r0⟩ := trodAll_cons hA
  obtain ⟨v1, vs1, d1, ds1, p1, q1, rfl, rfl, rfl, h1, r1⟩ := trodAll_cons r0
  obtain ⟨rfl, rfl, rfl⟩ := trodAll_nil r1
  obtain rfl : args = #[v0, v1] := by cases args; simp_all
  obtain ⟨rfl, rfl⟩ := trodVars_none hV
  obtain ⟨s, rfl, rfl, rfl, ws⟩ := open_string Tryd.underlying9 (hval 0 9 v0 rfl rfl) h0
  obtain ⟨t, rfl, rfl, rfl, wt⟩ := open_string Tryd.underlying9 (hval 1 9 v1 rfl rfl) h1
  clear hA0
  simp only [List.append_nil] at hW'
  have walk := law_any s t W hml
  refine walk.mono fun e W' ⟨he, hg⟩ => ?_
  subst he
  refine ⟨_, rfl, Fr.post_made (pa := []) (pv := []) hW' (fun _ _ _ => trodAll_cons_mk (shut_bool Tryd.underlying4 _) trodAll_mk0) (fun sp hsp => ?_) (fun _ _ => rfl) (by simp) hg (ok_one (by kernel_rfl) rfl (okWide_bool_mk Tryd.underlying4 _))⟩
  exact trodAll_cons_mk (shut_string Tryd.underlying9 ws) (trodAll_cons_mk (shut_string Tryd.underlying9 wt) trodAll_mk0)
theorem reads (os : Os) {H : Type} (enc : TypeId × Value → H) : ∃ places, DataW.whole enc Tryd.prog ((World.laidAll Tryd.prog os Rows.keyNextRow.laid).forCall (fun _ _ => 0) ⟨#[], #[.string ⟨#[]⟩, .string ⟨#[]⟩], []⟩).memory Tryd.f9.params.toList Rows.keyNextSpec.vars false (#[.string ⟨#[]⟩, .string ⟨#[]⟩] : Array Value).toList 8 = some ([.lit (.string []), .lit (.string [])], [], places) :=
  ⟨[], by kernel_rfl⟩
set_option maxRecDepth 100000 in
theorem lifted (os : Os) (started : os.Started) (H : Type) (enc : TypeId × Value → H) (F : Stop.Interp) :
    ReturnsInHanded {} Tryd.checked os 9 .any ((OpenSpec.ofChange Rows.keyNextSpec).preRow enc Tryd.prog Tryd.f9 Rows.keyNextRow.domain false Rows.keyNextRow.laid) (((OpenSpec.ofChange Rows.keyNextSpec).at F).post enc Tryd.prog Tryd.f9 false true false false) := by
  obtain ⟨places, hx⟩ := reads os enc
  refine returnsInHanded_of_row (C := Tryd.checked) (s := OpenSpec.ofChange Rows.keyNextSpec) Fr.own started (by kernel_rfl) Tryd.func9
    (Fr.wit (World.laidAll Tryd.prog os Rows.keyNextRow.laid) #[.string ⟨#[]⟩, .string ⟨#[]⟩] (World.laidAll_os _ _ _) (World.shaped_of_ZipB (by kernel_rfl) (by kernel_rfl)) (by kernel_rfl)
      (OpenSpec.preRow_of_cond 8 hx (by kernel_rfl) (fun k hk => by cases hk) (by kernel_rfl) (laidMet_laidAll _ (by kernel_rfl) (by kernel_rfl)))) ?_
  intro W base args ds gs before hval hW _ _ _ _ hsh _
  exact contract H enc W base args ds gs before hval hW (Tryd.laysM143.s1_3 W hsh)
theorem said : Rows.KeyNextSaid :=
  OpenClaim.holds_of_cond 9 Tryd.f9 rfl rfl rfl rfl rfl rfl rfl ⟨rfl, rfl, rfl, rfl, rfl⟩ rfl rfl rfl rfl rfl (by kernel_rfl) Tryd.func9 (by kernel_rfl)
    (of_decide_eq_true (by kernel_rfl)) (by unfold Func.isWrapper; first | (rw [if_pos (by decide +kernel)]; kernel_rfl) | (rw [if_neg (by decide +kernel)]; exact ⟨rfl, rfl⟩))
    (fun os started H enc _ F => by rw [OpenClaim.pre_eq_preRow]; exact lifted os started H enc F)
theorem plain (f : FuncId) (fn : Func) (hf : Tryd.pinned.checked.prog.funcNamed "memoir/memoirlaw04.KeyNext" = some f) (hfn : Tryd.pinned.checked.prog.funcs[f]? = some fn) :
    true = Tryd.pinned.checked.prog.looks [] ∧ ∀ (j : Nat) t, fn.params[j]? = some t → Tryd.pinned.checked.prog.wantsStandIn t = false := by
  obtain rfl : f = 9 := Option.some.inj ((show Tryd.prog.funcNamed "memoir/memoirlaw04.KeyNext" = some 9 by kernel_rfl).symm.trans hf) |>.symm
  obtain rfl : fn = Tryd.f9 := (Option.some.inj (Tryd.func9.symm.trans hfn)).symm
  refine ⟨by kernel_rfl, fun j t ht => ?_⟩
  rw [Tryd.params9] at ht
  have hm := Array.mem_of_getElem? ht
  simp only [List.mem_toArray, List.mem_cons, List.not_mem_nil, or_false] at hm
  rcases hm with rfl | rfl
  all_goals first | exact (show Tryd.prog.wantsStandIn 9 = false by kernel_rfl) | exact (show Tryd.prog.wantsStandIn 30 = false by kernel_rfl)
theorem card : Rows.KeyNextCardSaid :=
  Claim7.holds_tied_plain_at .later [] _ _ _ _ said (fun _ h => by cases h) (by kernel_rfl) (fun _ h => by cases h) keyNext_row_tie rfl ⟨rfl, rfl⟩ (by kernel_rfl) rfl plain (by kernel_rfl)
end LaKeyNext
end Go.Proofs.YtppdebhcaodcnaaDoor
