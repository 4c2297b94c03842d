/- ValueReads is proved: for every input the law returns true and its arguments read as they did; its listed variables are tied to the program's text. No other condition. -/
import Derived.Test.YtppdebhcaodcnaaDoorFrV
import Derived.Test.YtppdebhcaodcnaaDoorTs
namespace Go.Proofs.YtppdebhcaodcnaaDoor
open Go.ChangeShapes Go.WideShapes Go.ChangeAt Go.RowKit
namespace LaValueReads
theorem eta (s : ByteArray) : (⟨s.data.toList.toArray⟩ : ByteArray) = s := by
  rw [Array.toArray_toList]
theorem parse_some (T : ByteArray) (hmax : T.size ≤ 35184372088832) (k n : Int) (b : Nat) (s : ByteArray) (h : Rd.parse T.data.toList = some ⟨k, n, b, s.data.toList⟩) (w : World) (he : Val.Env w) :
    Calls Tryd.prog 12 #[.string T] w fun e w' => e = .returned (.tuple #[.agg #[.int .i64 k, .int .i64 n, .int .u64 b, .string s], .int .i64 0]) ∧ Below w.heap.size w w' := by
  have g := Rd.parse_any T hmax w he
  rw [h] at g
  refine g.mono ?_
  rintro e w' ⟨rfl, hb⟩
  exact ⟨by rw [eta], hb⟩
theorem parse_none (T : ByteArray) (hmax : T.size ≤ 35184372088832) (h : Rd.parse T.data.toList = none) (w : World) (he : Val.Env w) :
    Calls Tryd.prog 12 #[.string T] w fun e w' => e = .returned (.tuple #[.agg #[.int .i64 0, .int .i64 0, .int .u64 0, .string ⟨#[]⟩], .int .i64 7]) ∧ Below w.heap.size w w' := by
  have g := Rd.parse_any T hmax w he
  rw [h] at g
  exact g
theorem show_is (k n : Int) (b : Nat) (s T : ByteArray) (h0 : -9223372036854775808 ≤ n) (h1 : n ≤ 9223372036854775807) (hb : b < 18446744073709551616) (h : T.data.toList = Val.showL k n b s) (w : World) (he : Val.Env w) :
    Calls Tryd.prog 30 #[.agg #[.int .i64 k, .int .i64 n, .int .u64 b, .string s]] w fun e w' => e = .returned (.string T) ∧ Below w.heap.size w w' := by
  refine (Val.show_any k n b s w he h0 h1 hb).mono ?_
  rintro e w' ⟨rfl, hb⟩
  exact ⟨by rw [← h, eta], hb⟩
theorem right_is (k n : Int) (b : Nat) (s : ByteArray) (v : Bool) (h : Val.rightB k n b s = v) (w : World) :
    Calls Tryd.prog 34 #[.agg #[.int .i64 k, .int .i64 n, .int .u64 b, .string s]] w fun e w' => e = .returned (.bool v) ∧ Below w.heap.size w w' := by
  have g := Val.right_any k n b s w
  rw [h] at g; exact g
theorem self_eqV (k n : Int) (b : Nat) (s : ByteArray) : Val.eqV k n b s k n b s = true := (Rd.eqV_iff _ _ _ _ _ _ _ _).2 ⟨rfl, rfl, rfl, rfl⟩
theorem rparse_some (q : ByteArray) (hp : ∀ u, Calls Tryd.prog 13 #[.string q] u (Ref.Parses q u)) (k n : Int) (b : Nat) (s : ByteArray) (h : Rd.parse q.data.toList = some ⟨k, n, b, s.data.toList⟩) (w : World) :
    Calls Tryd.prog 13 #[.string q] w fun e w' => e = .returned (.tuple #[.agg #[.int .i64 k, .int .i64 n, .int .u64 b, .string s], .int .i64 0]) ∧ Below w.heap.size w w' := by
  refine (hp w).mono ?_
  rintro e w' ⟨h1, h2⟩
  rw [h] at h1
  refine ⟨?_, h2⟩
  have h3 : e = Ending.returned (.tuple #[.agg #[.int .i64 k, .int .i64 n, .int .u64 b, .string ⟨s.data.toList.toArray⟩], .int .i64 0]) := h1
  rw [h3, eta]
theorem rparse_none (q : ByteArray) (hp : ∀ u, Calls Tryd.prog 13 #[.string q] u (Ref.Parses q u)) (h : Rd.parse q.data.toList = none) (w : World) :
    Calls Tryd.prog 13 #[.string q] w fun e w' => e = .returned (.tuple #[.agg #[.int .i64 0, .int .i64 0, .int .u64 0, .string ⟨#[]⟩], .int .i64 7]) ∧ Below w.heap.size w w' := by
  refine (hp w).mono ?_
  rintro e w' ⟨h1, h2⟩
  rw [h] at h1
  exact ⟨h1, h2⟩
set_option maxHeartbeats 4000000 in
set_option maxRecDepth 100000 in
theorem vr_long (q : ByteArray) (w : World) (he : Val.Env w) (g1 : decide ((300 : Int) < q.size) = true) : Calls Tryd.prog 3 #[.string q] w fun e w' => e = .returned (.bool true) ∧ Below w.heap.size w w' := by
  have HE := Lib.hid he
  clear he
  go_enter Tryd.func3, Tryd.ntmps3
  go_wp2_with fail
  refine (Rd.known_any _ HE.out).mono ?_
  rintro e w1 ⟨rfl, hb⟩
  go_wp2_with fail
  go_ret
  exact ⟨rfl, hb⟩
set_option maxHeartbeats 4000000 in
set_option maxRecDepth 100000 in
theorem vr_some (q : ByteArray) (w : World) (he : Val.Env w) (g1 : decide ((300 : Int) < q.size) = false) (hq : Hid (q.size ≤ 35184372088832)) (hp : Hid (∀ u, Calls Tryd.prog 13 #[.string q] u (Ref.Parses q u))) (k n : Int) (b : Nat) (s : ByteArray) (hr : Hid (Rd.parse q.data.toList = some ⟨k, n, b, s.data.toList⟩)) : Calls Tryd.prog 3 #[.string q] w fun e w' => e = .returned (.bool true) ∧ Below w.heap.size w w' := by
  have HE0 := Lib.hid he
  have B0 := Lib.hid (Below.refl w.heap.size w)
  have Z0 : w.heap.size ≤ w.heap.size := Nat.le_refl _
  clear he
  have gq := self_eqV k n b s
  go_enter Tryd.func3, Tryd.ntmps3
  go_wp2_with fail
  refine (parse_some q hq.out k n b s hr.out _ HE0.out).mono ?_
  rintro e w1 ⟨rfl, hbn⟩
  have HE1 := Lib.hid (HE0.out.below hbn)
  have B1 := Lib.hid (B0.out.trans (hbn.mono Z0))
  have Z1 : w.heap.size ≤ w1.heap.size := Nat.le_trans Z0 hbn.size
  clear hbn HE0 B0 Z0 
  have HE1a := Lib.hid (HE1.out.below ((Below.refl w1.heap.size w1).alloc (Nat.le_refl _) (.cells #[.int .i64 k, .int .i64 n, .int .u64 b, .string s] 25)))
  have T31a := Lib.hid (Rd.Box.new w1 k n b s)
  have B1a := Lib.hid (B1.out.alloc Z1 (.cells #[.int .i64 k, .int .i64 n, .int .u64 b, .string s] 25))
  have Z1a : w.heap.size ≤ (w1.alloc (.cells #[.int .i64 k, .int .i64 n, .int .u64 b, .string s] 25)).heap.size := by simp; omega
  clear HE1 B1 Z1 
  go_wp2_with fail
  refine (rparse_some q hp.out k n b s hr.out _).mono ?_
  rintro e w2 ⟨rfl, hbn⟩
  have HE2 := Lib.hid (HE1a.out.below hbn)
  have T32 := Lib.hid (T31a.out.below hbn)
  have B2 := Lib.hid (B1a.out.trans (hbn.mono Z1a))
  have Z2 : w.heap.size ≤ w2.heap.size := Nat.le_trans Z1a hbn.size
  clear hbn HE1a B1a Z1a T31a
  have HE2a := Lib.hid (HE2.out.below ((Below.refl w2.heap.size w2).alloc (Nat.le_refl _) (.cells #[.int .i64 k, .int .i64 n, .int .u64 b, .string s] 25)))
  have T32a := Lib.hid (T32.out.old (.cells #[.int .i64 k, .int .i64 n, .int .u64 b, .string s] 25))
  have T52a := Lib.hid (Rd.Box.new w2 k n b s)
  have B2a := Lib.hid (B2.out.alloc Z2 (.cells #[.int .i64 k, .int .i64 n, .int .u64 b, .string s] 25))
  have Z2a : w.heap.size ≤ (w2.alloc (.cells #[.int .i64 k, .int .i64 n, .int .u64 b, .string s] 25)).heap.size := by simp; omega
  clear HE2 B2 Z2 T32
  have qT30 := T32a.out.c0
  have qT31 := T32a.out.c1
  have qT32 := T32a.out.c2
  have qT33 := T32a.out.c3
  have qT50 := T52a.out.c0
  have qT51 := T52a.out.c1
  have qT52 := T52a.out.c2
  have qT53 := T52a.out.c3
  go_wp2_with fail
  refine (Rd.known_any _ HE2a.out).mono ?_
  rintro e w7 ⟨rfl, hbn⟩
  have B7 := Lib.hid (B2a.out.trans (hbn.mono Z2a))
  clear hbn
  go_wp2_with fail
  go_ret
  exact ⟨rfl, B7.out⟩
set_option maxHeartbeats 4000000 in
set_option maxRecDepth 100000 in
theorem vr_none (q : ByteArray) (w : World) (he : Val.Env w) (g1 : decide ((300 : Int) < q.size) = false) (hq : Hid (q.size ≤ 35184372088832)) (hp : Hid (∀ u, Calls Tryd.prog 13 #[.string q] u (Ref.Parses q u))) (hr : Hid (Rd.parse q.data.toList = none)) : Calls Tryd.prog 3 #[.string q] w fun e w' => e = .returned (.bool true) ∧ Below w.heap.size w w' := by
  have HE0 := Lib.hid he
  have B0 := Lib.hid (Below.refl w.heap.size w)
  have Z0 : w.heap.size ≤ w.heap.size := Nat.le_refl _
  clear he
  have gq := self_eqV 0 0 0 ⟨#[]⟩
  go_enter Tryd.func3, Tryd.ntmps3
  go_wp2_with fail
  refine (parse_none q hq.out hr.out _ HE0.out).mono ?_
  rintro e w1 ⟨rfl, hbn⟩
  have HE1 := Lib.hid (HE0.out.below hbn)
  have B1 := Lib.hid (B0.out.trans (hbn.mono Z0))
  have Z1 : w.heap.size ≤ w1.heap.size := Nat.le_trans Z0 hbn.size
  clear hbn HE0 B0 Z0 
  have HE1a := Lib.hid (HE1.out.below ((Below.refl w1.heap.size w1).alloc (Nat.le_refl _) (.cells #[.int .i64 0, .int .i64 0, .int .u64 0, .string ⟨#[]⟩] 25)))
  have T31a := Lib.hid (Rd.Box.new w1 0 0 0 ⟨#[]⟩)
  have B1a := Lib.hid (B1.out.alloc Z1 (.cells #[.int .i64 0, .int .i64 0, .int .u64 0, .string ⟨#[]⟩] 25))
  have Z1a : w.heap.size ≤ (w1.alloc (.cells #[.int .i64 0, .int .i64 0, .int .u64 0, .string ⟨#[]⟩] 25)).heap.size := by simp; omega
  clear HE1 B1 Z1 
  go_wp2_with fail
  refine (rparse_none q hp.out hr.out _).mono ?_
  rintro e w2 ⟨rfl, hbn⟩
  have HE2 := Lib.hid (HE1a.out.below hbn)
  have T32 := Lib.hid (T31a.out.below hbn)
  have B2 := Lib.hid (B1a.out.trans (hbn.mono Z1a))
  have Z2 : w.heap.size ≤ w2.heap.size := Nat.le_trans Z1a hbn.size
  clear hbn HE1a B1a Z1a T31a
  have HE2a := Lib.hid (HE2.out.below ((Below.refl w2.heap.size w2).alloc (Nat.le_refl _) (.cells #[.int .i64 0, .int .i64 0, .int .u64 0, .string ⟨#[]⟩] 25)))
  have T32a := Lib.hid (T32.out.old (.cells #[.int .i64 0, .int .i64 0, .int .u64 0, .string ⟨#[]⟩] 25))
  have T52a := Lib.hid (Rd.Box.new w2 0 0 0 ⟨#[]⟩)
  have B2a := Lib.hid (B2.out.alloc Z2 (.cells #[.int .i64 0, .int .i64 0, .int .u64 0, .string ⟨#[]⟩] 25))
  have Z2a : w.heap.size ≤ (w2.alloc (.cells #[.int .i64 0, .int .i64 0, .int .u64 0, .string ⟨#[]⟩] 25)).heap.size := by simp; omega
  clear HE2 B2 Z2 T32
  have qT30 := T32a.out.c0
  have qT31 := T32a.out.c1
  have qT32 := T32a.out.c2
  have qT33 := T32a.out.c3
  have qT50 := T52a.out.c0
  have qT51 := T52a.out.c1
  have qT52 := T52a.out.c2
  have qT53 := T52a.out.c3
  go_wp2_with fail
  refine (Rd.known_any _ HE2a.out).mono ?_
  rintro e w7 ⟨rfl, hbn⟩
  have B7 := Lib.hid (B2a.out.trans (hbn.mono Z2a))
  clear hbn
  go_wp2_with fail
  go_ret
  exact ⟨rfl, B7.out⟩
theorem law_of (q : ByteArray) (w : World) (he : Val.Env w) (hp0 : q.size ≤ 1099511627776 → ∀ u, Calls Tryd.prog 13 #[.string q] u (Ref.Parses q u)) : Calls Tryd.prog 3 #[.string q] w fun e w' => e = .returned (.bool true) ∧ Below w.heap.size w w' := by
  by_cases g1 : (300 : Int) < q.size
  · exact vr_long q w he (decide_eq_true g1)
  · have d1 := decide_eq_false g1
    have hq : Hid (q.size ≤ 35184372088832) := Lib.hid (by omega)
    have hp := hp0 (by omega)
    cases hr : Rd.parse q.data.toList with
    | none => exact vr_none q w he d1 hq (Lib.hid hp) (Lib.hid hr)
    | some v => exact vr_some q w he d1 hq (Lib.hid hp) v.k v.n v.b ⟨v.s.toArray⟩ (Lib.hid hr)
set_option maxRecDepth 100000 in
theorem contract (H : Type) (enc : TypeId × Value → H) (W : World) (base : Nat) (args : Array Value) (ds gs : List (DataW H)) (before : List MemPlace)
    (hval : ∀ (j : Nat) t v, Tryd.f3.params[j]? = some t → args[j]? = some v → Value.okWide Tryd.prog W .any base t v)
    (hW : DataW.Whole enc Tryd.prog Tryd.f3.params.toList Rows.valueReadsSpec.vars false W args.toList ds gs before) (hL : laidMet Tryd.prog Rows.valueReadsRow.laid W) :
    Calls Tryd.prog 3 args W fun e W' => ∃ v, e = .returned v ∧ Rows.valueReadsSpec.post enc Tryd.prog Tryd.f3 false true false false W args v W' := by
  have hW' := hW
  obtain ⟨p, q, hA0, hV, rfl, hfz, hnd⟩ := hW
  have hA : DataW.TrodAll enc Tryd.prog W 0 (fun _ => true) true Tryd.f3.params.toList args.toList ds p := hA0
  rw [Tryd.params3] at hA hval
  obtain ⟨v0, vs0, d0, ds0, p0, q0, hargs, rfl, rfl, h0, r0⟩ := trodAll_cons hA
  obtain ⟨rfl, rfl, rfl⟩ := trodAll_nil r0
  obtain rfl : args = #[v0] := by cases args; simp_all
  obtain ⟨rfl, rfl⟩ := trodVars_none hV
  obtain ⟨q, rfl, rfl, rfl, wq⟩ := ChangeMaps.open_string Tryd.underlying9 (hval 0 9 v0 rfl rfl) h0
  clear hA0
  simp only [List.append_nil] at hW'
  have he := Fr.env_of hL
  have walk := law_of q W he (fun hq u => Ref.parse_any q hq u)
  refine walk.mono fun e W' ⟨he, hg⟩ => ?_
  subst he
  exact ⟨_, rfl, Fr.post_made (pa := []) (pv := []) hW' (fun _ _ _ => trodAll_cons_mk (shut_bool Tryd.underlying4 _) trodAll_mk0) (fun _ _ => (trodAll_cons_mk (ChangeMaps.shut_string Tryd.underlying9 wq) trodAll_mk0)) (fun _ _ => rfl) rfl hg (ok_one (by kernel_rfl) rfl (okWide_bool_mk Tryd.underlying4 _))⟩
theorem reads (os : Os) {H : Type} (enc : TypeId × Value → H) : ∃ places, DataW.whole enc Tryd.prog ((World.doorLaid Tryd.prog 600 os).forCall (fun _ _ => 0) ⟨#[], #[.string ⟨#[]⟩], []⟩).memory Tryd.f3.params.toList Rows.valueReadsSpec.vars false (#[.string ⟨#[]⟩] : Array Value).toList 8 = some ([.lit (.string [])], [], places) :=
  ⟨[], by kernel_rfl⟩
set_option maxRecDepth 100000 in
theorem lifted (os : Os) (started : os.Started) (H : Type) (enc : TypeId × Value → H) (F : Stop.Interp) :
    ReturnsInHanded {} Tryd.checked os 3 .any ((OpenSpec.ofChange Rows.valueReadsSpec).preRow enc Tryd.prog Tryd.f3 Rows.valueReadsRow.domain false Rows.valueReadsRow.laid) (((OpenSpec.ofChange Rows.valueReadsSpec).at F).post enc Tryd.prog Tryd.f3 false true false false) := by
  obtain ⟨places, hx⟩ := reads os enc
  refine returnsInHanded_of_row (C := Tryd.checked) (s := OpenSpec.ofChange Rows.valueReadsSpec) Fr.own started (by kernel_rfl) Tryd.func3
    (witness_row_atRef (enc := enc) (C := Tryd.checked) false (World.doorLaid Tryd.prog 600 os) #[.string ⟨#[]⟩] rfl (by kernel_rfl) (by kernel_rfl) (by kernel_rfl)
      (OpenSpec.preRow_of_cond 8 hx (by kernel_rfl) (fun k hk => by cases hk) (by kernel_rfl) (Fr.door_met os _))) ?_
  intro W base args ds gs before hval hW _ _ _ hL _ _
  exact contract H enc W base args ds gs before hval hW hL
theorem said : Rows.ValueReadsSaid :=
  OpenClaim.holds_of_cond 3 Tryd.f3 rfl rfl rfl rfl rfl rfl rfl ⟨rfl, rfl, rfl, rfl, rfl⟩ rfl rfl rfl rfl rfl (by kernel_rfl) Tryd.func3 (by kernel_rfl)
    (of_decide_eq_true (by kernel_rfl)) (by unfold Func.isWrapper; first | (rw [if_pos (by decide +kernel)]; kernel_rfl) | (rw [if_neg (by decide +kernel)]; exact ⟨rfl, rfl⟩))
    (fun os started H enc _ F => by rw [OpenClaim.pre_eq_preRow]; exact lifted os started H enc F)
theorem plain (f : FuncId) (fn : Func) (hf : Tryd.pinned.checked.prog.funcNamed "memoir/memoirlaw01.ValueReads" = some f) (hfn : Tryd.pinned.checked.prog.funcs[f]? = some fn) :
    true = Tryd.pinned.checked.prog.looks [] ∧ ∀ (j : Nat) t, fn.params[j]? = some t → Tryd.pinned.checked.prog.wantsStandIn t = false := by
  obtain rfl : f = 3 := Option.some.inj ((show Tryd.prog.funcNamed "memoir/memoirlaw01.ValueReads" = some 3 by kernel_rfl).symm.trans hf) |>.symm
  obtain rfl : fn = Tryd.f3 := (Option.some.inj (Tryd.func3.symm.trans hfn)).symm
  refine ⟨by kernel_rfl, fun j t ht => ?_⟩
  rw [Tryd.params3] at ht
  have hm := Array.mem_of_getElem? ht
  simp only [List.mem_toArray, List.mem_cons, List.not_mem_nil, or_false] at hm
  subst hm
  exact (show Tryd.prog.wantsStandIn 9 = false by kernel_rfl)
theorem card : Rows.ValueReadsCardSaid :=
  Claim7.holds_tied_plain_at .later [] _ _ _ _ said (fun _ h => by cases h) (by kernel_rfl) (fun _ h => by cases h) valueReads_row_tie rfl ⟨rfl, rfl⟩ (by kernel_rfl) rfl plain (by kernel_rfl)
end LaValueReads
end Go.Proofs.YtppdebhcaodcnaaDoor
