/- HeapFull is proved: for every number and byte the law returns true. No other condition. -/
import Derived.Test.YtmccnlffikegfaaGreatDoorZNfto
import Derived.Test.YtmccnlffikegfaaGreatDoorZFrdto
import Derived.Deep.DeepCutAuto
import Derived.Deep.CutBlock
import Derived.WideKeyPair
import Derived.SizedLaws
namespace Go.Proofs.YtmccnlffikegfaaGreatDoor
open Go.ChangeShapes Go.WideShapes Go.ChangeAt Go.RowKit
open Go.ChangeMaps (open_string shut_string)
namespace LaHeapFull
open Pgr Hep
open Dsk (PD Mine KeepQ Only pad zeros cell_later below_keeps)
open Crc (S S_of S_size)
theorem need_full (f : Nat) : need (125 * f + 1) = f + 1 := by unfold need; omega
theorem need_all (f : Nat) (h : 1 ≤ f) : need (125 * f) = f := by unfold need; omega
theorem tmod_nat (a b : Nat) : ((a : Int).tmod (b : Int)) = ((a % b : Nat) : Int) := by rw [Int.tmod_eq_emod_of_nonneg (by omega)]; omega
set_option maxHeartbeats 16000000 in
set_option maxRecDepth 100000 in
theorem law_any (n c : Nat) (hn : n < 256) (hc : c < 256) (w : World) :
    Calls Tryz.prog 4 #[.int .u8 (n : Int), .int .u8 (c : Int)] w fun e w' => e = .returned (.bool true) ∧ Below w.heap.size w w' := by
  obtain ⟨cu, hcu⟩ : ∃ cu : UInt8, cu.toNat = c := ⟨UInt8.ofNat c, by simp; omega⟩
  obtain ⟨r, hr⟩ : ∃ r, r = n % 30 := ⟨_, rfl⟩
  have f1 : ((n : Int).tmod 30) = (r : Int) := by rw [hr]; exact tmod_nat n 30
  have f1w : IntKind.i64.wrap (r : Int) = (r : Int) := by simp only [IntKind.wrap_i64]; omega
  have f0w : IntKind.i64.wrap (n : Int) = (n : Int) := by simp only [IntKind.wrap_i64]; omega
  obtain ⟨many, hm⟩ : ∃ m, m = 3 + r := ⟨_, rfl⟩
  have f2 : 3 + (r : Int) = (many : Int) := by omega
  have f2w : IntKind.i64.wrap (many : Int) = (many : Int) := by simp only [IntKind.wrap_i64]; omega
  obtain ⟨f, hf⟩ : ∃ f, f = many - 2 := ⟨_, rfl⟩
  have f3 : (many : Int) - 2 = (f : Int) := by omega
  have f3w : IntKind.i64.wrap (f : Int) = (f : Int) := by simp only [IntKind.wrap_i64]; omega
  obtain ⟨q, hq⟩ : ∃ q, q = 125 * f := ⟨_, rfl⟩
  have f4 : 125 * (f : Int) = (q : Int) := by omega
  have f4w : IntKind.i64.wrap (q : Int) = (q : Int) := by simp only [IntKind.wrap_i64]; omega
  obtain ⟨q1, hq1⟩ : ∃ x, x = q + 1 := ⟨_, rfl⟩
  have f5 : (q : Int) + 1 = (q1 : Int) := by omega
  have f5w : IntKind.i64.wrap (q1 : Int) = (q1 : Int) := by simp only [IntKind.wrap_i64]; omega
  have HMF := hidm (show many = f + 2 ∧ 1 ≤ f ∧ f ≤ 30 ∧ q = 125 * f ∧ q1 = 125 * f + 1 from ⟨by omega, by omega, by omega, hq, by omega⟩)
  obtain ⟨T, hT⟩ : ∃ T, T = S (manyB q cu) := ⟨_, rfl⟩
  obtain ⟨T1, hT1⟩ : ∃ T, T = S (manyB q1 cu) := ⟨_, rfl⟩
  have LQ := hidm (fun (z : World) => show Calls Tryz.prog 16 #[.int .i64 (q : Int), .int .u8 (c : Int)] z fun e w' => e = .returned (.string T) ∧ Below z.heap.size z w' from by
    rw [hT, ← hcu]; exact long_any q (by omega) cu z)
  have LQ1 := hidm (fun (z : World) => show Calls Tryz.prog 16 #[.int .i64 (q1 : Int), .int .u8 (c : Int)] z fun e w' => e = .returned (.string T1) ∧ Below z.heap.size z w' from by
    rw [hT1, ← hcu]; exact long_any q1 (by omega) cu z)
  have HT := hidm hT
  have HT1 := hidm hT1
  have N0 := hidm (begin_any many (by omega) w)
  have FM := hidm (show ((n : Int).tmod 30) = (r : Int) ∧ 3 + (r : Int) = (many : Int) from ⟨f1, f2⟩)
  clear hr hm hf hq hq1 hT hT1 hcu hn hc
  go_enter Tryz.func4, Tryz.ntmps4
  go_upto_region 2 with fail
  go_wp2_with fail
  refine N0.out.mono ?_
  rintro e w1 ⟨P, L, D, B, Q, rfl, h1⟩
  have H1 := hidm h1.any
  clear h1 N0 f1 f1w f2 f0w
  have C := H1.out.frees
  rw [show many - (2 + (pgs ([] : List Rec)).length) = f by have := HMF.out.1; show many - (2 + 0) = f; omega] at C
  have C := hidm C
  go_wp2_with fail
  refine C.out.mono ?_
  rintro e w2 ⟨rfl, hb⟩
  have H2 := hidm (H1.out.later hb)
  clear hb H1 C
  go_wp2_with fail
  refine (LQ1.out w2).mono ?_
  rintro e w3 ⟨rfl, hb⟩
  have H3 := hidm (H2.out.later hb)
  clear hb H2
  have C := H3.out.put_no (manyB q1 cu) (by rw [many_len]; have := HMF.out; omega) (by rw [many_len, HMF.out.2.2.2.2, need_full]; have := HMF.out.1; omega)
  rw [← HT1.out] at C
  have C := hidm C
  go_wp2_with fail
  refine C.out.mono ?_
  rintro e w4 ⟨rfl, hb⟩
  have H4 := hidm (H3.out.later hb)
  clear hb H3 C
  go_wp2_with fail
  refine (LQ1.out w4).mono ?_
  rintro e w5 ⟨rfl, hb⟩
  have H5 := hidm (H4.out.later hb)
  clear hb H4
  have C := H5.out.set_no H5.out.old_none (manyB q1 cu) (by rw [many_len]; have := HMF.out; omega) (by rw [many_len, HMF.out.2.2.2.2, need_full]; have := HMF.out.1; omega)
  rw [← HT1.out] at C
  have C := hidm C
  go_wp2_with fail
  refine C.out.mono ?_
  rintro e w6 ⟨rfl, hb⟩
  have H6 := hidm (H5.out.later hb)
  clear hb H5 C
  have C := H6.out.frees
  rw [show many - (2 + (pgs ([] : List Rec)).length) = f by have := HMF.out.1; show many - (2 + 0) = f; omega] at C
  have C := hidm C
  go_wp2_with fail
  refine C.out.mono ?_
  rintro e w7 ⟨rfl, hb⟩
  have H7 := hidm (H6.out.later hb)
  clear hb H6 C
  go_wp2_with fail
  refine (LQ.out w7).mono ?_
  rintro e w8 ⟨rfl, hb⟩
  have H8 := hidm (H7.out.later hb)
  clear hb H7
  have C := H8.out.put (manyB q cu) (by rw [many_len]; have := HMF.out; omega) (by rw [many_len, HMF.out.2.2.2.1, need_all f HMF.out.2.1]; have := HMF.out.1; show f + 2 + 0 ≤ many; omega)
  rw [← HT.out] at C
  have C := hidm C
  go_wp2_with fail
  refine C.out.mono ?_
  rintro e w9 ⟨l, G, rfl, hl, _, hp, _⟩
  rw [many_len, HMF.out.2.2.2.1, need_all f HMF.out.2.1] at hl
  have HL := hidm (show (pgs [(l, manyB q cu)]).length = f from by show (l ++ []).length = f; simp [hl])
  have H9 := hidm hp.any
  obtain ⟨id, hid⟩ : ∃ id, id = l.headD 0 := ⟨_, rfl⟩
  rw [← hid]
  have HID := hidm hid
  clear hl hp C H8 hid
  have C := H9.out.get (r := (l, manyB q cu)) (by simp) id HID.out.symm
  rw [show S (((l, manyB q cu) : Rec).2) = T from HT.out.symm] at C
  have C := hidm C
  go_wp2_with fail
  refine C.out.mono ?_
  rintro e w10 ⟨rfl, hb⟩
  have H10 := hidm (H9.out.later hb)
  clear hb H9 C
  have C := hidm (H10.out.put_no [] (by simp) (by rw [HL.out]; have := HMF.out.1; show many < 1 + 2 + f; omega))
  go_wp2_with fail
  refine C.out.mono ?_
  rintro e w11 ⟨rfl, hb⟩
  have H11 := hidm (H10.out.later hb)
  clear hb H10 C
  go_wp2_with fail
  refine (LQ.out w11).mono ?_
  rintro e w12 ⟨rfl, hb⟩
  have H12 := hidm (H11.out.later hb)
  clear hb H11
  have C := H12.out.frees
  rw [HL.out, show many - (2 + f) = 0 by have := HMF.out.1; omega] at C
  have C := hidm C
  go_wp2_with fail
  refine C.out.mono ?_
  rintro e w13 ⟨rfl, hb⟩
  have H13 := hidm (H12.out.later hb)
  clear hb H12 C
  go_wp2_with fail
  refine (known_any _).mono ?_
  rintro e wk ⟨rfl, hb⟩
  have HB := hidm (H13.out.bel.trans (hb.mono H13.out.bel.size))
  clear hb
  go_wp2_with fail
  go_ret
  exact ⟨by trivial, HB.out⟩
theorem laidOut : laidOutB Tryz.prog = true := by kernel_rfl
set_option maxRecDepth 100000 in
theorem contract (H : Type) (enc : TypeId × Value → H) (W : World) (base : Nat) (args : Array Value) (ds gs : List (DataW H)) (before : List MemPlace)
    (hval : ∀ (j : Nat) t v, Tryz.f4.params[j]? = some t → args[j]? = some v → Value.okWide Tryz.prog W .any base t v)
    (hW : DataW.Whole enc Tryz.prog Tryz.f4.params.toList Rows.heapFullSpec.vars false W args.toList ds gs before) :
    Calls Tryz.prog 4 args W fun e W' => ∃ v, e = .returned v ∧ Rows.heapFullSpec.post enc Tryz.prog Tryz.f4 false true false false W args v W' := by
  have hW' := hW
  obtain ⟨p, q, hA0, hV, rfl, hfz, hnd⟩ := hW
  have hA : DataW.TrodAll enc Tryz.prog W 0 (fun _ => true) true Tryz.f4.params.toList args.toList ds p := hA0
  rw [Tryz.params4] at hA hval
  obtain ⟨v0, vs0, d0, ds0, p0, q0, hargs, rfl, rfl, h0, r0⟩ := trodAll_cons hA
  obtain ⟨v1, vs1, d1, ds1, p1, q1, rfl, rfl, rfl, h1, r1⟩ := trodAll_cons r0
  obtain ⟨rfl, rfl, rfl⟩ := trodAll_nil r1
  obtain rfl : args = #[v0, v1] := by cases args; simp_all
  obtain ⟨rfl, rfl⟩ := trodVars_none hV
  obtain ⟨n, rfl, hd0, hp0, wn⟩ := open_int Tryz.underlying5 (hval 0 5 v0 rfl rfl) h0
  have bn := bounds_u8 wn
  obtain ⟨n, rfl⟩ := Int.eq_ofNat_of_zero_le bn.1
  obtain ⟨c, rfl, hd1, hp1, wc⟩ := open_int Tryz.underlying5 (hval 1 5 v1 rfl rfl) h1
  have bc := bounds_u8 wc
  obtain ⟨c, rfl⟩ := Int.eq_ofNat_of_zero_le bc.1
  clear hA0
  simp only [List.append_nil] at hW'
  have hlt : ∀ x ∈ p0 ++ p1, x.block < W.heap.size := fun x hx => hW'.lt x (by simpa using hx)
  have walk := law_any n c (by omega) (by omega) W
  refine walk.mono fun e W' ⟨he, hg⟩ => ?_
  subst he
  refine ⟨_, rfl, Fr.post_made (pa := p0 ++ p1) (pv := []) hW' (fun _ _ _ => trodAll_cons_mk (shut_bool Tryz.underlying4 _) trodAll_mk0) (fun sp hsp => ?_) (fun _ _ => rfl) (by simp) hg (ok_one (by kernel_rfl) rfl (okWide_bool_mk Tryz.underlying4 _))⟩
  have g0 : DataW.Trod enc Tryz.prog W' 0 sp true 5 _ d0 p0 := WideElems.Trod_stays laidOut (by kernel_rfl) (of_decide_eq_true (by kernel_rfl)) h0 (fun x hx => hg.same (hlt x (by simp [hx]))) (fun x hx => hsp x (by simp [hx]))
  have g1 : DataW.Trod enc Tryz.prog W' 0 sp true 5 _ d1 p1 := WideElems.Trod_stays laidOut (by kernel_rfl) (of_decide_eq_true (by kernel_rfl)) h1 (fun x hx => hg.same (hlt x (by simp [hx]))) (fun x hx => hsp x (by simp [hx]))
  have hT := (trodAll_cons_mk g0 (trodAll_cons_mk g1 trodAll_mk0))
  simp only [List.append_nil] at hT
  exact hT
set_option maxRecDepth 100000 in
theorem reads (os : Os) {H : Type} (enc : TypeId × Value → H) : ∃ places, DataW.whole enc Tryz.prog ((World.laidAll Tryz.prog os Rows.heapFullRow.laid).forCall (fun _ _ => 0) ⟨#[], #[.int .u8 0, .int .u8 0], []⟩).memory Tryz.f4.params.toList Rows.heapFullSpec.vars false (#[.int .u8 0, .int .u8 0] : Array Value).toList 8 = some ([.lit (.int .u8 0), .lit (.int .u8 0)], [], places) :=
  ⟨[], by kernel_rfl⟩
set_option maxRecDepth 100000 in
theorem lifted (os : Os) (started : os.Started) (H : Type) (enc : TypeId × Value → H) (F : Stop.Interp) :
    ReturnsInHanded {} Tryz.checked os 4 .any ((OpenSpec.ofChange Rows.heapFullSpec).preRow enc Tryz.prog Tryz.f4 Rows.heapFullRow.domain false Rows.heapFullRow.laid) (((OpenSpec.ofChange Rows.heapFullSpec).at F).post enc Tryz.prog Tryz.f4 false true false false) := by
  obtain ⟨places, hx⟩ := reads os enc
  refine returnsInHanded_of_row (C := Tryz.checked) (s := OpenSpec.ofChange Rows.heapFullSpec) Fr.own started (by kernel_rfl) Tryz.func4
    (Fr.wit (World.laidAll Tryz.prog os Rows.heapFullRow.laid) #[.int .u8 0, .int .u8 0] (World.laidAll_os _ _ _) (World.shaped_of_ZipB (by kernel_rfl) (by kernel_rfl)) (by kernel_rfl)
      (OpenSpec.preRow_of_cond 8 hx (by kernel_rfl) (fun k hk => by cases hk) (by kernel_rfl) (laidMet_laidAll _ (by kernel_rfl) (by kernel_rfl)))) ?_
  intro W base args ds gs before hval hW _ _ _ _ _ _
  exact contract H enc W base args ds gs before hval hW
set_option maxRecDepth 100000 in
theorem said : Rows.HeapFullSaid :=
  OpenClaim.holds_of_cond 4 Tryz.f4 rfl rfl rfl rfl rfl rfl rfl ⟨rfl, rfl, rfl, rfl, rfl⟩ rfl rfl rfl rfl rfl (by kernel_rfl) Tryz.func4 (by kernel_rfl)
    (of_decide_eq_true (by kernel_rfl)) (by unfold Func.isWrapper; first | (rw [if_pos (by decide +kernel)]; kernel_rfl) | (rw [if_neg (by decide +kernel)]; exact ⟨rfl, rfl⟩))
    (fun os started H enc _ F => by rw [OpenClaim.pre_eq_preRow]; exact lifted os started H enc F)
set_option maxRecDepth 100000 in
theorem plain (f : FuncId) (fn : Func) (hf : Tryz.pinned.checked.prog.funcNamed "memoir/memoirlaw10.HeapFull" = some f) (hfn : Tryz.pinned.checked.prog.funcs[f]? = some fn) :
    true = Tryz.pinned.checked.prog.looks [] ∧ ∀ (j : Nat) t, fn.params[j]? = some t → Tryz.pinned.checked.prog.wantsStandIn t = false := by
  obtain rfl : f = 4 := Option.some.inj ((show Tryz.prog.funcNamed "memoir/memoirlaw10.HeapFull" = some 4 by kernel_rfl).symm.trans hf) |>.symm
  obtain rfl : fn = Tryz.f4 := (Option.some.inj (Tryz.func4.symm.trans hfn)).symm
  refine ⟨by kernel_rfl, fun j t ht => ?_⟩
  rw [Tryz.params4] at ht
  have hm := Array.mem_of_getElem? ht
  simp only [List.mem_toArray, List.mem_cons, List.not_mem_nil, or_false] at hm
  rcases hm with rfl | rfl
  all_goals first | exact (show Tryz.prog.wantsStandIn 5 = false by kernel_rfl)
set_option maxRecDepth 100000 in
theorem card : Rows.HeapFullCardSaid :=
  Claim7.holds_tied_plain_at .later [] _ _ _ _ said (fun _ h => by cases h) (by kernel_rfl) (fun _ h => by cases h) heapFull_row_tie rfl ⟨rfl, rfl⟩ (by kernel_rfl) rfl plain (by kernel_rfl)
end LaHeapFull
end Go.Proofs.YtmccnlffikegfaaGreatDoor
