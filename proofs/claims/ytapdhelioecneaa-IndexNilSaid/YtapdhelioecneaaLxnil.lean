/- IndexNil: whatever a nil index, or one that New did not give, is asked or told: ErrNil, nothing, 0: for all items. No other condition. -/
import Derived.Test.YtapdhelioecneaaWz
import Derived.Test.YtapdhelioecneaaWy
import Derived.Test.YtapdhelioecneaaU11
import Derived.Test.YtapdhelioecneaaFra
import Derived.WideKeyPair
import Derived.SizedLaws
namespace Go.Proofs.Ytapdhelioecneaa
open Go.ChangeShapes Go.WideShapes Go.ChangeAt Go.RowKit
open Go.ChangeMaps (open_string shut_string)
namespace LaIndexNil
open Idx
structure Nz (i : It) (w u : World) : Prop where
  b : Bx i w.heap.size u
  z : NotGiven (some ⟨w.heap.size + 1, 0, none⟩) u
  l : Below w.heap.size w u
theorem Nz.later {i : It} {w u u' : World} (h : Nz i w u) (hb : Below u.heap.size u u') : Nz i w u' := ⟨h.b.later hb h.b.lt, h.z.later hb, h.l.trans (hb.mono h.l.size)⟩
theorem Nz.new (i : It) (w : World) : Nz i w ((w.alloc (.cells #[.string (S i.k), .int .i64 i.s, .int .i64 i.e, .int .i64 i.id] 31)).alloc (.cells #[.pointer none, .int .i64 0, .slice none 0 0] 69)) := by
  have q1 := below_alloc w (.cells #[.string (S i.k), .int .i64 i.s, .int .i64 i.e, .int .i64 i.id] 31)
  have q2 := below_alloc (w.alloc (.cells #[.string (S i.k), .int .i64 i.s, .int .i64 i.e, .int .i64 i.id] 31)) (.cells #[.pointer none, .int .i64 0, .slice none 0 0] 69)
  refine ⟨(Bx.new w i 31).later q2 (by simp), .inr ⟨w.heap.size + 1, rfl, ?_⟩, q1.trans (q2.mono q1.size)⟩
  have e := heap_alloc_new (w.alloc (.cells #[.string (S i.k), .int .i64 i.s, .int .i64 i.e, .int .i64 i.id] 31)) (.cells #[.pointer none, .int .i64 0, .slice none 0 0] 69)
  rw [World.size_alloc] at e
  rw [cell_of_row _ _ 0 _ _ (0, 0) e]; rfl
set_option maxHeartbeats 4000000 in
set_option maxRecDepth 100000 in
theorem walk_nil (i : It) (w : World) : Calls Try.prog 7 #[.agg #[.string (S i.k), .int .i64 i.s, .int .i64 i.e, .int .i64 i.id]] w fun e w' => e = .returned (.bool true) ∧ Below w.heap.size w w' := by
  have T0 := hide (Nz.new i w)
  obtain ⟨m0, m1, m2, m3, _⟩ := T0.out.b
  go_enter Try.func7, Try.ntmps7
  go_wp2_with fail
  refine (nget_any (p := none) (.inl rfl) i.k i.s).mono ?_
  rintro e w1 ⟨rfl, hb⟩
  have T1 := hide ((T0.out.later hb).later (below_alloc w1 (.cells #[.string (S []), .int .i64 0, .int .i64 0, .int .i64 0] 31)))
  clear hb m0 m1 m2 m3 T0
  obtain ⟨m0, m1, m2, m3, _⟩ := T1.out.b
  go_wp2_with fail
  refine (nget_any T1.out.z i.k i.s).mono ?_
  rintro e w2 ⟨rfl, hb⟩
  have T2 := hide ((T1.out.later hb).later (below_alloc w2 (.cells #[.string (S []), .int .i64 0, .int .i64 0, .int .i64 0] 31)))
  clear hb m0 m1 m2 m3 T1
  obtain ⟨m0, m1, m2, m3, _⟩ := T2.out.b
  go_wp2_with fail
  refine (ninsert_any (p := none) (.inl rfl) i).mono ?_
  rintro e w3 ⟨rfl, hb⟩
  have T3 := hide (T2.out.later hb)
  clear hb m0 m1 m2 m3 T2
  obtain ⟨m0, m1, m2, m3, _⟩ := T3.out.b
  go_wp2_with fail
  refine (ninsert_any T3.out.z i).mono ?_
  rintro e w4 ⟨rfl, hb⟩
  have T4 := hide (T3.out.later hb)
  clear hb m0 m1 m2 m3 T3
  obtain ⟨m0, m1, m2, m3, _⟩ := T4.out.b
  go_wp2_with fail
  refine (nclose_any (p := none) (.inl rfl) i.k 0 1).mono ?_
  rintro e w5 ⟨rfl, hb⟩
  have T5 := hide (T4.out.later hb)
  clear hb m0 m1 m2 m3 T4
  obtain ⟨m0, m1, m2, m3, _⟩ := T5.out.b
  go_wp2_with fail
  refine (ndelete_any T5.out.z i.k 0).mono ?_
  rintro e w6 ⟨rfl, hb⟩
  have T6 := hide (T5.out.later hb)
  clear hb m0 m1 m2 m3 T5
  obtain ⟨m0, m1, m2, m3, _⟩ := T6.out.b
  go_wp2_with fail
  refine (nstab_any (p := none) (.inl rfl) [] [] 0).mono ?_
  rintro e w7 ⟨rfl, hb⟩
  have T7 := hide (T6.out.later hb)
  clear hb m0 m1 m2 m3 T6
  obtain ⟨m0, m1, m2, m3, _⟩ := T7.out.b
  go_wp2_with fail
  refine (nover_any T7.out.z [] [] 0 5 (by unfold In64; omega) (by unfold In64; omega) (by omega)).mono ?_
  rintro e w8 ⟨rfl, hb⟩
  have T8 := hide (T7.out.later hb)
  clear hb m0 m1 m2 m3 T7
  obtain ⟨m0, m1, m2, m3, _⟩ := T8.out.b
  go_wp2_with fail
  refine (nall_any (p := none) (.inl rfl)).mono ?_
  rintro e w9 ⟨rfl, hb⟩
  have T9 := hide (T8.out.later hb)
  clear hb m0 m1 m2 m3 T8
  obtain ⟨m0, m1, m2, m3, _⟩ := T9.out.b
  go_wp2_with fail
  refine (nlen_any (p := none) (.inl rfl)).mono ?_
  rintro e w10 ⟨rfl, hb⟩
  have T10 := hide (T9.out.later hb)
  clear hb m0 m1 m2 m3 T9
  obtain ⟨m0, m1, m2, m3, _⟩ := T10.out.b
  go_wp2_with fail
  refine (nmax_any T10.out.z).mono ?_
  rintro e w11 ⟨rfl, hb⟩
  have T11 := hide (T10.out.later hb)
  clear hb m0 m1 m2 m3 T10
  obtain ⟨m0, m1, m2, m3, _⟩ := T11.out.b
  go_wp2_with fail
  refine (nblocks_any T11.out.z).mono ?_
  rintro e w12 ⟨rfl, hb⟩
  have T12 := hide (T11.out.later hb)
  clear hb m0 m1 m2 m3 T11
  obtain ⟨m0, m1, m2, m3, _⟩ := T12.out.b
  go_wp2_with fail
  refine (known_any con_px w12).mono ?_
  rintro e w13 ⟨rfl, hb⟩
  have HB := hide (T12.out.l.trans (hb.mono T12.out.l.size))
  clear hb
  go_wp2_with fail
  go_ret
  exact ⟨rfl, HB.out⟩
theorem laidOut : laidOutB Try.prog = true := by kernel_rfl
set_option maxRecDepth 100000 in
theorem contract (H : Type) (enc : TypeId × Value → H) (W : World) (base : Nat) (args : Array Value) (ds gs : List (DataW H)) (before : List MemPlace)
    (hval : ∀ (j : Nat) t v, Try.f7.params[j]? = some t → args[j]? = some v → Value.okWide Try.prog W .any base t v)
    (hW : DataW.Whole enc Try.prog Try.f7.params.toList Rows.indexNilSpec.vars false W args.toList ds gs before)
    (hsz0 : (DataW.weightsEach Try.prog (Try.f7.params.toList ++ Rows.indexNilSpec.plain.varTypes Try.prog) (ds ++ gs)).all (· ≤ reachBytes) = true) :
    Calls Try.prog 7 args W fun e W' => ∃ v, e = .returned v ∧ Rows.indexNilSpec.post enc Try.prog Try.f7 false true false false W args v W' := by
  have hW' := hW
  obtain ⟨p, q, hA0, hV, rfl, hfz, hnd⟩ := hW
  have hA : DataW.TrodAll enc Try.prog W 0 (fun _ => true) true Try.f7.params.toList args.toList ds p := hA0
  rw [Try.params7] at hA hval hsz0
  obtain ⟨v0, vs0, d0, ds0, p0, q0, hargs, rfl, rfl, h0, r0⟩ := trodAll_cons hA
  obtain ⟨rfl, rfl, rfl⟩ := trodAll_nil r0
  obtain rfl : args = #[v0] := by cases args; simp_all
  obtain ⟨rfl, rfl⟩ := trodVars_none hV
  have hsz := fun n hn => of_decide_eq_true (List.all_eq_true.1 hsz0 n hn)
  obtain ⟨i, rfl, hii⟩ := Idx.open_item (hval 0 31 v0 rfl rfl) h0 (fun n hn => hsz n (DataW.weights_mem_each (j := 0) (t := 31) rfl rfl n hn))
  clear hA0 hsz0
  simp only [List.append_nil] at hW'
  have hlt : ∀ x ∈ p0, x.block < W.heap.size := fun x hx => hW'.lt x (by simpa using hx)
  have walk := walk_nil i W
  refine walk.mono fun e W' ⟨he, hg⟩ => ?_
  subst he
  refine ⟨_, rfl, Fr.post_made (pa := p0) (pv := []) hW' (fun _ _ _ => trodAll_cons_mk (shut_bool Try.underlying4 _) trodAll_mk0) (fun sp hsp => ?_) (fun _ _ => rfl) (by simp) hg (ok_one (by kernel_rfl) rfl (okWide_bool_mk Try.underlying4 _))⟩
  have g0 : DataW.Trod enc Try.prog W' 0 sp true 31 _ d0 p0 := WideElems.Trod_stays laidOut (by kernel_rfl) (of_decide_eq_true (by kernel_rfl)) h0 (fun x hx => hg.same (hlt x (by simp [hx]))) (fun x hx => hsp x (by simp [hx]))
  have hT := (trodAll_cons_mk g0 trodAll_mk0)
  simp only [List.append_nil] at hT
  exact hT
set_option maxRecDepth 100000 in
theorem lifted (os : Os) (started : os.Started) (H : Type) (enc : TypeId × Value → H) :
    ReturnsInHanded {} Try.checked os 7 .any (Rows.indexNilSpec.pre6 enc Try.prog Try.f7 Rows.indexNilRow.domain false) (Rows.indexNilSpec.post enc Try.prog Try.f7 false true false false) := by
  refine returnsInHanded_of_change_sized (C := Try.checked) Fr.own started (by kernel_rfl) Try.func7
    (ChangeSpec.witness6 (enc := enc) (C := Try.checked) false ⟨#[], #[.agg #[.string ⟨#[]⟩, .int .i64 0, .int .i64 0, .int .i64 0]], []⟩ 8 (by kernel_rfl) (by kernel_rfl) (by kernel_rfl) (by kernel_rfl)) ?_
  intro W base args ds gs before hval hW _ hsz _
  exact contract H enc W base args ds gs before hval hW hsz
theorem said : Rows.IndexNilSaid :=
  OpenClaim.holds_of_wide 7 Try.f7 rfl rfl rfl rfl rfl rfl rfl ⟨rfl, rfl, rfl, rfl, rfl⟩ rfl rfl rfl rfl rfl (by kernel_rfl) Try.func7 (by kernel_rfl)
    (of_decide_eq_true (by kernel_rfl)) (by unfold Func.isWrapper; first | (rw [if_pos (by decide +kernel)]; kernel_rfl) | (rw [if_neg (by decide +kernel)]; exact ⟨rfl, rfl⟩))
    (fun os started H enc _ => lifted os started H enc)
end LaIndexNil
end Go.Proofs.Ytapdhelioecneaa
