/- DiskNil is proved: for every number and every text the law returns true and its arguments read as they did. No other condition. -/
import Derived.Test.YtkbadjlehmaneaaDn
import Derived.Test.YtkbadjlehmaneaaFra
import Derived.WideKeyPair
import Derived.SizedLaws
namespace Go.Proofs.Ytkbadjlehmaneaa
open Go.ChangeShapes Go.WideShapes Go.ChangeAt Go.RowKit
open Go.ChangeMaps (open_string shut_string)
namespace LaDiskNil
open Dsk
set_option maxHeartbeats 4000000 in
set_option maxRecDepth 100000 in
theorem law_any (k : Int) (s : ByteArray) (w : World) :
    Calls Try.prog 6 #[.int .i64 k, .string s] w fun e w' => e = .returned (.bool true) ∧ Below w.heap.size w w' := by
  go_enter Try.func6, Try.ntmps6
  go_wp2_with fail
  obtain ⟨w0, hw0⟩ : ∃ w0, w0 = w.alloc (.cells #[.pointer none, .int .i64 0, .map none, .slice none 0 0, .int .i64 0, .int .i64 0, .bool false, .int .i64 0] 58) := ⟨_, rfl⟩
  have B0 := hidm (show Below w.heap.size w w0 from by rw [hw0]; exact (Below.refl _ _).alloc (Nat.le_refl _) _)
  have Z0 := hidm (show NotGiven (some ⟨w.heap.size, 0, none⟩) w0 from .inr ⟨_, rfl, by rw [hw0, cell_of_row _ _ 0 _ _ (0, 0) (heap_alloc_last w _)]; rfl⟩)
  rw [← hw0]
  clear hw0
  refine (read_none none k w0 (.inl rfl)).mono ?_
  rintro e w1 ⟨rfl, hb⟩
  have Z1 := hidm (Z0.out.later hb)
  have B1 := hidm (B0.out.trans (hb.mono B0.out.size))
  clear hb
  go_wp2_with fail
  refine (read_none (some ⟨w.heap.size, 0, none⟩) k _ Z1.out).mono ?_
  rintro e w2 ⟨rfl, hb⟩
  have Z2 := hidm (Z1.out.later hb)
  have B2 := hidm (B1.out.trans (hb.mono B1.out.size))
  clear hb
  go_wp2_with fail
  refine (count_none (some ⟨w.heap.size, 0, none⟩) _ Z2.out).mono ?_
  rintro e w2' ⟨rfl, rfl⟩
  go_wp2_with fail
  refine (write_none none k s _ (.inl rfl)).mono ?_
  rintro e w3 ⟨rfl, hb⟩
  have Z3 := hidm (Z2.out.later hb)
  have B3 := hidm (B2.out.trans (hb.mono B2.out.size))
  clear hb
  go_wp2_with fail
  refine (write_none (some ⟨w.heap.size, 0, none⟩) k s _ Z3.out).mono ?_
  rintro e w4 ⟨rfl, hb⟩
  have Z4 := hidm (Z3.out.later hb)
  have B4 := hidm (B3.out.trans (hb.mono B3.out.size))
  clear hb
  go_wp2_with fail
  refine (flush_none none _ (.inl rfl)).mono ?_
  rintro e w5 ⟨rfl, hb⟩
  have Z5 := hidm (Z4.out.later hb)
  have B5 := hidm (B4.out.trans (hb.mono B4.out.size))
  clear hb
  go_wp2_with fail
  refine (flush_none (some ⟨w.heap.size, 0, none⟩) _ Z5.out).mono ?_
  rintro e w6 ⟨rfl, hb⟩
  have Z6 := hidm (Z5.out.later hb)
  have B6 := hidm (B5.out.trans (hb.mono B5.out.size))
  clear hb
  go_wp2_with fail
  refine (crash_none none _ _ (.inl rfl)).mono ?_
  rintro e w7 ⟨rfl, hb⟩
  have Z7 := hidm (Z6.out.later hb)
  have B7 := hidm (B6.out.trans (hb.mono B6.out.size))
  clear hb
  go_wp2_with fail
  refine (crash_none (some ⟨w.heap.size, 0, none⟩) _ _ Z7.out).mono ?_
  rintro e w8 ⟨rfl, hb⟩
  have Z8 := hidm (Z7.out.later hb)
  have B8 := hidm (B7.out.trans (hb.mono B7.out.size))
  clear hb
  go_wp2_with fail
  refine (dirty_none none _ (.inl rfl)).mono ?_
  rintro e w9 ⟨rfl, hb⟩
  have Z9 := hidm (Z8.out.later hb)
  have B9 := hidm (B8.out.trans (hb.mono B8.out.size))
  clear hb
  go_wp2_with fail
  refine (len_none none _ (.inl rfl)).mono ?_
  rintro e w9' ⟨rfl, rfl⟩
  go_wp2_with fail
  refine (copy_none none _ (.inl rfl)).mono ?_
  rintro e w10 ⟨rfl, hb⟩
  have Z10 := hidm (Z9.out.later hb)
  have B10 := hidm (B9.out.trans (hb.mono B9.out.size))
  clear hb
  go_wp2_with fail
  refine (copy_none (some ⟨w.heap.size, 0, none⟩) _ Z10.out).mono ?_
  rintro e w11 ⟨rfl, hb⟩
  have Z11 := hidm (Z10.out.later hb)
  have B11 := hidm (B10.out.trans (hb.mono B10.out.size))
  clear hb
  go_wp2_with fail
  refine (known_any _).mono ?_
  rintro e wk ⟨rfl, hb⟩
  have B := hidm (B11.out.trans (hb.mono B11.out.size))
  clear hb
  go_wp2_with fail
  go_ret
  exact ⟨rfl, B.out⟩
theorem laidOut : laidOutB Try.prog = true := by kernel_rfl
set_option maxRecDepth 100000 in
theorem contract (H : Type) (enc : TypeId × Value → H) (W : World) (base : Nat) (args : Array Value) (ds gs : List (DataW H)) (before : List MemPlace)
    (hval : ∀ (j : Nat) t v, Try.f6.params[j]? = some t → args[j]? = some v → Value.okWide Try.prog W .any base t v)
    (hW : DataW.Whole enc Try.prog Try.f6.params.toList Rows.diskNilSpec.vars false W args.toList ds gs before)
    (hsz0 : (DataW.weightsEach Try.prog (Try.f6.params.toList ++ Rows.diskNilSpec.plain.varTypes Try.prog) (ds ++ gs)).all (· ≤ reachBytes) = true) :
    Calls Try.prog 6 args W fun e W' => ∃ v, e = .returned v ∧ Rows.diskNilSpec.post enc Try.prog Try.f6 false true false false W args v W' := by
  have hW' := hW
  obtain ⟨p, q, hA0, hV, rfl, hfz, hnd⟩ := hW
  have hA : DataW.TrodAll enc Try.prog W 0 (fun _ => true) true Try.f6.params.toList args.toList ds p := hA0
  rw [Try.params6] at hA hval hsz0
  obtain ⟨v0, vs0, d0, ds0, p0, q0, hargs, rfl, rfl, h0, r0⟩ := trodAll_cons hA
  obtain ⟨v1, vs1, d1, ds1, p1, q1, rfl, rfl, rfl, h1, r1⟩ := trodAll_cons r0
  obtain ⟨rfl, rfl, rfl⟩ := trodAll_nil r1
  obtain rfl : args = #[v0, v1] := by cases args; simp_all
  obtain ⟨rfl, rfl⟩ := trodVars_none hV
  have hsz := fun n hn => of_decide_eq_true (List.all_eq_true.1 hsz0 n hn)
  obtain ⟨k, rfl, hd0, hp0, wk⟩ := open_int Try.underlying3 (hval 0 3 v0 rfl rfl) h0
  have bk := bounds_i64 wk
  obtain ⟨s, rfl, hd1, hp1, ws⟩ := open_string Try.underlying9 (hval 1 9 v1 rfl rfl) h1
  clear hA0 hsz0
  simp only [List.append_nil] at hW'
  have hlt : ∀ x ∈ p0 ++ p1, x.block < W.heap.size := fun x hx => hW'.lt x (by simpa using hx)
  have walk := law_any k s W
  refine walk.mono fun e W' ⟨he, hg⟩ => ?_
  subst he
  refine ⟨_, rfl, Fr.post_made (pa := p0 ++ p1) (pv := []) hW' (fun _ _ _ => trodAll_cons_mk (shut_bool Try.underlying4 _) trodAll_mk0) (fun sp hsp => ?_) (fun _ _ => rfl) (by simp) hg (ok_one (by kernel_rfl) rfl (okWide_bool_mk Try.underlying4 _))⟩
  have g0 : DataW.Trod enc Try.prog W' 0 sp true 3 _ d0 p0 := WideElems.Trod_stays laidOut (by kernel_rfl) (of_decide_eq_true (by kernel_rfl)) h0 (fun x hx => hg.same (hlt x (by simp [hx]))) (fun x hx => hsp x (by simp [hx]))
  have g1 : DataW.Trod enc Try.prog W' 0 sp true 9 _ d1 p1 := WideElems.Trod_stays laidOut (by kernel_rfl) (of_decide_eq_true (by kernel_rfl)) h1 (fun x hx => hg.same (hlt x (by simp [hx]))) (fun x hx => hsp x (by simp [hx]))
  have hT := (trodAll_cons_mk g0 (trodAll_cons_mk g1 trodAll_mk0))
  simp only [List.append_nil] at hT
  exact hT
set_option maxRecDepth 100000 in
theorem lifted (os : Os) (started : os.Started) (H : Type) (enc : TypeId × Value → H) :
    ReturnsInHanded {} Try.checked os 6 .any (Rows.diskNilSpec.pre6 enc Try.prog Try.f6 Rows.diskNilRow.domain false) (Rows.diskNilSpec.post enc Try.prog Try.f6 false true false false) := by
  refine returnsInHanded_of_change_sized (C := Try.checked) Fr.own started (by kernel_rfl) Try.func6
    (ChangeSpec.witness6 (enc := enc) (C := Try.checked) false ⟨#[], #[.int .i64 0, .string ⟨#[]⟩], []⟩ 8 (by kernel_rfl) (by kernel_rfl) (by kernel_rfl) (by kernel_rfl)) ?_
  intro W base args ds gs before hval hW _ hsz _
  exact contract H enc W base args ds gs before hval hW hsz
theorem said : Rows.DiskNilSaid :=
  OpenClaim.holds_of_wide 6 Try.f6 rfl rfl rfl rfl rfl rfl rfl ⟨rfl, rfl, rfl, rfl, rfl⟩ rfl rfl rfl rfl rfl (by kernel_rfl) Try.func6 (by kernel_rfl)
    (of_decide_eq_true (by kernel_rfl)) (by unfold Func.isWrapper; first | (rw [if_pos (by decide +kernel)]; kernel_rfl) | (rw [if_neg (by decide +kernel)]; exact ⟨rfl, rfl⟩))
    (fun os started H enc _ => lifted os started H enc)
end LaDiskNil
end Go.Proofs.Ytkbadjlehmaneaa
