/- CrcParts is proved: for every text and every place the law returns true and its arguments read as they did. No other condition. -/
import Derived.Test.YtinnkdbojgoicaaKv
import Derived.Test.YtinnkdbojgoicaaFra
namespace Go.Proofs.Ytinnkdbojgoicaa
open Go.ChangeShapes Go.WideShapes Go.ChangeAt Go.RowKit
open Go.ChangeMaps (open_string shut_string)
namespace LaCrcParts
open Crc
theorem long_any (s : ByteArray) (k : Nat) (ht : 2000 < s.size) (w : World) : Calls Try.prog 5 #[.string s, .int .u16 k] w fun e w' => e = .returned (.bool true) ∧ Below w.heap.size w w' := by
  have f1 : (2000 : Int) < (s.size : Int) := by omega
  have f2 : 2000 < s.size := ht
  go_enter Try.func5, Try.ntmps5
  go_wp2_with fail
  refine (known_any w).mono ?_
  rintro e w1 ⟨rfl, hb⟩
  have HB1 := hidm hb
  clear hb
  go_wp2_with fail
  go_ret
  exact ⟨rfl, HB1.out⟩
set_option maxHeartbeats 4000000 in
set_option maxRecDepth 100000 in
theorem short_any (s : ByteArray) (k : Nat) (hk : k < 65536) (hs : s.size ≤ 2000) (w : World) : Calls Try.prog 5 #[.string s, .int .u16 k] w fun e w' => e = .returned (.bool true) ∧ Below w.heap.size w w' := by
  have f1 : ¬ (2000 : Int) < (s.size : Int) := by omega
  obtain ⟨q, hq⟩ : ∃ q, q = k % (s.size + 1) := ⟨_, rfl⟩
  have hql : q ≤ s.size := by have := Nat.mod_lt k (show 0 < s.size + 1 by omega); omega
  have hqi : (k : Int) % ((s.size : Int) + 1) = (q : Int) := by rw [hq]; push_cast; rfl
  have h1 : (q : Int) ≤ s.size := by omega
  obtain ⟨a, ha⟩ : ∃ a, a = s.extract 0 q := ⟨_, rfl⟩
  obtain ⟨d, hd⟩ : ∃ d, d = s.extract q s.size := ⟨_, rfl⟩
  have hal : a.size ≤ 2000 := by rw [ha, ByteArray.size_extract]; omega
  have hdl : d.size ≤ 2000 := by rw [hd, ByteArray.size_extract]; omega
  obtain ⟨x, hx⟩ : ∃ x, x = more 0 a.data.toList := ⟨_, rfl⟩
  obtain ⟨y, hy⟩ : ∃ y, y = more 0 s.data.toList := ⟨_, rfl⟩
  have hxl : x < 4294967296 := by rw [hx]; exact more_lt _ _
  have hxy : more x d.data.toList = y := by
    rw [hx, more_app, hy, ha, hd, cut_take, cut_drop, List.take_append_drop]
  have c1 := fun w => of_any a (by omega) w
  have c2 := fun w => more_any x hxl d (by omega) w
  have c3 := fun w => of_any s (by omega) w
  have c4 : ∀ w, Calls Try.prog 32 #[.int .u32 0, .string s] w fun e w' => e = .returned (.int .u32 (more 0 s.data.toList : Nat)) ∧ Below w.heap.size w w' := fun w => more_any 0 (by omega) s (by omega) w
  rw [← hx] at c1
  rw [hxy] at c2
  rw [← hy] at c3 c4
  have HA := hidm ha.symm
  have HD := hidm hd.symm
  clear hq hx hy hxy ha hd
  go_enter Try.func5, Try.ntmps5
  go_wp2_with fail
  have hx1 : s.extract 0 q = a := HA.out
  have hx2 : s.extract q s.size = d := HD.out
  have hkn := fun w => known_any w
  go_region_held3 (fun w' => Hid (Below w.heap.size w w'))
    (first | (exact keep_b (by assumption) hb) | (exact hidm (Below.refl _ _)) | (exact hidm (below_drewN (Below.refl _ _) 1)) | go_keep)
    (first | (go_at_call 30; (first | (with_reducible refine (c1 _).mono ?_) | (with_reducible refine (c3 _).mono ?_)); rintro e w' ⟨rfl, hb⟩) | (go_at_call 32; (first | (with_reducible refine (c2 _).mono ?_) | (with_reducible refine (c4 _).mono ?_)); rintro e w' ⟨rfl, hb⟩) | (go_at_call 27; (with_reducible refine (hkn _).mono ?_); rintro e w' ⟨rfl, hb⟩))
  all_goals (rename_i hS; have HS := hidm hS.out; clear hS)
  all_goals go_wp2_with fail
  all_goals go_ret
  all_goals exact ⟨rfl, HS.out⟩
theorem law_any (s : ByteArray) (k : Nat) (hk : k < 65536) (w : World) : Calls Try.prog 5 #[.string s, .int .u16 k] w fun e w' => e = .returned (.bool true) ∧ Below w.heap.size w w' := by
  rcases Nat.lt_or_ge 2000 s.size with h | h
  · exact long_any s k h w
  · exact short_any s k hk h w
set_option maxRecDepth 100000 in
theorem contract (H : Type) (enc : TypeId × Value → H) (W : World) (base : Nat) (args : Array Value) (ds gs : List (DataW H)) (before : List MemPlace)
    (hval : ∀ (j : Nat) t v, Try.f5.params[j]? = some t → args[j]? = some v → Value.okWide Try.prog W .any base t v)
    (hW : DataW.Whole enc Try.prog Try.f5.params.toList Rows.crcPartsSpec.vars false W args.toList ds gs before) :
    Calls Try.prog 5 args W fun e W' => ∃ v, e = .returned v ∧ Rows.crcPartsSpec.post enc Try.prog Try.f5 false true false false W args v W' := by
  have hW' := hW
  obtain ⟨p, q, hA0, hV, rfl, hfz, hnd⟩ := hW
  have hA : DataW.TrodAll enc Try.prog W 0 (fun _ => true) true Try.f5.params.toList args.toList ds p := hA0
  rw [Try.params5] at hA hval
  obtain ⟨v0, vs0, d0, ds0, p0, q0, hargs, rfl, rfl, h0, r0⟩ := trodAll_cons hA
  obtain ⟨v1, vs1, d1, ds1, p1, q1, rfl, rfl, rfl, h1, r1⟩ := trodAll_cons r0
  obtain ⟨rfl, rfl, rfl⟩ := trodAll_nil r1
  obtain rfl : args = #[v0, v1] := by cases args; simp_all
  obtain ⟨rfl, rfl⟩ := trodVars_none hV
  obtain ⟨t, rfl, rfl, rfl, wt⟩ := open_string Try.underlying9 (hval 0 9 v0 rfl rfl) h0
  obtain ⟨x, rfl, rfl, rfl, wx⟩ := open_int Try.underlying50 (hval 1 50 v1 rfl rfl) h1
  clear hA0
  simp only [List.append_nil] at hW'
  have bx := bounds_u16 wx
  obtain ⟨x, rfl⟩ := Int.eq_ofNat_of_zero_le bx.1
  have walk := law_any t x (by omega) W
  refine walk.mono fun e W' ⟨he, hg⟩ => ?_
  subst he
  exact ⟨_, rfl, Fr.post_made (pa := []) (pv := []) hW' (fun _ _ _ => trodAll_cons_mk (shut_bool Try.underlying4 _) trodAll_mk0) (fun _ _ => trodAll_cons_mk (shut_string Try.underlying9 wt) (trodAll_cons_mk (shut_int Try.underlying50 wx) trodAll_mk0)) (fun _ _ => rfl) rfl hg (ok_one (by kernel_rfl) rfl (okWide_bool_mk Try.underlying4 _))⟩
set_option maxRecDepth 100000 in
theorem lifted (os : Os) (started : os.Started) (H : Type) (enc : TypeId × Value → H) :
    ReturnsInHanded {} Try.checked os 5 .any (Rows.crcPartsSpec.pre6 enc Try.prog Try.f5 Rows.crcPartsRow.domain false) (Rows.crcPartsSpec.post enc Try.prog Try.f5 false true false false) := by
  refine returnsInHanded_of_change (C := Try.checked) Fr.own started (by kernel_rfl) Try.func5
    (ChangeSpec.witness6 (enc := enc) (C := Try.checked) false ⟨#[], #[.string ⟨#[]⟩, .int .u16 0], []⟩ 8 (by kernel_rfl) (by kernel_rfl) (by kernel_rfl) (by kernel_rfl)) ?_
  intro W base args ds gs before hval hW _ _
  exact contract H enc W base args ds gs before hval hW
theorem said : Rows.CrcPartsSaid :=
  OpenClaim.holds_of_wide 5 Try.f5 rfl rfl rfl rfl rfl rfl rfl ⟨rfl, rfl, rfl, rfl, rfl⟩ rfl rfl rfl rfl rfl (by kernel_rfl) Try.func5 (by kernel_rfl)
    (of_decide_eq_true (by kernel_rfl)) (by unfold Func.isWrapper; first | (rw [if_pos (by decide +kernel)]; kernel_rfl) | (rw [if_neg (by decide +kernel)]; exact ⟨rfl, rfl⟩))
    (fun os started H enc _ => lifted os started H enc)
end LaCrcParts
end Go.Proofs.Ytinnkdbojgoicaa
