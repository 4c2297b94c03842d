/- CrcTells is proved: for every text and every number the law returns true and its arguments read as they did. No other condition. -/
import Derived.Test.YtinnkdbojgoicaaKv
import Derived.Test.YtinnkdbojgoicaaFra
namespace Go.Proofs.Ytinnkdbojgoicaa
open Go.ChangeShapes Go.WideShapes Go.ChangeAt Go.RowKit
open Go.ChangeMaps (open_string shut_string)
namespace LaCrcTells
open Crc
theorem long_any (s : ByteArray) (k : Nat) (ht : 3000 < s.size) (w : World) : Calls Try.prog 4 #[.string s, .int .u32 k] w fun e w' => e = .returned (.bool true) ∧ Below w.heap.size w w' := by
  have f1 : (3000 : Int) < (s.size : Int) := by omega
  have f2 : 3000 < s.size := ht
  go_enter Try.func4, Try.ntmps4
  go_wp2_with fail
  refine (known_any w).mono ?_
  rintro e w1 ⟨rfl, hb⟩
  have HB1 := hidm hb
  clear hb
  go_wp2_with fail
  go_ret
  exact ⟨rfl, HB1.out⟩
set_option maxHeartbeats 4000000 in
set_option maxRecDepth 100000 in
theorem short_any (s : ByteArray) (k : Nat) (hk : k < 4294967296) (hs : s.size ≤ 3000) (w : World) : Calls Try.prog 4 #[.string s, .int .u32 k] w fun e w' => e = .returned (.bool true) ∧ Below w.heap.size w w' := by
  have f1 : ¬ (3000 : Int) < (s.size : Int) := by omega
  have hs2 : s.size ≤ 1099511627776 := by omega
  have c1 := fun w => take_any s hs2 w
  have c2 := fun w => rtake_any s hs2 w
  have c3 := fun w => of_any s hs2 w
  have c4 := fun w => rof_any s hs2 w
  have c5 := fun w => more_any k hk s (by omega) w
  have c6 := fun w => rmore_any k hk s hs2 w
  have c7 := fun w => put_any s hs2 w
  have c8 := fun w => rput_any s hs2 w
  obtain ⟨a, ha⟩ : ∃ a, a = S (took s.data.toList) := ⟨_, rfl⟩
  obtain ⟨g, hg⟩ : ∃ g, g = good s.data.toList := ⟨_, rfl⟩
  obtain ⟨x, hx⟩ : ∃ x, x = more 0 s.data.toList := ⟨_, rfl⟩
  obtain ⟨y, hy⟩ : ∃ y, y = more k s.data.toList := ⟨_, rfl⟩
  obtain ⟨p, hp⟩ : ∃ p, p = S (put s.data.toList) := ⟨_, rfl⟩
  rw [← ha, ← hg] at c1 c2
  rw [← hx] at c3 c4
  rw [← hy] at c5 c6
  rw [← hp] at c7 c8
  have g1 : (a.toList == a.toList) = true := by simp
  have g2 : (p.toList == p.toList) = true := by simp
  clear ha hg hx hy hp
  go_enter Try.func4, Try.ntmps4
  go_wp2_with fail
  refine (c1 w).mono ?_
  rintro e w1 ⟨rfl, hb⟩
  have HB1 := hidm hb
  clear hb
  go_wp2_with fail
  refine (c2 w1).mono ?_
  rintro e w2 ⟨rfl, hb⟩
  have HB2 := keep_b HB1 hb
  clear hb
  go_wp2_with fail
  refine (c3 w2).mono ?_
  rintro e w3 ⟨rfl, hb⟩
  have HB3 := keep_b HB2 hb
  clear hb
  go_wp2_with fail
  refine (c4 w3).mono ?_
  rintro e w4 ⟨rfl, rfl⟩
  go_wp2_with fail
  refine (c5 w3).mono ?_
  rintro e w4 ⟨rfl, hb⟩
  have HB4 := keep_b HB3 hb
  clear hb
  go_wp2_with fail
  refine (c6 w4).mono ?_
  rintro e w5 ⟨rfl, rfl⟩
  go_wp2_with fail
  refine (c7 w4).mono ?_
  rintro e w5 ⟨rfl, hb⟩
  have HB5 := keep_b HB4 hb
  clear hb
  go_wp2_with fail
  refine (c8 w5).mono ?_
  rintro e w6 ⟨rfl, hb⟩
  have HB6 := keep_b HB5 hb
  clear hb
  go_wp2_with fail
  go_wp2_with fail
  refine (known_any w6).mono ?_
  rintro e w7 ⟨rfl, hb⟩
  have HB7 := keep_b HB6 hb
  clear hb
  go_wp2_with fail
  go_ret
  exact ⟨rfl, HB7.out⟩
theorem law_any (s : ByteArray) (k : Nat) (hk : k < 4294967296) (w : World) : Calls Try.prog 4 #[.string s, .int .u32 k] w fun e w' => e = .returned (.bool true) ∧ Below w.heap.size w w' := by
  rcases Nat.lt_or_ge 3000 s.size with h | h
  · exact long_any s k h w
  · exact short_any s k hk h w
set_option maxRecDepth 100000 in
theorem contract (H : Type) (enc : TypeId × Value → H) (W : World) (base : Nat) (args : Array Value) (ds gs : List (DataW H)) (before : List MemPlace)
    (hval : ∀ (j : Nat) t v, Try.f4.params[j]? = some t → args[j]? = some v → Value.okWide Try.prog W .any base t v)
    (hW : DataW.Whole enc Try.prog Try.f4.params.toList Rows.crcTellsSpec.vars false W args.toList ds gs before) :
    Calls Try.prog 4 args W fun e W' => ∃ v, e = .returned v ∧ Rows.crcTellsSpec.post enc Try.prog Try.f4 false true false false W args v W' := by
  have hW' := hW
  obtain ⟨p, q, hA0, hV, rfl, hfz, hnd⟩ := hW
  have hA : DataW.TrodAll enc Try.prog W 0 (fun _ => true) true Try.f4.params.toList args.toList ds p := hA0
  rw [Try.params4] at hA hval
  obtain ⟨v0, vs0, d0, ds0, p0, q0, hargs, rfl, rfl, h0, r0⟩ := trodAll_cons hA
  obtain ⟨v1, vs1, d1, ds1, p1, q1, rfl, rfl, rfl, h1, r1⟩ := trodAll_cons r0
  obtain ⟨rfl, rfl, rfl⟩ := trodAll_nil r1
  obtain rfl : args = #[v0, v1] := by cases args; simp_all
  obtain ⟨rfl, rfl⟩ := trodVars_none hV
  obtain ⟨t, rfl, rfl, rfl, wt⟩ := open_string Try.underlying9 (hval 0 9 v0 rfl rfl) h0
  obtain ⟨x, rfl, rfl, rfl, wx⟩ := open_int Try.underlying43 (hval 1 43 v1 rfl rfl) h1
  clear hA0
  simp only [List.append_nil] at hW'
  have bx := bounds_u32 wx
  obtain ⟨x, rfl⟩ := Int.eq_ofNat_of_zero_le bx.1
  have walk := law_any t x (by omega) W
  refine walk.mono fun e W' ⟨he, hg⟩ => ?_
  subst he
  exact ⟨_, rfl, Fr.post_made (pa := []) (pv := []) hW' (fun _ _ _ => trodAll_cons_mk (shut_bool Try.underlying4 _) trodAll_mk0) (fun _ _ => trodAll_cons_mk (shut_string Try.underlying9 wt) (trodAll_cons_mk (shut_int Try.underlying43 wx) trodAll_mk0)) (fun _ _ => rfl) rfl hg (ok_one (by kernel_rfl) rfl (okWide_bool_mk Try.underlying4 _))⟩
set_option maxRecDepth 100000 in
theorem lifted (os : Os) (started : os.Started) (H : Type) (enc : TypeId × Value → H) :
    ReturnsInHanded {} Try.checked os 4 .any (Rows.crcTellsSpec.pre6 enc Try.prog Try.f4 Rows.crcTellsRow.domain false) (Rows.crcTellsSpec.post enc Try.prog Try.f4 false true false false) := by
  refine returnsInHanded_of_change (C := Try.checked) Fr.own started (by kernel_rfl) Try.func4
    (ChangeSpec.witness6 (enc := enc) (C := Try.checked) false ⟨#[], #[.string ⟨#[]⟩, .int .u32 0], []⟩ 8 (by kernel_rfl) (by kernel_rfl) (by kernel_rfl) (by kernel_rfl)) ?_
  intro W base args ds gs before hval hW _ _
  exact contract H enc W base args ds gs before hval hW
theorem said : Rows.CrcTellsSaid :=
  OpenClaim.holds_of_wide 4 Try.f4 rfl rfl rfl rfl rfl rfl rfl ⟨rfl, rfl, rfl, rfl, rfl⟩ rfl rfl rfl rfl rfl (by kernel_rfl) Try.func4 (by kernel_rfl)
    (of_decide_eq_true (by kernel_rfl)) (by unfold Func.isWrapper; first | (rw [if_pos (by decide +kernel)]; kernel_rfl) | (rw [if_neg (by decide +kernel)]; exact ⟨rfl, rfl⟩))
    (fun os started H enc _ => lifted os started H enc)
end LaCrcTells
end Go.Proofs.Ytinnkdbojgoicaa
