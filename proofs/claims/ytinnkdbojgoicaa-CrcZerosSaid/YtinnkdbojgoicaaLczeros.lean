/- CrcZeros is proved: for every text the law returns true and its argument reads as it did. No other condition. -/
import Derived.Test.YtinnkdbojgoicaaKv
import Derived.Test.YtinnkdbojgoicaaFra
namespace Go.Proofs.Ytinnkdbojgoicaa
open Go.ChangeShapes Go.WideShapes Go.ChangeAt Go.RowKit
open Go.ChangeMaps (open_string shut_string)
namespace LaCrcZeros
open Crc
theorem long_any (s : ByteArray) (ht : 2000 < s.size) (w : World) : Calls Try.prog 7 #[.string s] w fun e w' => e = .returned (.bool true) ∧ Below w.heap.size w w' := by
  have f1 : (2000 : Int) < (s.size : Int) := by omega
  have f2 : 2000 < s.size := ht
  go_enter Try.func7, Try.ntmps7
  go_wp2_with fail
  refine (known_any w).mono ?_
  rintro e w1 ⟨rfl, hb⟩
  have HB1 := hidm hb
  clear hb
  go_wp2_with fail
  go_ret
  exact ⟨rfl, HB1.out⟩
set_option maxHeartbeats 4000000 in
set_option maxRecDepth 100000 in
theorem short_any (s : ByteArray) (hs : s.size ≤ 2000) (w : World) : Calls Try.prog 7 #[.string s] w fun e w' => e = .returned (.bool true) ∧ Below w.heap.size w w' := by
  have f1 : ¬ (2000 : Int) < (s.size : Int) := by omega
  have c1 := fun w => take_any s (by omega) w
  rcases hg : good s.data.toList with _ | _
  · have ht : S (took s.data.toList) = ⟨#[]⟩ := by unfold took; rw [if_neg (by rw [hg]; simp)]
    rw [ht, hg] at c1
    have g1 : ((⟨#[]⟩ : ByteArray).toList == []) = true := by rw [ByteArray.toList_eq]; rfl
    clear ht hg
    by_cases h4 : 4 ≤ s.size
    · have h5 : (4 : Int) ≤ s.size := by omega
      go_enter Try.func7, Try.ntmps7
      go_wp2_with fail
      refine (c1 w).mono ?_
      rintro e w1 ⟨rfl, hb⟩
      have HB1 := hidm hb
      clear hb
      go_wp2_with fail
      go_wp2_with fail
      refine (known_any w1).mono ?_
      rintro e w2 ⟨rfl, hb⟩
      have HB2 := keep_b HB1 hb
      clear hb
      go_wp2_with fail
      go_ret
      exact ⟨rfl, HB2.out⟩
    · have h5 : ¬ (4 : Int) ≤ s.size := by omega
      go_enter Try.func7, Try.ntmps7
      go_wp2_with fail
      refine (c1 w).mono ?_
      rintro e w1 ⟨rfl, hb⟩
      have HB1 := hidm hb
      clear hb
      go_wp2_with fail
      go_wp2_with fail
      refine (known_any w1).mono ?_
      rintro e w2 ⟨rfl, hb⟩
      have HB2 := keep_b HB1 hb
      clear hb
      go_wp2_with fail
      go_ret
      exact ⟨rfl, HB2.out⟩
  · have hz := took_zero hg
    have hgl := good_len hg
    rw [len_eq] at hz hgl
    rw [hg] at c1
    obtain ⟨a, ha⟩ : ∃ a, a = S (took s.data.toList) := ⟨_, rfl⟩
    rw [← ha] at c1
    have had : a.data.toList = took s.data.toList := by rw [ha]
    have has : a.size = s.size - 4 := by rw [ha, S_size, hz.1]
    have c2 := fun w => put_any a (by omega) w
    rw [had, hz.2, S_of] at c2
    have g1 : ((a.size : Int) == (s.size : Int) - 4) = true := by simp; omega
    have g2 : (s.toList == s.toList) = true := by simp
    have h5 : (4 : Int) ≤ s.size := by omega
    clear ha had hz hg has
    go_enter Try.func7, Try.ntmps7
    go_wp2_with fail
    refine (c1 w).mono ?_
    rintro e w1 ⟨rfl, hb⟩
    have HB1 := hidm hb
    clear hb
    go_wp2_with fail
    refine (c2 w1).mono ?_
    rintro e w2 ⟨rfl, hb⟩
    have HB2 := keep_b HB1 hb
    clear hb
    go_wp2_with fail
    refine (known_any w2).mono ?_
    rintro e w3 ⟨rfl, hb⟩
    have HB3 := keep_b HB2 hb
    clear hb
    go_wp2_with fail
    go_ret
    exact ⟨rfl, HB3.out⟩
theorem law_any (s : ByteArray) (w : World) : Calls Try.prog 7 #[.string s] w fun e w' => e = .returned (.bool true) ∧ Below w.heap.size w w' := by
  rcases Nat.lt_or_ge 2000 s.size with h | h
  · exact long_any s h w
  · exact short_any s h w
set_option maxRecDepth 100000 in
theorem contract (H : Type) (enc : TypeId × Value → H) (W : World) (base : Nat) (args : Array Value) (ds gs : List (DataW H)) (before : List MemPlace)
    (hval : ∀ (j : Nat) t v, Try.f7.params[j]? = some t → args[j]? = some v → Value.okWide Try.prog W .any base t v)
    (hW : DataW.Whole enc Try.prog Try.f7.params.toList Rows.crcZerosSpec.vars false W args.toList ds gs before) :
    Calls Try.prog 7 args W fun e W' => ∃ v, e = .returned v ∧ Rows.crcZerosSpec.post enc Try.prog Try.f7 false true false false W args v W' := by
  have hW' := hW
  obtain ⟨p, q, hA0, hV, rfl, hfz, hnd⟩ := hW
  have hA : DataW.TrodAll enc Try.prog W 0 (fun _ => true) true Try.f7.params.toList args.toList ds p := hA0
  rw [Try.params7] at hA hval
  obtain ⟨v0, vs0, d0, ds0, p0, q0, hargs, rfl, rfl, h0, r0⟩ := trodAll_cons hA
  obtain ⟨rfl, rfl, rfl⟩ := trodAll_nil r0
  obtain rfl : args = #[v0] := by cases args; simp_all
  obtain ⟨rfl, rfl⟩ := trodVars_none hV
  obtain ⟨t, rfl, rfl, rfl, wt⟩ := open_string Try.underlying9 (hval 0 9 v0 rfl rfl) h0
  clear hA0
  simp only [List.append_nil] at hW'
  have walk := law_any t W
  refine walk.mono fun e W' ⟨he, hg⟩ => ?_
  subst he
  exact ⟨_, rfl, Fr.post_made (pa := []) (pv := []) hW' (fun _ _ _ => trodAll_cons_mk (shut_bool Try.underlying4 _) trodAll_mk0) (fun _ _ => trodAll_cons_mk (shut_string Try.underlying9 wt) trodAll_mk0) (fun _ _ => rfl) rfl hg (ok_one (by kernel_rfl) rfl (okWide_bool_mk Try.underlying4 _))⟩
set_option maxRecDepth 100000 in
theorem lifted (os : Os) (started : os.Started) (H : Type) (enc : TypeId × Value → H) :
    ReturnsInHanded {} Try.checked os 7 .any (Rows.crcZerosSpec.pre6 enc Try.prog Try.f7 Rows.crcZerosRow.domain false) (Rows.crcZerosSpec.post enc Try.prog Try.f7 false true false false) := by
  refine returnsInHanded_of_change (C := Try.checked) Fr.own started (by kernel_rfl) Try.func7
    (ChangeSpec.witness6 (enc := enc) (C := Try.checked) false ⟨#[], #[.string ⟨#[]⟩], []⟩ 8 (by kernel_rfl) (by kernel_rfl) (by kernel_rfl) (by kernel_rfl)) ?_
  intro W base args ds gs before hval hW _ _
  exact contract H enc W base args ds gs before hval hW
theorem said : Rows.CrcZerosSaid :=
  OpenClaim.holds_of_wide 7 Try.f7 rfl rfl rfl rfl rfl rfl rfl ⟨rfl, rfl, rfl, rfl, rfl⟩ rfl rfl rfl rfl rfl (by kernel_rfl) Try.func7 (by kernel_rfl)
    (of_decide_eq_true (by kernel_rfl)) (by unfold Func.isWrapper; first | (rw [if_pos (by decide +kernel)]; kernel_rfl) | (rw [if_neg (by decide +kernel)]; exact ⟨rfl, rfl⟩))
    (fun os started H enc _ => lifted os started H enc)
end LaCrcZeros
end Go.Proofs.Ytinnkdbojgoicaa
