/- CodeFew is proved: for every number and every text the law returns true and its arguments read as they did. No other condition. -/
import Derived.Test.YtblangepeofobaaCz
import Derived.Test.YtblangepeofobaaFra
namespace Go.Proofs.Ytblangepeofobaa
open Go.ChangeShapes Go.WideShapes Go.ChangeAt Go.RowKit
open Go.ChangeMaps (open_string shut_string)
namespace LaCodeFew
open Cod
theorem long_any (n : Nat) (t : ByteArray) (ht : 100 < t.size) (w : World) : Calls Try.prog 7 #[.int .u64 n, .string t] w fun e w' => e = .returned (.bool true) ∧ Below w.heap.size w w' := by
  have f1 : (100 : Int) < (t.size : Int) := by omega
  have f2 : 100 < t.size := ht
  go_enter Try.func7, Try.ntmps7
  go_wp2_with fail
  refine (known_any w).mono ?_
  rintro e w1 ⟨rfl, hb⟩
  have HB1 := hidm hb
  clear hb
  go_wp2_with fail
  go_ret
  exact ⟨rfl, HB1.out⟩
set_option maxHeartbeats 4000000 in
set_option maxRecDepth 100000 in
theorem short_any (n : Nat) (hn : n < 18446744073709551616) (t : ByteArray) (ht : t.size ≤ 100) (w : World) : Calls Try.prog 7 #[.int .u64 n, .string t] w fun e w' => e = .returned (.bool true) ∧ Below w.heap.size w w' := by
  have f1 : ¬ (100 : Int) < (t.size : Int) := by omega
  have cu := uint_any n hn w
  obtain ⟨a, ha⟩ : ∃ a, a = S (uB n) := ⟨_, rfl⟩
  rw [← ha] at cu
  have HU := hidm (uB_ten n hn)
  have hal : Hid (a.size = (uB n).length) := hidm (by rw [ha, S_size])
  have hsum : Hid (a ++ t = S (uB n ++ t.data.toList)) := by
    refine hidm ?_
    conv => lhs; rw [ha, ← S_of t]
    rw [S_append]
  clear ha
  have hsz : a.size ≤ 10 := by rw [hal.out]; exact HU.out
  go_enter Try.func7, Try.ntmps7
  go_wp2_with fail
  refine cu.mono ?_
  rintro e w1 ⟨rfl, hb⟩
  have HB1 := hidm hb
  clear hb cu
  go_wp2_with fail
  go_loopw [6, 7] (fun mm nn wr => ∃ (k m : Nat), mm = .int .i64 k ∧ nn = .int .u64 m ∧ m < 18446744073709551616 ∧ k ≤ 10 ∧ Hid (a.size + 1 = k + (uB m).length) ∧ Hid (wr = w1)) (fun _ nn _ => (intOf nn).toNat)
  case atStart => exact ⟨1, n, rfl, rfl, hn, by omega, hidm (by rw [hal.out]; omega), hidm rfl⟩
  case round =>
    obtain ⟨k, m, rfl, rfl, hm, hk, HK, HWr⟩ := hrel
    rcases Nat.lt_or_ge m 128 with h1 | h1
    · have f2 : ¬ (m : Int) ≥ 128 := by omega
      have hka : (a.size : Int) = k := by
        have := HK.out
        rw [uB_lt h1] at this
        simp at this
        omega
      have HKA := hidm hka
      obtain rfl : wr = w1 := HWr.out
      have HB1' := HB1
      clear hka
      go_wp2_with fail
      obtain ⟨s, hs⟩ : ∃ s, s = a ++ t := ⟨_, rfl⟩
      have HS : Hid (s.data.toList = uB n ++ t.data.toList) := hidm (by rw [hs, hsum.out])
      have hss : s.size ≤ 110 := by rw [← len_eq, HS.out, List.length_append, len_eq, ← hal.out]; omega
      simp only [← hs]
      clear hs hsum
      have HSS := hidm hss
      clear hss
      refine (new_any s wr (by have := HSS.out; omega)).mono ?_
      rintro e w3 ⟨r, hr, rfl, hr3, hb⟩
      have hB : w.heap.size ≤ r := Nat.le_trans HB1'.out.size hr
      have HB3 := hidm (HB1'.out.trans (hb.mono HB1'.out.size))
      have HR3 : Hid (Rdr r s (0 : Nat) 0 w3) := hidm hr3
      clear hb hr3 hr
      have g1 : ((a.size : Int) == (k : Int)) = true := by rw [HKA.out]; simp
      go_wp2_with fail
      have hc := call_u r s 0 w3 HR3.out (by omega) (by have := HSS.out; omega)
      rw [List.drop_zero, HS.out, read_uB n _ hn] at hc
      refine hc.mono ?_
      rintro en w4 ⟨_, rfl, rfl, hr4, hb⟩
      have hpl : s.size - t.data.toList.length = (uB n).length := by
        rw [← len_eq s, HS.out, List.length_append]; omega
      rw [hpl] at hr4
      have HR4 := hidm hr4
      have HB4 := hidm (But.then HB3.out hb hB HB3.out.size)
      clear hc hr4 hb
      go_wp2_with fail
      have hl1 : s.size - (uB n).length = t.size := by
        rw [← len_eq s, HS.out, List.length_append, len_eq]; omega
      have hll := left_any r s (uB n).length 0 w4 HR4.out (by rw [← hal.out]; have : s.size = a.size + t.size := by { rw [← len_eq s, HS.out, List.length_append, len_eq, hal.out] }; omega) (by have := HSS.out; omega)
      rw [hl1] at hll
      refine hll.mono ?_
      rintro en w5 ⟨rfl, hb⟩
      have HR5 := hidm (HR4.out.later hb)
      have HB5 := hidm (HB4.out.trans (hb.mono HB4.out.size))
      clear hll hb
      go_wp2_with fail
      refine (err_any r s _ _ w5 HR5.out).mono ?_
      rintro en w6 ⟨rfl, rfl⟩
      go_wp2_with fail
      refine (known_any w5).mono ?_
      rintro en w7 ⟨rfl, hb⟩
      have HB7 := hidm (HB5.out.trans (hb.mono HB5.out.size))
      clear hb
      go_wp2_with fail
      go_ret
      exact ⟨rfl, HB7.out⟩
    · have f2 : (m : Int) ≥ 128 := by omega
      have HK2 : Hid (a.size + 1 = (k + 1) + (uB (m / 128)).length) := by
        refine hidm ?_
        have := HK.out
        rw [uB_ge h1] at this
        simp only [List.length_cons] at this
        omega
      have hk2 : k + 1 ≤ 10 := by have := HK2.out; have := uB_pos (m / 128); omega
      go_wp2_with fail
      go_roundw
      case rel => exact ⟨k + 1, m / 128, by go_num, by simp, by omega, hk2, HK2, HWr⟩
      case measure => simp [intOf]; omega
theorem law_any (n : Nat) (hn : n < 18446744073709551616) (t : ByteArray) (w : World) : Calls Try.prog 7 #[.int .u64 n, .string t] w fun e w' => e = .returned (.bool true) ∧ Below w.heap.size w w' := by
  rcases Nat.lt_or_ge 100 t.size with h | h
  · exact long_any n t h w
  · exact short_any n hn t h w
set_option maxRecDepth 100000 in
theorem contract (H : Type) (enc : TypeId × Value → H) (W : World) (base : Nat) (args : Array Value) (ds gs : List (DataW H)) (before : List MemPlace)
    (hval : ∀ (j : Nat) t v, Try.f7.params[j]? = some t → args[j]? = some v → Value.okWide Try.prog W .any base t v)
    (hW : DataW.Whole enc Try.prog Try.f7.params.toList Rows.codeFewSpec.vars false W args.toList ds gs before) :
    Calls Try.prog 7 args W fun e W' => ∃ v, e = .returned v ∧ Rows.codeFewSpec.post enc Try.prog Try.f7 false true false false W args v W' := by
  have hW' := hW
  obtain ⟨p, q, hA0, hV, rfl, hfz, hnd⟩ := hW
  have hA : DataW.TrodAll enc Try.prog W 0 (fun _ => true) true Try.f7.params.toList args.toList ds p := hA0
  rw [Try.params7] at hA hval
  obtain ⟨v0, vs0, d0, ds0, p0, q0, hargs, rfl, rfl, h0, r0⟩ := trodAll_cons hA
  obtain ⟨v1, vs1, d1, ds1, p1, q1, rfl, rfl, rfl, h1, r1⟩ := trodAll_cons r0
  obtain ⟨rfl, rfl, rfl⟩ := trodAll_nil r1
  obtain rfl : args = #[v0, v1] := by cases args; simp_all
  obtain ⟨rfl, rfl⟩ := trodVars_none hV
  obtain ⟨x, rfl, rfl, rfl, wx⟩ := open_int Try.underlying22 (hval 0 22 v0 rfl rfl) h0
  obtain ⟨t, rfl, rfl, rfl, wt⟩ := open_string Try.underlying9 (hval 1 9 v1 rfl rfl) h1
  clear hA0
  simp only [List.append_nil] at hW'
  have bx := bounds_u64 wx
  obtain ⟨x, rfl⟩ := Int.eq_ofNat_of_zero_le bx.1
  have walk := law_any x (by omega) t W
  refine walk.mono fun e W' ⟨he, hg⟩ => ?_
  subst he
  exact ⟨_, rfl, Fr.post_made (pa := []) (pv := []) hW' (fun _ _ _ => trodAll_cons_mk (shut_bool Try.underlying4 _) trodAll_mk0) (fun _ _ => trodAll_cons_mk (shut_int Try.underlying22 wx) (trodAll_cons_mk (shut_string Try.underlying9 wt) trodAll_mk0)) (fun _ _ => rfl) rfl hg (ok_one (by kernel_rfl) rfl (okWide_bool_mk Try.underlying4 _))⟩
set_option maxRecDepth 100000 in
theorem lifted (os : Os) (started : os.Started) (H : Type) (enc : TypeId × Value → H) :
    ReturnsInHanded {} Try.checked os 7 .any (Rows.codeFewSpec.pre6 enc Try.prog Try.f7 Rows.codeFewRow.domain false) (Rows.codeFewSpec.post enc Try.prog Try.f7 false true false false) := by
  refine returnsInHanded_of_change (C := Try.checked) Fr.own started (by kernel_rfl) Try.func7
    (ChangeSpec.witness6 (enc := enc) (C := Try.checked) false ⟨#[], #[.int .u64 0, .string ⟨#[]⟩], []⟩ 8 (by kernel_rfl) (by kernel_rfl) (by kernel_rfl) (by kernel_rfl)) ?_
  intro W base args ds gs before hval hW _ _
  exact contract H enc W base args ds gs before hval hW
theorem said : Rows.CodeFewSaid :=
  OpenClaim.holds_of_wide 7 Try.f7 rfl rfl rfl rfl rfl rfl rfl ⟨rfl, rfl, rfl, rfl, rfl⟩ rfl rfl rfl rfl rfl (by kernel_rfl) Try.func7 (by kernel_rfl)
    (of_decide_eq_true (by kernel_rfl)) (by unfold Func.isWrapper; first | (rw [if_pos (by decide +kernel)]; kernel_rfl) | (rw [if_neg (by decide +kernel)]; exact ⟨rfl, rfl⟩))
    (fun os started H enc _ => lifted os started H enc)
end LaCodeFew
end Go.Proofs.Ytblangepeofobaa
