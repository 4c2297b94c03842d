/- CodeOne is proved: for every text and every number the law returns true and its arguments read as they did. No other condition. -/
import Derived.Test.YtblangepeofobaaCz
import Derived.Test.YtblangepeofobaaFra
import Derived.Test.YtblangepeofobaaCpm
namespace Go.Proofs.Ytblangepeofobaa
open Go.ChangeShapes Go.WideShapes Go.ChangeAt Go.RowKit
open Go.ChangeMaps (open_string shut_string)
namespace LaCodeOne
open Cod
theorem long_any (s : ByteArray) (k : Nat) (hs : 1000 < s.size) (w : World) : Calls Try.prog 6 #[.string s, .int .u16 k] w fun e w' => e = .returned (.bool true) ∧ Below w.heap.size w w' := by
  have f1 : (1000 : Int) < (s.size : Int) := by omega
  go_enter Try.func6, Try.ntmps6
  go_wp2_with fail
  refine (known_any w).mono ?_
  rintro e w1 ⟨rfl, hb⟩
  have HB1 := hidm hb
  clear hb
  go_wp2_with fail
  go_ret
  exact ⟨rfl, HB1.out⟩
set_option maxHeartbeats 4000000 in
set_option maxRecDepth 100000 in
theorem bad_any (s : ByteArray) (k : Nat) (hs : s.size ≤ 1000) (x : Nat) (hR : Hid (row s.data.toList = .error x)) (w : World) : Calls Try.prog 6 #[.string s, .int .u16 k] w fun e w' => e = .returned (.bool true) ∧ Below w.heap.size w w' := by
  have hx : ((x : Int) != 0) = true := by have := row_err hR.out; simp; omega
  have g1 : ((⟨#[]⟩ : ByteArray).toList == []) = true := by rw [ByteArray.toList_eq]; rfl
  have f1 : ¬ (1000 : Int) < (s.size : Int) := by omega
  have HSZ := hidm hs
  go_enter Try.func6, Try.ntmps6
  go_wp2_with fail
  refine (new_any s w (by omega)).mono ?_
  rintro e w1 ⟨r, hr, rfl, hr1, hb⟩
  have hBr : w.heap.size ≤ r := hr
  have HB1 := hidm hb
  have HR1 : Hid (Rdr r s (0 : Nat) 0 w1) := hidm hr1
  clear hb hr1 hr
  go_wp2_with fail
  have hcl := call_l r s 0 w1 HR1.out (by omega) (by omega)
  rw [List.drop_zero, hR.out] at hcl
  refine hcl.mono ?_
  clear hcl
  rintro en w2 ⟨rfl, hr2, hb⟩
  have HR2 := hidm hr2
  have HB2 := hidm (But.then HB1.out hb hBr HB1.out.size)
  clear hr2 hb
  go_wp2_with fail
  refine (err_any r s _ _ w2 HR2.out).mono ?_
  rintro en w3 ⟨rfl, rfl⟩
  go_wp2_with fail
  have hl2 := left_any r s 0 x w2 HR2.out (by omega) (by have := HSZ.out; omega)
  rw [Nat.sub_zero] at hl2
  refine hl2.mono ?_
  clear hl2
  rintro en w4 ⟨rfl, hb⟩
  have HR4 := hidm (HR2.out.later hb)
  have HB4 := hidm (HB2.out.trans (hb.mono HB2.out.size))
  clear hb
  go_wp2_with fail
  refine (m_u_shut r s _ x hx w4 HR4.out).mono ?_
  rintro en w5 ⟨rfl, hb⟩
  have HR5 := hidm (HR4.out.later hb)
  have HB5 := hidm (HB4.out.trans (hb.mono HB4.out.size))
  clear hb
  go_wp2_with fail
  refine (m_t_shut r s _ x hx w5 HR5.out).mono ?_
  rintro en w6 ⟨rfl, hb⟩
  have HR6 := hidm (HR5.out.later hb)
  have HB6 := hidm (HB5.out.trans (hb.mono HB5.out.size))
  clear hb
  go_wp2_with fail
  have hl6 := left_any r s 0 x w6 HR6.out (by omega) (by have := HSZ.out; omega)
  rw [Nat.sub_zero] at hl6
  refine hl6.mono ?_
  clear hl6
  rintro en w7 ⟨rfl, hb⟩
  have HB7 := hidm (HB6.out.trans (hb.mono HB6.out.size))
  clear hb
  go_wp2_with fail
  refine (known_any w7).mono ?_
  rintro en w8 ⟨rfl, hb⟩
  have HB8 := hidm (HB7.out.trans (hb.mono HB7.out.size))
  clear hb
  go_wp2_with fail
  go_ret
  exact ⟨rfl, HB8.out⟩
theorem cut_take (s : ByteArray) (n : Nat) : s.extract 0 n = S (s.data.toList.take n) := by
  have := cut_bytes s 0 n
  rw [Nat.zero_add, List.drop_zero] at this; exact this
theorem one_keep {vs : List V} {sl : Value} {W w1 w' : World} (h : Hid (RowAt vs sl w1 ∧ Below W.heap.size W w1)) (hb : Below w1.heap.size w1 w') : Hid (RowAt vs sl w' ∧ Below W.heap.size W w') :=
  ⟨h.out.1.later hb, h.out.2.trans (hb.mono h.out.2.size)⟩
set_option maxHeartbeats 4000000 in
set_option maxRecDepth 100000 in
theorem ok_any (s : ByteArray) (k : Nat) (hk : k ≤ 65535) (hs : s.size ≤ 1000) (vs : List V) (t : List UInt8) (hR : Hid (row s.data.toList = .ok (vs, t))) (w : World) : Calls Try.prog 6 #[.string s, .int .u16 k] w fun e w' => e = .returned (.bool true) ∧ Below w.heap.size w w' := by
  have hok := row_ok hR.out
  obtain ⟨n, hn⟩ : ∃ n, n = s.size - t.length := ⟨_, rfl⟩
  have hlen : (rB vs).length + t.length = s.size := by rw [← len_eq s, hok.1, List.length_append]
  have hrn : n = (rB vs).length := by omega
  have hpos : 0 < (rB vs).length := by
    rw [rB_of hok.2.2, List.length_append]
    have := uB_pos vs.length; omega
  have n1 : 1 ≤ n := by omega
  have n2 : n ≤ s.size := by omega
  have htk : Hid (s.extract 0 n = S (rB vs)) := by
    refine hidm ?_
    rw [cut_take, hok.1, hrn, List.take_left]
  have hcut : Hid (row (s.extract 0 (k % n)).data.toList = .error 8) := by
    refine hidm ?_
    rw [cut_take, S_list, hok.1, List.take_append_of_le_length (by rw [← hrn]; exact Nat.le_of_lt (Nat.mod_lt _ (by omega)))]
    exact row_cut vs hok.2.2 hok.2.1 _ (by rw [← hrn]; exact Nat.mod_lt _ (by omega))
  have HOK := hidm hok
  have HRN := hidm hrn
  have HNN := hidm hn
  have hne : Hid (n ≠ 0) := hidm (by omega)
  clear hok hlen hrn hpos hn
  have f1 : ¬ (1000 : Int) < (s.size : Int) := by omega
  have HSZ := hidm hs
  go_enter Try.func6, Try.ntmps6
  go_wp2_with fail
  refine (new_any s w (by omega)).mono ?_
  rintro e w1 ⟨r, hr, rfl, hr1, hb⟩
  have hBr : w.heap.size ≤ r := hr
  have HB1 := hidm hb
  have HR1 : Hid (Rdr r s (0 : Nat) 0 w1) := hidm hr1
  clear hb hr1 hr
  go_wp2_with fail
  have hcl := call_l r s 0 w1 HR1.out (by omega) (by omega)
  rw [List.drop_zero, hR.out] at hcl
  refine hcl.mono ?_
  clear hcl
  rintro en w2 ⟨v, rfl, hv, hr2, hb⟩
  have hv' := RowAt.of_owns hv rfl
  obtain ⟨ao, cap, rfl, _⟩ := hv'
  have hv2 := RowAt.of_owns hv rfl
  have HVV := hidm hv2
  rw [← HNN.out] at hr2
  have HR2 := hidm hr2
  have HB2 := hidm (But.then HB1.out hb hBr HB1.out.size)
  clear hr2 hb hv hv2
  obtain ⟨c, hc⟩ : ∃ c, c = vs.length := ⟨_, rfl⟩
  rw [← hc] at HVV
  simp only [← hc]
  have HC := hidm hc
  clear hc
  go_wp2_with fail
  refine (err_any r s _ _ w2 HR2.out).mono ?_
  rintro en w3 ⟨rfl, rfl⟩
  go_wp2_with fail
  have hll := left_any r s n 0 w2 HR2.out n2 (by have := HSZ.out; omega)
  refine hll.mono ?_
  clear hll
  rintro en w4 ⟨rfl, hb⟩
  have HB4 := hidm (HB2.out.trans (hb.mono HB2.out.size))
  have HV4 := hidm (HVV.out.later hb)
  clear hb
  have hsub : (s.size : Int) - ((s.size - n : Nat) : Int) = (n : Int) := by omega
  obtain ⟨z, hz⟩ : ∃ z, z = S (rB vs) := ⟨_, rfl⟩
  have hcr : ∀ wx, Hid (RowAt vs (.slice ao c cap) wx ∧ Below w.heap.size w wx) → Calls Try.prog 21 #[.slice ao c cap] wx fun e w' => e = .returned (.string z) ∧ Below wx.heap.size wx w' := fun wx hx => by
    have := row_any vs (.slice ao c cap) (fun v hv => (HOK.out.2.2 v hv).2) (by have := HOK.out.2.1; omega) wx hx.out.1
    rw [← hz] at this; exact this
  have hzz : s.extract 0 n = z := htk.out.trans hz.symm
  have HZZ := hidm hzz
  clear hz hzz
  have b1 : ¬ (n : Int) < 1 := by omega
  have b1' : decide ((n : Int) < 1) = false := by simp; omega
  have b2 : ¬ (s.size : Int) < n := by omega
  have b2' : decide ((s.size : Int) < (n : Int)) = false := by simp; omega
  have b2n : decide (s.size < n) = false := by simp; omega
  have b2m : ¬ s.size < n := by omega
  have b3 : (n : Int) ≤ (s.size : Int) := by omega
  have r4 : s.extract 0 n = z := HZZ.out
  have r4' : (s.extract 0 (n : Int).toNat) = z := HZZ.out
  have hnn : Hid ((n : Int).toNat = n) := hidm (by omega)
  have HK4 : Hid (RowAt vs (.slice ao c cap) w4 ∧ Below w.heap.size w w4) := ⟨HV4.out, HB4.out⟩
  go_wp2_with fail
  go_region_held3 (fun w' => Hid (RowAt vs (.slice ao c cap) w' ∧ Below w.heap.size w w'))
    (first | (exact one_keep (by assumption) hb) | (exact HK4) | (exact one_keep HK4 (below_drewN (Below.refl _ _) 1)) | go_keep)
    (first | (go_at_call 21; (with_reducible refine (hcr _ (by assumption)).mono ?_); rintro e w' ⟨rfl, hb⟩))
  rename_i hS
  have HV5 := hS.out.1
  have HB5 := hidm hS.out.2
  clear hS HV5 HK4 HV4
  have r1 : k % n ≤ s.size := by have := Nat.mod_lt k (show 0 < n by omega); omega
  have r2 : (k : Int) % (n : Int) ≤ (s.size : Int) := by have : ((k % n : Nat) : Int) = (k : Int) % (n : Int) := by { push_cast; rfl }; omega
  have r3 : (0 : Int) ≤ (k : Int) % (n : Int) := by have : ((k % n : Nat) : Int) = (k : Int) % (n : Int) := by { push_cast; rfl }; omega
  have r5 : n ≠ 0 := by omega
  go_wp2_with fail
  obtain ⟨u, hu⟩ : ∃ u, u = s.extract 0 (k % n) := ⟨_, rfl⟩
  have hus : u.size ≤ 1000 := by rw [hu, cut_size]; have := HSZ.out; omega
  have HUR : Hid (row u.data.toList = .error 8) := by rw [hu]; exact hcut
  simp only [← hu]
  clear hu
  refine (new_any u _ (by omega)).mono ?_
  rintro e w6 ⟨x, hx, rfl, hx6, hb⟩
  have hBx : w.heap.size ≤ x := Nat.le_trans HB5.out.size hx
  have HB6 := hidm (HB5.out.trans (hb.mono HB5.out.size))
  have HX6 : Hid (Rdr x u (0 : Nat) 0 w6) := hidm hx6
  clear hb hx6 hx
  go_wp2_with fail
  have hcl := call_l x u 0 w6 HX6.out (by omega) (by omega)
  rw [List.drop_zero, HUR.out] at hcl
  refine hcl.mono ?_
  clear hcl
  rintro en w7 ⟨rfl, hx7, hb⟩
  have HX7 := hidm hx7
  have HB7 := hidm (But.then HB6.out hb hBx HB6.out.size)
  clear hx7 hb
  go_wp2_with fail
  refine (err_any x u _ _ w7 HX7.out).mono ?_
  rintro en w8 ⟨rfl, rfl⟩
  go_wp2_with fail
  refine (known_any w7).mono ?_
  rintro en w9 ⟨rfl, hb⟩
  have HB9 := hidm (HB7.out.trans (hb.mono HB7.out.size))
  clear hb
  go_wp2_with fail
  go_ret
  exact ⟨rfl, HB9.out⟩
theorem law_any (s : ByteArray) (k : Nat) (hk : k ≤ 65535) (w : World) : Calls Try.prog 6 #[.string s, .int .u16 k] w fun e w' => e = .returned (.bool true) ∧ Below w.heap.size w w' := by
  rcases Nat.lt_or_ge 1000 s.size with h | h
  · exact long_any s k h w
  · rcases hR : row s.data.toList with x | ⟨vs, t⟩
    · exact bad_any s k h x hR w
    · exact ok_any s k hk h vs t hR w
set_option maxRecDepth 100000 in
theorem contract (H : Type) (enc : TypeId × Value → H) (W : World) (base : Nat) (args : Array Value) (ds gs : List (DataW H)) (before : List MemPlace)
    (hval : ∀ (j : Nat) t v, Try.f6.params[j]? = some t → args[j]? = some v → Value.okWide Try.prog W .any base t v)
    (hW : DataW.Whole enc Try.prog Try.f6.params.toList Rows.codeOneSpec.vars false W args.toList ds gs before) :
    Calls Try.prog 6 args W fun e W' => ∃ v, e = .returned v ∧ Rows.codeOneSpec.post enc Try.prog Try.f6 false true false false W args v W' := by
  have hW' := hW
  obtain ⟨p, q, hA0, hV, rfl, hfz, hnd⟩ := hW
  have hA : DataW.TrodAll enc Try.prog W 0 (fun _ => true) true Try.f6.params.toList args.toList ds p := hA0
  rw [Try.params6] at hA hval
  obtain ⟨v0, vs0, d0, ds0, p0, q0, hargs, rfl, rfl, h0, r0⟩ := trodAll_cons hA
  obtain ⟨v1, vs1, d1, ds1, p1, q1, rfl, rfl, rfl, h1, r1⟩ := trodAll_cons r0
  obtain ⟨rfl, rfl, rfl⟩ := trodAll_nil r1
  obtain rfl : args = #[v0, v1] := by cases args; simp_all
  obtain ⟨rfl, rfl⟩ := trodVars_none hV
  obtain ⟨s, rfl, rfl, rfl, ws⟩ := open_string Try.underlying9 (hval 0 9 v0 rfl rfl) h0
  obtain ⟨k, rfl, rfl, rfl, wk⟩ := open_int Try.underlying52 (hval 1 52 v1 rfl rfl) h1
  clear hA0
  simp only [List.append_nil] at hW'
  have bk := bounds_u16 wk
  obtain ⟨k, rfl⟩ := Int.eq_ofNat_of_zero_le bk.1
  have walk := law_any s k (by omega) W
  refine walk.mono fun e W' ⟨he, hg⟩ => ?_
  subst he
  exact ⟨_, rfl, Fr.post_made (pa := []) (pv := []) hW' (fun _ _ _ => trodAll_cons_mk (shut_bool Try.underlying4 _) trodAll_mk0) (fun _ _ => trodAll_cons_mk (shut_string Try.underlying9 ws) (trodAll_cons_mk (shut_int Try.underlying52 wk) trodAll_mk0)) (fun _ _ => rfl) rfl hg (ok_one (by kernel_rfl) rfl (okWide_bool_mk Try.underlying4 _))⟩
set_option maxRecDepth 100000 in
theorem lifted (os : Os) (started : os.Started) (H : Type) (enc : TypeId × Value → H) :
    ReturnsInHanded {} Try.checked os 6 .any (Rows.codeOneSpec.pre6 enc Try.prog Try.f6 Rows.codeOneRow.domain false) (Rows.codeOneSpec.post enc Try.prog Try.f6 false true false false) := by
  refine returnsInHanded_of_change (C := Try.checked) Fr.own started (by kernel_rfl) Try.func6
    (ChangeSpec.witness6 (enc := enc) (C := Try.checked) false ⟨#[], #[.string ⟨#[]⟩, .int .u16 0], []⟩ 8 (by kernel_rfl) (by kernel_rfl) (by kernel_rfl) (by kernel_rfl)) ?_
  intro W base args ds gs before hval hW _ _
  exact contract H enc W base args ds gs before hval hW
theorem said : Rows.CodeOneSaid :=
  OpenClaim.holds_of_wide 6 Try.f6 rfl rfl rfl rfl rfl rfl rfl ⟨rfl, rfl, rfl, rfl, rfl⟩ rfl rfl rfl rfl rfl (by kernel_rfl) Try.func6 (by kernel_rfl)
    (of_decide_eq_true (by kernel_rfl)) (by unfold Func.isWrapper; first | (rw [if_pos (by decide +kernel)]; kernel_rfl) | (rw [if_neg (by decide +kernel)]; exact ⟨rfl, rfl⟩))
    (fun os started H enc _ => lifted os started H enc)
end LaCodeOne
end Go.Proofs.Ytblangepeofobaa
