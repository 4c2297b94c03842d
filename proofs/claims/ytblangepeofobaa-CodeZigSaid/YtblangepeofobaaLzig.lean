/- CodeZig is proved: for every two numbers the law returns true and its arguments read as they did. No other condition. -/
import Derived.Test.YtblangepeofobaaCz
import Derived.Test.YtblangepeofobaaFra
namespace Go.Proofs.Ytblangepeofobaa
open Go.ChangeShapes Go.WideShapes Go.ChangeAt Go.RowKit
namespace LaCodeZig
open Cod
theorem iB_len (m : Int) (h0 : -9223372036854775808 ≤ m) (h1 : m ≤ 9223372036854775807) : 1 ≤ (iB m).length ∧ (iB m).length ≤ 10 := ⟨uB_pos _, uB_ten _ (zig_lt h0 h1)⟩
theorem iB_up {m n : Int} (h : 0 ≤ m) (h2 : m ≤ n) : (iB m).length ≤ (iB n).length := uB_mono _ _ (by unfold zig; rw [if_pos h, if_pos (by omega)]; omega)
theorem iB_dn {m n : Int} (h : m < 0) (h2 : n ≤ m) : (iB m).length ≤ (iB n).length := uB_mono _ _ (by unfold zig; rw [if_neg (by omega), if_neg (by omega)]; omega)
theorem iB_inj {m n : Int} (h0 : -9223372036854775808 ≤ m) (h1 : m ≤ 9223372036854775807) (g0 : -9223372036854775808 ≤ n) (g1 : n ≤ 9223372036854775807) (h : iB m = iB n) : m = n := by
  have := uB_inj (zig_lt h0 h1) (zig_lt g0 g1) h
  rw [← zag_zig m, ← zag_zig n, this]
set_option maxHeartbeats 4000000 in
set_option maxRecDepth 100000 in
theorem z_pe (m n : Int) (a b : ByteArray) (w : World) (ca : ∀ w, Calls Try.prog 15 #[.int .i64 m] w fun e w' => e = .returned (.string a) ∧ Below w.heap.size w w') (cb : ∀ w, Calls Try.prog 15 #[.int .i64 n] w fun e w' => e = .returned (.string b) ∧ Below w.heap.size w w')
    (hm : 0 ≤ m) (hn : n = m) (hl : a.size ≤ b.size) (a1 : 1 ≤ a.size) (a2 : a.size ≤ 10) (hq : (a.toList == b.toList) = true) :
    Calls Try.prog 9 #[.int .i64 m, .int .i64 n] w fun e w' => e = .returned (.bool true) ∧ Below w.heap.size w w' := by
  have f1 : ¬ b.size < a.size := by omega
  have f2 : n ≥ m := by omega
  have f3 : (m == n) = true := by simp; omega
  have HN := hidm hn
  clear hn
  go_enter Try.func9, Try.ntmps9
  go_wp2_with fail
  refine (ca w).mono ?_
  rintro e w1 ⟨rfl, hb⟩
  have HB1 := hidm hb
  clear hb
  go_wp2_with fail
  refine (cb w1).mono ?_
  rintro e w2 ⟨rfl, hb⟩
  have HB2 := hidm (HB1.out.trans (hb.mono HB1.out.size))
  clear hb
  go_wp2_with fail
  refine (known_any w2).mono ?_
  rintro e w3 ⟨rfl, hb⟩
  have HB3 := hidm (HB2.out.trans (hb.mono HB2.out.size))
  clear hb
  go_wp2_with fail
  go_ret
  exact ⟨rfl, HB3.out⟩
set_option maxHeartbeats 4000000 in
set_option maxRecDepth 100000 in
theorem z_pg (m n : Int) (a b : ByteArray) (w : World) (ca : ∀ w, Calls Try.prog 15 #[.int .i64 m] w fun e w' => e = .returned (.string a) ∧ Below w.heap.size w w') (cb : ∀ w, Calls Try.prog 15 #[.int .i64 n] w fun e w' => e = .returned (.string b) ∧ Below w.heap.size w w')
    (hm : 0 ≤ m) (hn : m < n) (hl : a.size ≤ b.size) (a1 : 1 ≤ a.size) (a2 : a.size ≤ 10) (hq : (a.toList == b.toList) = false) :
    Calls Try.prog 9 #[.int .i64 m, .int .i64 n] w fun e w' => e = .returned (.bool true) ∧ Below w.heap.size w w' := by
  have f1 : ¬ b.size < a.size := by omega
  have f2 : n ≥ m := by omega
  have f3 : (m == n) = false := by simp; omega
  have HN := hidm hn
  clear hn
  go_enter Try.func9, Try.ntmps9
  go_wp2_with fail
  refine (ca w).mono ?_
  rintro e w1 ⟨rfl, hb⟩
  have HB1 := hidm hb
  clear hb
  go_wp2_with fail
  refine (cb w1).mono ?_
  rintro e w2 ⟨rfl, hb⟩
  have HB2 := hidm (HB1.out.trans (hb.mono HB1.out.size))
  clear hb
  go_wp2_with fail
  refine (known_any w2).mono ?_
  rintro e w3 ⟨rfl, hb⟩
  have HB3 := hidm (HB2.out.trans (hb.mono HB2.out.size))
  clear hb
  go_wp2_with fail
  go_ret
  exact ⟨rfl, HB3.out⟩
set_option maxHeartbeats 4000000 in
set_option maxRecDepth 100000 in
theorem z_pl (m n : Int) (a b : ByteArray) (w : World) (ca : ∀ w, Calls Try.prog 15 #[.int .i64 m] w fun e w' => e = .returned (.string a) ∧ Below w.heap.size w w') (cb : ∀ w, Calls Try.prog 15 #[.int .i64 n] w fun e w' => e = .returned (.string b) ∧ Below w.heap.size w w')
    (hm : 0 ≤ m) (hn : n < m)  (a1 : 1 ≤ a.size) (a2 : a.size ≤ 10) (hq : (a.toList == b.toList) = false) :
    Calls Try.prog 9 #[.int .i64 m, .int .i64 n] w fun e w' => e = .returned (.bool true) ∧ Below w.heap.size w w' := by
  have f2 : ¬ n ≥ m := by omega
  have f3 : (m == n) = false := by simp; omega
  have HN := hidm hn
  clear hn
  go_enter Try.func9, Try.ntmps9
  go_wp2_with fail
  refine (ca w).mono ?_
  rintro e w1 ⟨rfl, hb⟩
  have HB1 := hidm hb
  clear hb
  go_wp2_with fail
  refine (cb w1).mono ?_
  rintro e w2 ⟨rfl, hb⟩
  have HB2 := hidm (HB1.out.trans (hb.mono HB1.out.size))
  clear hb
  go_wp2_with fail
  refine (known_any w2).mono ?_
  rintro e w3 ⟨rfl, hb⟩
  have HB3 := hidm (HB2.out.trans (hb.mono HB2.out.size))
  clear hb
  go_wp2_with fail
  go_ret
  exact ⟨rfl, HB3.out⟩
set_option maxHeartbeats 4000000 in
set_option maxRecDepth 100000 in
theorem z_ne (m n : Int) (a b : ByteArray) (w : World) (ca : ∀ w, Calls Try.prog 15 #[.int .i64 m] w fun e w' => e = .returned (.string a) ∧ Below w.heap.size w w') (cb : ∀ w, Calls Try.prog 15 #[.int .i64 n] w fun e w' => e = .returned (.string b) ∧ Below w.heap.size w w')
    (hm : m < 0) (hn : n = m) (hl : a.size ≤ b.size) (a1 : 1 ≤ a.size) (a2 : a.size ≤ 10) (hq : (a.toList == b.toList) = true) :
    Calls Try.prog 9 #[.int .i64 m, .int .i64 n] w fun e w' => e = .returned (.bool true) ∧ Below w.heap.size w w' := by
  have f1 : ¬ b.size < a.size := by omega
  have f2 : n ≤ m := by omega
  have f3 : (m == n) = true := by simp; omega
  have HN := hidm hn
  clear hn
  go_enter Try.func9, Try.ntmps9
  go_wp2_with fail
  refine (ca w).mono ?_
  rintro e w1 ⟨rfl, hb⟩
  have HB1 := hidm hb
  clear hb
  go_wp2_with fail
  refine (cb w1).mono ?_
  rintro e w2 ⟨rfl, hb⟩
  have HB2 := hidm (HB1.out.trans (hb.mono HB1.out.size))
  clear hb
  go_wp2_with fail
  refine (known_any w2).mono ?_
  rintro e w3 ⟨rfl, hb⟩
  have HB3 := hidm (HB2.out.trans (hb.mono HB2.out.size))
  clear hb
  go_wp2_with fail
  go_ret
  exact ⟨rfl, HB3.out⟩
set_option maxHeartbeats 4000000 in
set_option maxRecDepth 100000 in
theorem z_nl (m n : Int) (a b : ByteArray) (w : World) (ca : ∀ w, Calls Try.prog 15 #[.int .i64 m] w fun e w' => e = .returned (.string a) ∧ Below w.heap.size w w') (cb : ∀ w, Calls Try.prog 15 #[.int .i64 n] w fun e w' => e = .returned (.string b) ∧ Below w.heap.size w w')
    (hm : m < 0) (hn : n < m) (hl : a.size ≤ b.size) (a1 : 1 ≤ a.size) (a2 : a.size ≤ 10) (hq : (a.toList == b.toList) = false) :
    Calls Try.prog 9 #[.int .i64 m, .int .i64 n] w fun e w' => e = .returned (.bool true) ∧ Below w.heap.size w w' := by
  have f1 : ¬ b.size < a.size := by omega
  have f2 : n ≤ m := by omega
  have f3 : (m == n) = false := by simp; omega
  have HN := hidm hn
  clear hn
  go_enter Try.func9, Try.ntmps9
  go_wp2_with fail
  refine (ca w).mono ?_
  rintro e w1 ⟨rfl, hb⟩
  have HB1 := hidm hb
  clear hb
  go_wp2_with fail
  refine (cb w1).mono ?_
  rintro e w2 ⟨rfl, hb⟩
  have HB2 := hidm (HB1.out.trans (hb.mono HB1.out.size))
  clear hb
  go_wp2_with fail
  refine (known_any w2).mono ?_
  rintro e w3 ⟨rfl, hb⟩
  have HB3 := hidm (HB2.out.trans (hb.mono HB2.out.size))
  clear hb
  go_wp2_with fail
  go_ret
  exact ⟨rfl, HB3.out⟩
set_option maxHeartbeats 4000000 in
set_option maxRecDepth 100000 in
theorem z_ng (m n : Int) (a b : ByteArray) (w : World) (ca : ∀ w, Calls Try.prog 15 #[.int .i64 m] w fun e w' => e = .returned (.string a) ∧ Below w.heap.size w w') (cb : ∀ w, Calls Try.prog 15 #[.int .i64 n] w fun e w' => e = .returned (.string b) ∧ Below w.heap.size w w')
    (hm : m < 0) (hn : m < n)  (a1 : 1 ≤ a.size) (a2 : a.size ≤ 10) (hq : (a.toList == b.toList) = false) :
    Calls Try.prog 9 #[.int .i64 m, .int .i64 n] w fun e w' => e = .returned (.bool true) ∧ Below w.heap.size w w' := by
  have f2 : ¬ n ≤ m := by omega
  have f3 : (m == n) = false := by simp; omega
  have HN := hidm hn
  clear hn
  go_enter Try.func9, Try.ntmps9
  go_wp2_with fail
  refine (ca w).mono ?_
  rintro e w1 ⟨rfl, hb⟩
  have HB1 := hidm hb
  clear hb
  go_wp2_with fail
  refine (cb w1).mono ?_
  rintro e w2 ⟨rfl, hb⟩
  have HB2 := hidm (HB1.out.trans (hb.mono HB1.out.size))
  clear hb
  go_wp2_with fail
  refine (known_any w2).mono ?_
  rintro e w3 ⟨rfl, hb⟩
  have HB3 := hidm (HB2.out.trans (hb.mono HB2.out.size))
  clear hb
  go_wp2_with fail
  go_ret
  exact ⟨rfl, HB3.out⟩
theorem law_any (m n : Int) (h0 : -9223372036854775808 ≤ m) (h1 : m ≤ 9223372036854775807) (g0 : -9223372036854775808 ≤ n) (g1 : n ≤ 9223372036854775807) (w : World) :
    Calls Try.prog 9 #[.int .i64 m, .int .i64 n] w fun e w' => e = .returned (.bool true) ∧ Below w.heap.size w w' := by
  have ca := fun w => int_any m h0 h1 w
  have cb := fun w => int_any n g0 g1 w
  have l1 := iB_len m h0 h1
  have a1 : 1 ≤ (S (iB m)).size := by rw [S_size]; exact l1.1
  have a2 : (S (iB m)).size ≤ 10 := by rw [S_size]; exact l1.2
  have heq : m = n → ((S (iB m)).toList == (S (iB n)).toList) = true := by rintro rfl; simp
  have hne : m ≠ n → ((S (iB m)).toList == (S (iB n)).toList) = false := by
    intro h
    rw [beq_eq_false_iff_ne, ByteArray.toList_eq, ByteArray.toList_eq]
    intro h2
    exact h (iB_inj h0 h1 g0 g1 h2)
  rcases Int.lt_or_le m 0 with hm | hm
  · rcases Int.lt_trichotomy m n with h | h | h
    · exact z_ng m n _ _ w ca cb hm h a1 a2 (hne (by omega))
    · exact z_ne m n _ _ w ca cb hm h.symm (by rw [S_size, S_size]; exact iB_dn hm (by omega)) a1 a2 (heq h)
    · exact z_nl m n _ _ w ca cb hm h (by rw [S_size, S_size]; exact iB_dn hm (by omega)) a1 a2 (hne (by omega))
  · rcases Int.lt_trichotomy m n with h | h | h
    · exact z_pg m n _ _ w ca cb hm h (by rw [S_size, S_size]; exact iB_up hm (by omega)) a1 a2 (hne (by omega))
    · exact z_pe m n _ _ w ca cb hm h.symm (by rw [S_size, S_size]; exact iB_up hm (by omega)) a1 a2 (heq h)
    · exact z_pl m n _ _ w ca cb hm h a1 a2 (hne (by omega))
set_option maxRecDepth 100000 in
theorem contract (H : Type) (enc : TypeId × Value → H) (W : World) (base : Nat) (args : Array Value) (ds gs : List (DataW H)) (before : List MemPlace)
    (hval : ∀ (j : Nat) t v, Try.f9.params[j]? = some t → args[j]? = some v → Value.okWide Try.prog W .any base t v)
    (hW : DataW.Whole enc Try.prog Try.f9.params.toList Rows.codeZigSpec.vars false W args.toList ds gs before) :
    Calls Try.prog 9 args W fun e W' => ∃ v, e = .returned v ∧ Rows.codeZigSpec.post enc Try.prog Try.f9 false true false false W args v W' := by
  have hW' := hW
  obtain ⟨p, q, hA0, hV, rfl, hfz, hnd⟩ := hW
  have hA : DataW.TrodAll enc Try.prog W 0 (fun _ => true) true Try.f9.params.toList args.toList ds p := hA0
  rw [Try.params9] at hA hval
  obtain ⟨v0, vs0, d0, ds0, p0, q0, hargs, rfl, rfl, h0, r0⟩ := trodAll_cons hA
  obtain ⟨v1, vs1, d1, ds1, p1, q1, rfl, rfl, rfl, h1, r1⟩ := trodAll_cons r0
  obtain ⟨rfl, rfl, rfl⟩ := trodAll_nil r1
  obtain rfl : args = #[v0, v1] := by cases args; simp_all
  obtain ⟨rfl, rfl⟩ := trodVars_none hV
  obtain ⟨m, rfl, rfl, rfl, wm⟩ := open_int Try.underlying3 (hval 0 3 v0 rfl rfl) h0
  obtain ⟨n, rfl, rfl, rfl, wn⟩ := open_int Try.underlying3 (hval 1 3 v1 rfl rfl) h1
  clear hA0
  simp only [List.append_nil] at hW'
  have bm := bounds_i64 wm
  have bn := bounds_i64 wn
  have walk := law_any m n bm.1 bm.2 bn.1 bn.2 W
  refine walk.mono fun e W' ⟨he, hg⟩ => ?_
  subst he
  exact ⟨_, rfl, Fr.post_made (pa := []) (pv := []) hW' (fun _ _ _ => trodAll_cons_mk (shut_bool Try.underlying4 _) trodAll_mk0) (fun _ _ => trodAll_cons_mk (shut_int Try.underlying3 wm) (trodAll_cons_mk (shut_int Try.underlying3 wn) trodAll_mk0)) (fun _ _ => rfl) rfl hg (ok_one (by kernel_rfl) rfl (okWide_bool_mk Try.underlying4 _))⟩
set_option maxRecDepth 100000 in
theorem lifted (os : Os) (started : os.Started) (H : Type) (enc : TypeId × Value → H) :
    ReturnsInHanded {} Try.checked os 9 .any (Rows.codeZigSpec.pre6 enc Try.prog Try.f9 Rows.codeZigRow.domain false) (Rows.codeZigSpec.post enc Try.prog Try.f9 false true false false) := by
  refine returnsInHanded_of_change (C := Try.checked) Fr.own started (by kernel_rfl) Try.func9
    (ChangeSpec.witness6 (enc := enc) (C := Try.checked) false ⟨#[], #[.int .i64 0, .int .i64 0], []⟩ 8 (by kernel_rfl) (by kernel_rfl) (by kernel_rfl) (by kernel_rfl)) ?_
  intro W base args ds gs before hval hW _ _
  exact contract H enc W base args ds gs before hval hW
theorem said : Rows.CodeZigSaid :=
  OpenClaim.holds_of_wide 9 Try.f9 rfl rfl rfl rfl rfl rfl rfl ⟨rfl, rfl, rfl, rfl, rfl⟩ rfl rfl rfl rfl rfl (by kernel_rfl) Try.func9 (by kernel_rfl)
    (of_decide_eq_true (by kernel_rfl)) (by unfold Func.isWrapper; first | (rw [if_pos (by decide +kernel)]; kernel_rfl) | (rw [if_neg (by decide +kernel)]; exact ⟨rfl, rfl⟩))
    (fun os started H enc _ => lifted os started H enc)
end LaCodeZig
end Go.Proofs.Ytblangepeofobaa
