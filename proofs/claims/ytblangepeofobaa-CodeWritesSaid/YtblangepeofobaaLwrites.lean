/- CodeWrites is proved: for every two numbers, every text and every row the law returns true and its arguments read as they did. No other condition. -/
import Derived.Test.YtblangepeofobaaOpn
import Derived.Test.YtblangepeofobaaWt
import Derived.WideKeyPair
namespace Go.Proofs.Ytblangepeofobaa
open Go.ChangeShapes Go.WideShapes Go.ChangeAt Go.RowKit
open Go.ChangeMaps (open_string shut_string)
open Go.WideMaps (ArrKey open_pair shut_pair)
namespace LaCodeWrites
open Cod
theorem wf_of {v : V} (h : v.inn) (hs : v.s.length ≤ 4200) : v.wf := ⟨h.k0, h.k1, h.n0, h.n1, h.b, by omega⟩
set_option maxHeartbeats 4000000 in
set_option maxRecDepth 100000 in
theorem skip_long (n q : Nat) (s : ByteArray) (sl : Value) (hs : 2000 < s.size) (w : World) : Calls Try.prog 3 #[.agg #[.int .u64 n, .int .u64 q], .string s, sl] w fun e w' => e = .returned (.bool true) ∧ Below w.heap.size w w' := by
  have f1 : (2000 : Int) < (s.size : Int) := by omega
  have HB0 := hidm ((Below.refl w.heap.size w).alloc (Nat.le_refl _) (.cells #[.int .u64 n, .int .u64 q] 23))
  go_enter Try.func3, Try.ntmps3
  go_wp2_with fail
  refine (known_any _).mono ?_
  rintro e w1 ⟨rfl, hb⟩
  have HB1 := hidm (HB0.out.trans (hb.mono HB0.out.size))
  clear hb
  go_wp2_with fail
  go_ret
  exact ⟨rfl, HB1.out⟩
set_option maxHeartbeats 4000000 in
set_option maxRecDepth 100000 in
theorem skip_row (n q : Nat) (s : ByteArray) (sl : Value) (vs : List V) (hs : s.size ≤ 2000) (hl : vs.length ≤ 9223372036854775807) (hv : okRow vs = false) (w : World) (hrow : RowAt vs sl w) : Calls Try.prog 3 #[.agg #[.int .u64 n, .int .u64 q], .string s, sl] w fun e w' => e = .returned (.bool true) ∧ Below w.heap.size w w' := by
  have f1 : ¬ (2000 : Int) < (s.size : Int) := by omega
  have HB0 := hidm ((Below.refl w.heap.size w).alloc (Nat.le_refl _) (.cells #[.int .u64 n, .int .u64 q] 23))
  have hr := rowt_any vs sl hl _ (hrow.later HB0.out)
  rw [hv] at hr
  go_enter Try.func3, Try.ntmps3
  go_wp2_with fail
  refine hr.mono ?_
  rintro e w1 ⟨rfl, hb⟩
  have HB1 := hidm (HB0.out.trans (hb.mono HB0.out.size))
  clear hb
  go_wp2_with fail
  refine (known_any _).mono ?_
  rintro e w2 ⟨rfl, hb⟩
  have HB2 := hidm (HB1.out.trans (hb.mono HB1.out.size))
  clear hb
  go_wp2_with fail
  go_ret
  exact ⟨rfl, HB2.out⟩
theorem wr_keep {vs : List V} {sl : Value} {W w1 w' : World} {b : Nat} {x : Int}
    (h : w1.cell? ⟨b, 0, none⟩ = some (.int .i64 3) ∧ w1.cell? ⟨b, 1, none⟩ = some (.int .i64 0) ∧ w1.cell? ⟨b, 2, none⟩ = some (.int .u64 x) ∧ w1.cell? ⟨b, 3, none⟩ = some (.string ⟨#[]⟩) ∧ Hid (RowAt vs sl w1 ∧ Vb b 3 0 x ⟨#[]⟩ w1 ∧ Below W.heap.size W w1)) (hb : Below w1.heap.size w1 w') :
    w'.cell? ⟨b, 0, none⟩ = some (.int .i64 3) ∧ w'.cell? ⟨b, 1, none⟩ = some (.int .i64 0) ∧ w'.cell? ⟨b, 2, none⟩ = some (.int .u64 x) ∧ w'.cell? ⟨b, 3, none⟩ = some (.string ⟨#[]⟩) ∧ Hid (RowAt vs sl w' ∧ Vb b 3 0 x ⟨#[]⟩ w' ∧ Below W.heap.size W w') := by
  obtain ⟨h1, h2, h3⟩ := h.2.2.2.2.out
  have h4 := h2.later hb
  exact ⟨h4.c0, h4.c1, h4.c2, h4.c3, h1.later hb, h4, h3.trans (hb.mono h3.size)⟩
theorem wr_start {vs : List V} {sl : Value} {W w1 : World} {b : Nat} {x : Int} (h1 : RowAt vs sl w1) (h4 : Vb b 3 0 x ⟨#[]⟩ w1) (h3 : Below W.heap.size W w1) :
    w1.cell? ⟨b, 0, none⟩ = some (.int .i64 3) ∧ w1.cell? ⟨b, 1, none⟩ = some (.int .i64 0) ∧ w1.cell? ⟨b, 2, none⟩ = some (.int .u64 x) ∧ w1.cell? ⟨b, 3, none⟩ = some (.string ⟨#[]⟩) ∧ Hid (RowAt vs sl w1 ∧ Vb b 3 0 x ⟨#[]⟩ w1 ∧ Below W.heap.size W w1) :=
  ⟨h4.c0, h4.c1, h4.c2, h4.c3, h1, h4, h3⟩
set_option maxHeartbeats 40000000 in
set_option maxRecDepth 100000 in
theorem main_any (n q : Nat) (hn : n < 18446744073709551616) (s : ByteArray) (sl : Value) (vs : List V) (hs : s.size ≤ 2000) (hl : vs.length ≤ 9223372036854775807) (hv : okRow vs = true) (hin : ∀ v ∈ vs, v.inn) (w : World) (hrow : RowAt vs sl w) : Calls Try.prog 3 #[.agg #[.int .u64 n, .int .u64 q], .string s, sl] w fun e w' => e = .returned (.bool true) ∧ Below w.heap.size w w' := by
  have f1 : ¬ (2000 : Int) < (s.size : Int) := by omega
  have HB0 := hidm ((Below.refl w.heap.size w).alloc (Nat.le_refl _) (.cells #[.int .u64 n, .int .u64 q] 23))
  have hr := rowt_any vs sl hl _ (hrow.later HB0.out)
  rw [hv] at hr
  have hv60 : vs.length ≤ 60 ∧ ∀ v ∈ vs, v.s.length ≤ 4200 := by
    unfold okRow at hv
    simp only [Bool.and_eq_true, decide_eq_true_eq, List.all_eq_true] at hv
    exact hv
  have hwf : ∀ v ∈ vs, v.wf := fun v hx => wf_of (hin v hx) (hv60.2 v hx)
  obtain ⟨m, hm⟩ : ∃ m, m = wrap64 (q : Int) := ⟨_, rfl⟩
  have hm0 : -9223372036854775808 ≤ m ∧ m ≤ 9223372036854775807 := by rw [hm]; unfold wrap64; omega
  obtain ⟨a1, ha1⟩ : ∃ x, x = S (uB n) := ⟨_, rfl⟩
  have c1 := fun wx => uint_any n hn wx
  have d1 := fun wx => Wr.ruint_any n hn wx
  rw [← ha1] at c1 d1
  obtain ⟨a2, ha2⟩ : ∃ x, x = S (iB m) := ⟨_, rfl⟩
  have c2 := fun wx => int_any m hm0.1 hm0.2 wx
  have d2 := fun wx => Wr.rint_any m hm0.1 hm0.2 wx
  rw [← ha2] at c2 d2
  obtain ⟨a3, ha3⟩ : ∃ x, x = S (tB s.data.toList) := ⟨_, rfl⟩
  have c3 := fun wx => text_any s (by omega) wx
  have d3 := fun wx => Wr.rtext_any s (by omega) wx
  rw [← ha3] at c3 d3
  have hwv : V.wf ⟨3, 0, n, []⟩ := wf_mk (by omega) (by omega) (by omega) (by omega) hn (by simp)
  obtain ⟨a4, ha4⟩ : ∃ x, x = S (V.bytes ⟨3, 0, n, []⟩) := ⟨_, rfl⟩
  have c4 := fun wx => value_any ⟨3, 0, n, []⟩ hwv wx
  have d4 := fun wx => Wr.rvalue_any ⟨3, 0, n, []⟩ hwv wx
  rw [← ha4] at c4 d4
  simp only [V.agg] at c4 d4
  obtain ⟨a5, ha5⟩ : ∃ x, x = S (rB vs) := ⟨_, rfl⟩
  have c5 := fun wx hx => row_any vs sl hwf (by omega) wx hx
  have d5 := fun wx hx => Wr.rrow_any vs sl hwf (by omega) wx hx
  rw [← ha5] at c5 d5
  have c5' : ∀ wx, Hid (RowAt vs sl wx ∧ Vb (w.heap.size + 1) 3 0 n ⟨#[]⟩ wx ∧ Below w.heap.size w wx) → Calls Try.prog 21 #[sl] wx fun e w' => e = .returned (.string a5) ∧ Below wx.heap.size wx w' := fun wx hx => c5 wx hx.out.1
  have HRow := hidm hrow
  clear ha1 ha2 ha3 ha4 ha5 hv60 hin hv hl hwf hwv hrow hm0 c5'
  go_enter Try.func3, Try.ntmps3
  go_wp2_with fail
  simp only [← hm]
  clear hm
  refine hr.mono ?_
  clear hr
  rintro e w1 ⟨rfl, hb⟩
  have HB1 := hidm (HB0.out.trans (hb.mono HB0.out.size))
  clear hb
  go_wp2_with fail
  obtain ⟨b, hbb⟩ : ∃ b, b = w1.heap.size := ⟨_, rfl⟩
  have hV : Vb b 3 0 n ⟨#[]⟩ (w1.alloc (.cells #[.int .i64 3, .int .i64 0, .int .u64 n, .string ⟨#[]⟩] 28)) := by rw [hbb]; exact Vb.new w1 3 0 n ⟨#[]⟩
  have hBl := HB1.out.alloc HB1.out.size (.cells #[.int .i64 3, .int .i64 0, .int .u64 n, .string ⟨#[]⟩] 28)
  obtain ⟨w2, hw2⟩ : ∃ w2, w2 = w1.alloc (.cells #[.int .i64 3, .int .i64 0, .int .u64 n, .string ⟨#[]⟩] 28) := ⟨_, rfl⟩
  rw [← hw2] at hV hBl
  simp only [← hw2, ← hbb]
  clear hw2 hbb
  have HV := hidm hV
  have HB2 := hidm hBl
  clear hV hBl
  try simp only [List.append_eq, List.cons_append, List.nil_append]
  have c5' : ∀ wx, Hid (RowAt vs sl wx ∧ Vb b 3 0 n ⟨#[]⟩ wx ∧ Below w.heap.size w wx) → Calls Try.prog 21 #[sl] wx fun e w' => e = .returned (.string a5) ∧ Below wx.heap.size wx w' := fun wx hx => c5 wx hx.out.1
  have d5' : ∀ wx, Hid (RowAt vs sl wx ∧ Vb b 3 0 n ⟨#[]⟩ wx ∧ Below w.heap.size w wx) → Calls Try.prog 22 #[sl] wx fun e w' => e = .returned (.string a5) ∧ Below wx.heap.size wx w' := fun wx hx => d5 wx hx.out.1
  clear c5 d5
  have hst := wr_start (HRow.out.later HB2.out) HV.out HB2.out
  have hst2 := wr_keep hst (below_drewN (Below.refl _ _) 1)
  have HST := hidm hst
  have HST2 := hidm hst2
  clear hst hst2
  go_region_held3 (fun w' => w'.cell? ⟨b, 0, none⟩ = some (.int .i64 3) ∧ w'.cell? ⟨b, 1, none⟩ = some (.int .i64 0) ∧ w'.cell? ⟨b, 2, none⟩ = some (.int .u64 n) ∧ w'.cell? ⟨b, 3, none⟩ = some (.string ⟨#[]⟩) ∧ Hid (RowAt vs sl w' ∧ Vb b 3 0 n ⟨#[]⟩ w' ∧ Below w.heap.size w w'))
    (first | (exact wr_keep (by assumption) hb) | (exact HST.out) | (exact HST2.out) | go_keep)
    (first | (go_at_call 13; (with_reducible refine (c1 _).mono ?_); rintro e w' ⟨rfl, hb⟩) | (go_at_call 14; (with_reducible refine (d1 _).mono ?_); rintro e w' ⟨rfl, hb⟩) | (go_at_call 15; (with_reducible refine (c2 _).mono ?_); rintro e w' ⟨rfl, hb⟩) | (go_at_call 16; (with_reducible refine (d2 _).mono ?_); rintro e w' ⟨rfl, hb⟩) | (go_at_call 17; (with_reducible refine (c3 _).mono ?_); rintro e w' ⟨rfl, hb⟩) | (go_at_call 18; (with_reducible refine (d3 _).mono ?_); rintro e w' ⟨rfl, hb⟩) | (go_at_call 19; (with_reducible refine (c4 _).mono ?_); rintro e w' ⟨rfl, hb⟩) | (go_at_call 20; (with_reducible refine (d4 _).mono ?_); rintro e w' ⟨rfl, hb⟩) | (go_at_call 21; (with_reducible refine (c5' _ (And.right (And.right (And.right (And.right (by assumption)))))).mono ?_); rintro e w' ⟨rfl, hb⟩) | (go_at_call 22; (with_reducible refine (d5' _ (And.right (And.right (And.right (And.right (by assumption)))))).mono ?_); rintro e w' ⟨rfl, hb⟩) | (go_at_call 12; (with_reducible refine (known_any _).mono ?_); rintro e w' ⟨rfl, hb⟩))
  all_goals (rename_i hS; have HS := hidm hS.2.2.2.2.out.2.2; clear hS)
  all_goals go_wp2_with fail
  all_goals go_ret
  all_goals exact ⟨rfl, HS.out⟩
theorem law_any (n q : Nat) (hn : n < 18446744073709551616) (s : ByteArray) (sl : Value) (vs : List V) (hl : vs.length ≤ 9223372036854775807) (hin : ∀ v ∈ vs, v.inn) (w : World) (hrow : RowAt vs sl w) : Calls Try.prog 3 #[.agg #[.int .u64 n, .int .u64 q], .string s, sl] w fun e w' => e = .returned (.bool true) ∧ Below w.heap.size w w' := by
  rcases Nat.lt_or_ge 2000 s.size with h | h
  · exact skip_long n q s sl h w
  · rcases hv : okRow vs with _ | _
    · exact skip_row n q s sl vs h hl hv w hrow
    · exact main_any n q hn s sl vs h hl hv hin w hrow
theorem laidOut : laidOutB Try.prog = true := by kernel_rfl
theorem arrZ : ArrKey Try.prog 23 22 2 := ⟨Try.underlying23, by kernel_rfl, by kernel_rfl, by kernel_rfl⟩
set_option maxRecDepth 100000 in
theorem contract (H : Type) (enc : TypeId × Value → H) (W : World) (base : Nat) (args : Array Value) (ds gs : List (DataW H)) (before : List MemPlace)
    (hval : ∀ (j : Nat) t v, Try.f3.params[j]? = some t → args[j]? = some v → Value.okWide Try.prog W .any base t v)
    (hW : DataW.Whole enc Try.prog Try.f3.params.toList Rows.codeWritesSpec.vars false W args.toList ds gs before) :
    Calls Try.prog 3 args W fun e W' => ∃ v, e = .returned v ∧ Rows.codeWritesSpec.post enc Try.prog Try.f3 false true false false W args v W' := by
  have hW' := hW
  obtain ⟨p, q, hA0, hV, rfl, hfz, hnd⟩ := hW
  have hA : DataW.TrodAll enc Try.prog W 0 (fun _ => true) true Try.f3.params.toList args.toList ds p := hA0
  rw [Try.params3] at hA hval
  obtain ⟨v0, vs0, d0, ds0, p0, q0, hargs, rfl, rfl, h0, r0⟩ := trodAll_cons hA
  obtain ⟨v1, vs1, d1, ds1, p1, q1, rfl, rfl, rfl, h1, r1⟩ := trodAll_cons r0
  obtain ⟨v2, vs2, d2, ds2, p2, q2, rfl, rfl, rfl, h2, r2⟩ := trodAll_cons r1
  obtain ⟨rfl, rfl, rfl⟩ := trodAll_nil r2
  obtain rfl : args = #[v0, v1, v2] := by cases args; simp_all
  obtain ⟨rfl, rfl⟩ := trodVars_none hV
  obtain ⟨n, z, rfl, rfl, rfl, wn, wz⟩ := open_pair arrZ Try.underlying22 (hval 0 23 v0 rfl rfl) h0
  obtain ⟨s, rfl, rfl, rfl, ws⟩ := open_string Try.underlying9 (hval 1 9 v1 rfl rfl) h1
  obtain ⟨vs, hrow, hin, hl⟩ := open_vals (hval 2 24 v2 rfl rfl) h2
  clear hA0
  simp only [List.append_nil, List.nil_append] at hW'
  have bn := bounds_u64 wn
  have bz := bounds_u64 wz
  obtain ⟨n, rfl⟩ := Int.eq_ofNat_of_zero_le bn.1
  obtain ⟨z, rfl⟩ := Int.eq_ofNat_of_zero_le bz.1
  have hlt : ∀ x ∈ p2, x.block < W.heap.size := fun x hx => hW'.lt x hx
  refine (law_any n z (by omega) s v2 vs hl hin W hrow).mono fun e W' ⟨he, hg⟩ => ?_
  subst he
  refine ⟨_, rfl, Fr.post_made (pa := p2) (pv := []) hW' (fun _ _ _ => trodAll_cons_mk (shut_bool Try.underlying4 _) trodAll_mk0) (fun sp hsp => ?_) (fun _ _ => rfl) (by simp) hg (ok_one (by kernel_rfl) rfl (okWide_bool_mk Try.underlying4 _))⟩
  have g2 : DataW.Trod enc Try.prog W' 0 sp true 24 v2 d2 p2 := WideElems.Trod_stays laidOut (by kernel_rfl) (of_decide_eq_true (by kernel_rfl)) h2 (fun x hx => hg.same (hlt x hx)) (fun x hx => hsp x hx)
  have hT := trodAll_cons_mk (shut_pair (enc := enc) (W := W') (base := 0) (sp := sp) (held := true) arrZ Try.underlying22 wn wz) (trodAll_cons_mk (shut_string Try.underlying9 ws) (trodAll_cons_mk g2 trodAll_mk0))
  simp only [List.append_nil, List.nil_append] at hT
  exact hT
set_option maxRecDepth 100000 in
theorem lifted (os : Os) (started : os.Started) (H : Type) (enc : TypeId × Value → H) :
    ReturnsInHanded {} Try.checked os 3 .any (Rows.codeWritesSpec.pre6 enc Try.prog Try.f3 Rows.codeWritesRow.domain false) (Rows.codeWritesSpec.post enc Try.prog Try.f3 false true false false) := by
  refine returnsInHanded_of_change (C := Try.checked) Fr.own started (by kernel_rfl) Try.func3
    (ChangeSpec.witness6 (enc := enc) (C := Try.checked) false ⟨#[], #[.agg #[.int .u64 0, .int .u64 0], .string ⟨#[]⟩, .slice none 0 0], []⟩ 8 (by kernel_rfl) (by kernel_rfl) (by kernel_rfl) (by kernel_rfl)) ?_
  intro W base args ds gs before hval hW _ _
  exact contract H enc W base args ds gs before hval hW
theorem said : Rows.CodeWritesSaid :=
  OpenClaim.holds_of_wide 3 Try.f3 rfl rfl rfl rfl rfl rfl rfl ⟨rfl, rfl, rfl, rfl, rfl⟩ rfl rfl rfl rfl rfl (by kernel_rfl) Try.func3 (by kernel_rfl)
    (of_decide_eq_true (by kernel_rfl)) (by unfold Func.isWrapper; first | (rw [if_pos (by decide +kernel)]; kernel_rfl) | (rw [if_neg (by decide +kernel)]; exact ⟨rfl, rfl⟩))
    (fun os started H enc _ => lifted os started H enc)
end LaCodeWrites
end Go.Proofs.Ytblangepeofobaa
