/- CodeBack is proved: for every two numbers, every text and every row the law returns true and its arguments read as they did. No other condition. -/
import Derived.Test.YtblangepeofobaaOpn
import Derived.WideKeyPair
namespace Go.Proofs.Ytblangepeofobaa
open Go.ChangeShapes Go.WideShapes Go.ChangeAt Go.RowKit
open Go.ChangeMaps (open_string shut_string)
open Go.WideMaps (ArrKey open_pair shut_pair)
namespace LaCodeBack
open Cod
theorem wf_of {v : V} (h : v.inn) (hs : v.s.length ≤ 4200) : v.wf := ⟨h.k0, h.k1, h.n0, h.n1, h.b, by omega⟩
set_option maxHeartbeats 4000000 in
set_option maxRecDepth 100000 in
theorem skip_long (n q : Nat) (s : ByteArray) (sl : Value) (hs : 2000 < s.size) (w : World) : Calls Try.prog 5 #[.agg #[.int .u64 n, .int .u64 q], .string s, sl] w fun e w' => e = .returned (.bool true) ∧ Below w.heap.size w w' := by
  have f1 : (2000 : Int) < (s.size : Int) := by omega
  have HB0 := hidm ((Below.refl w.heap.size w).alloc (Nat.le_refl _) (.cells #[.int .u64 n, .int .u64 q] 23))
  go_enter Try.func5, Try.ntmps5
  go_wp2_with fail
  refine (known_any _).mono ?_
  rintro e w1 ⟨rfl, hb⟩
  have HB1 := hidm (HB0.out.trans (hb.mono HB0.out.size))
  clear hb
  go_wp2_with fail
  go_ret
  exact ⟨rfl, HB1.out⟩
set_option maxHeartbeats 4000000 in
set_option maxRecDepth 100000 in
theorem skip_row (n q : Nat) (s : ByteArray) (sl : Value) (vs : List V) (hs : s.size ≤ 2000) (hl : vs.length ≤ 9223372036854775807) (hv : okRow vs = false) (w : World) (hrow : RowAt vs sl w) : Calls Try.prog 5 #[.agg #[.int .u64 n, .int .u64 q], .string s, sl] w fun e w' => e = .returned (.bool true) ∧ Below w.heap.size w w' := by
  have f1 : ¬ (2000 : Int) < (s.size : Int) := by omega
  have HB0 := hidm ((Below.refl w.heap.size w).alloc (Nat.le_refl _) (.cells #[.int .u64 n, .int .u64 q] 23))
  have hr := rowt_any vs sl hl _ (hrow.later HB0.out)
  rw [hv] at hr
  go_enter Try.func5, Try.ntmps5
  go_wp2_with fail
  refine hr.mono ?_
  rintro e w1 ⟨rfl, hb⟩
  have HB1 := hidm (HB0.out.trans (hb.mono HB0.out.size))
  clear hb
  go_wp2_with fail
  refine (known_any _).mono ?_
  rintro e w2 ⟨rfl, hb⟩
  have HB2 := hidm (HB1.out.trans (hb.mono HB1.out.size))
  clear hb
  go_wp2_with fail
  go_ret
  exact ⟨rfl, HB2.out⟩
set_option maxHeartbeats 8000000 in
set_option maxRecDepth 100000 in
theorem main_any (n q : Nat) (hn : n < 18446744073709551616) (s : ByteArray) (sl : Value) (vs : List V) (hs : s.size ≤ 2000) (hl : vs.length ≤ 9223372036854775807) (hv : okRow vs = true) (hin : ∀ v ∈ vs, v.inn) (w : World) (hrow : RowAt vs sl w) : Calls Try.prog 5 #[.agg #[.int .u64 n, .int .u64 q], .string s, sl] w fun e w' => e = .returned (.bool true) ∧ Below w.heap.size w w' := by
  have f1 : ¬ (2000 : Int) < (s.size : Int) := by omega
  have HB0 := hidm ((Below.refl w.heap.size w).alloc (Nat.le_refl _) (.cells #[.int .u64 n, .int .u64 q] 23))
  obtain ⟨ao, cap, rfl, hx⟩ := hrow
  have hr := rowt_any vs _ hl _ ((show RowAt vs (.slice ao vs.length cap) w from ⟨ao, cap, rfl, hx⟩).later HB0.out)
  rw [hv] at hr
  have HRow : Hid (RowAt vs (.slice ao vs.length cap) w) := ⟨ao, cap, rfl, hx⟩
  clear hx
  have hv60 : vs.length ≤ 60 ∧ ∀ v ∈ vs, v.s.length ≤ 4200 := by
    unfold okRow at hv
    simp only [Bool.and_eq_true, decide_eq_true_eq, List.all_eq_true] at hv
    exact hv
  have HWF : Hid (∀ v ∈ vs, v.wf) := hidm (fun v hx => wf_of (hin v hx) (hv60.2 v hx))
  obtain ⟨c, hc⟩ : ∃ c, c = vs.length := ⟨_, rfl⟩
  have HC := hidm hc
  have hc60 : c ≤ 60 := by rw [hc]; exact hv60.1
  have HS := hidm hs
  have HNB := hidm hn
  obtain ⟨m, hm⟩ : ∃ m, m = wrap64 (q : Int) := ⟨_, rfl⟩
  have hm0 : -9223372036854775808 ≤ m ∧ m ≤ 9223372036854775807 := by rw [hm]; unfold wrap64; omega
  have HM0 := hidm hm0
  rw [← hc] at HRow hr ⊢
  clear hc hv60 hin hv hl hn hm0
  go_enter Try.func5, Try.ntmps5
  go_wp2_with fail
  simp only [← hm]
  clear hm
  refine hr.mono ?_
  clear hr
  rintro e w1 ⟨rfl, hb⟩
  have HB1 := hidm (HB0.out.trans (hb.mono HB0.out.size))
  clear hb
  go_wp2_with fail
  go_loopw [9] (fun ii wr => ∃ i : Nat, ii = .int .i64 i ∧ i ≤ c ∧ Hid ((vs.take i).all V.right = true) ∧ Hid (Below w.heap.size w wr)) (fun ii _ => (c - (intOf ii).toNat))
  case atStart => exact ⟨0, rfl, by omega, hidm (by simp), HB1⟩
  case round =>
    obtain ⟨i, rfl, hi, HA, HBr⟩ := hrel
    rcases Nat.eq_or_lt_of_le hi with hie | hie
    · have f2 : ¬ (i : Int) < c := by omega
      have HALL : Hid (∀ v ∈ vs, v.right = true ∧ v.wf) := by
        refine hidm fun v hx => ⟨?_, HWF.out v hx⟩
        have h1 := HA.out
        rw [hie, HC.out, List.take_length] at h1
        exact List.all_eq_true.1 h1 v hx
      clear hie
      have cr := fun wx (hx : RowAt vs (.slice ao c cap) wx) => row_any vs (.slice ao c cap) HWF.out (by have := HC.out; omega) wx hx
      obtain ⟨a1, ha1⟩ : ∃ a1, a1 = S (rB vs) := ⟨_, rfl⟩
      rw [← ha1] at cr
      have s1 : a1.size ≤ 300000 := by
        rw [ha1, S_size]
        have := rTo_len vs HWF.out (by have := HC.out; omega) vs.length (Nat.le_refl _)
        have h2 := HC.out
        unfold rB; split
        · omega
        · simp
      have ci := fun wx => int_any m HM0.out.1 HM0.out.2 wx
      obtain ⟨a2, ha2⟩ : ∃ a2, a2 = S (iB m) := ⟨_, rfl⟩
      rw [← ha2] at ci
      have s2 : a2.size ≤ 10 := by rw [ha2, S_size]; exact uB_ten _ (zig_lt HM0.out.1 HM0.out.2)
      have ct := fun wx => text_any s (by have := HS.out; omega) wx
      obtain ⟨a3, ha3⟩ : ∃ a3, a3 = S (tB s.data.toList) := ⟨_, rfl⟩
      rw [← ha3] at ct
      have s3 : a3.size ≤ 2010 := by
        rw [ha3, S_size]; unfold tB; rw [List.length_append, len_eq]
        have := uB_ten s.size (by have := HS.out; omega); have := HS.out; omega
      have cu := fun wx => uint_any n HNB.out wx
      obtain ⟨a4, ha4⟩ : ∃ a4, a4 = S (uB n) := ⟨_, rfl⟩
      rw [← ha4] at cu
      have s4 : a4.size ≤ 10 := by rw [ha4, S_size]; exact uB_ten _ HNB.out
      have HSUM : Hid (a1 ++ a2 ++ a3 ++ a4 ++ a2 = S (rB vs ++ (iB m ++ (tB s.data.toList ++ (uB n ++ iB m))))) := by
        refine hidm ?_
        rw [ha1, ha2, ha3, ha4, S_append, S_append, S_append, S_append]
        simp only [List.append_assoc]
      clear ha1 ha2 ha3 ha4
      go_wp2_with fail
      refine (cr _ (HRow.out.later HBr.out)).mono ?_
      rintro e w2 ⟨rfl, hb⟩
      have HB2 := hidm (HBr.out.trans (hb.mono HBr.out.size))
      clear hb cr
      go_wp2_with fail
      refine (ci w2).mono ?_
      rintro e w3 ⟨rfl, hb⟩
      have HB3 := hidm (HB2.out.trans (hb.mono HB2.out.size))
      clear hb
      go_wp2_with fail
      refine (ct w3).mono ?_
      rintro e w4 ⟨rfl, hb⟩
      have HB4 := hidm (HB3.out.trans (hb.mono HB3.out.size))
      clear hb ct
      go_wp2_with fail
      refine (cu w4).mono ?_
      rintro e w5 ⟨rfl, hb⟩
      have HB5 := hidm (HB4.out.trans (hb.mono HB4.out.size))
      clear hb cu
      go_wp2_with fail
      refine (ci w5).mono ?_
      rintro e w6 ⟨rfl, hb⟩
      have HB6 := hidm (HB5.out.trans (hb.mono HB5.out.size))
      clear hb ci
      go_wp2_with fail
      obtain ⟨t, ht⟩ : ∃ t, t = a1 ++ a2 ++ a3 ++ a4 ++ a2 := ⟨_, rfl⟩
      have HT : Hid (t.data.toList = rB vs ++ (iB m ++ (tB s.data.toList ++ (uB n ++ iB m)))) := hidm (by rw [ht, HSUM.out])
      have hts : t.size ≤ 400000 := by rw [ht]; simp only [ByteArray.size_append]; omega
      have HTS := hidm hts
      simp only [← ht]
      clear ht hts HSUM s1 s2 s3 s4
      have hsi : s.data.toList.length ≤ 1000000 := by rw [len_eq]; have := HS.out; omega
      have R1 := hidm (row_back vs HALL.out (by have := HC.out; omega) (iB m ++ (tB s.data.toList ++ (uB n ++ iB m))))
      have R2 := hidm (sig_back m HM0.out.1 HM0.out.2 (tB s.data.toList ++ (uB n ++ iB m)))
      have R3 := hidm (txt_back 1000000 s.data.toList hsi (by omega) (uB n ++ iB m))
      have R4 := hidm (read_uB n (iB m) HNB.out)
      have R5 : Hid (sig (iB m) = .ok (m, [])) := by
        refine hidm ?_
        have := sig_back m HM0.out.1 HM0.out.2 []
        rwa [List.append_nil] at this
      clear hsi
      have D1 := hidm (rest_at (p := 0) (s := t) (pre := rB vs) (t := iB m ++ (tB s.data.toList ++ (uB n ++ iB m))) (by rw [List.drop_zero]; exact HT.out))
      have D2 := hidm (rest_at (p := 0) (s := t) (pre := rB vs ++ iB m) (t := tB s.data.toList ++ (uB n ++ iB m)) (by rw [List.drop_zero, List.append_assoc]; exact HT.out))
      have D3 := hidm (rest_at (p := 0) (s := t) (pre := rB vs ++ (iB m ++ tB s.data.toList)) (t := uB n ++ iB m) (by rw [List.drop_zero, List.append_assoc, List.append_assoc]; exact HT.out))
      have D4 := hidm (rest_at (p := 0) (s := t) (pre := rB vs ++ (iB m ++ (tB s.data.toList ++ uB n))) (t := iB m) (by rw [List.drop_zero, List.append_assoc, List.append_assoc, List.append_assoc]; exact HT.out))
      obtain ⟨x1, hx1⟩ : ∃ x, x = iB m ++ (tB s.data.toList ++ (uB n ++ iB m)) := ⟨_, rfl⟩
      obtain ⟨x2, hx2⟩ : ∃ x, x = tB s.data.toList ++ (uB n ++ iB m) := ⟨_, rfl⟩
      obtain ⟨x3, hx3⟩ : ∃ x, x = uB n ++ iB m := ⟨_, rfl⟩
      rw [← hx1] at R1 R2 D1 HT
      rw [← hx2] at R2 R3 D2
      rw [← hx3] at R3 D3 R4
      clear hx1 hx2 hx3
      refine (new_any t w6 (by have := HTS.out; omega)).mono ?_
      rintro e w7 ⟨r, hrr, rfl, hr7, hb⟩
      have hBr : w.heap.size ≤ r := Nat.le_trans HB6.out.size hrr
      have HB7 := hidm (HB6.out.trans (hb.mono HB6.out.size))
      have HR7 : Hid (Rdr r t (0 : Nat) 0 w7) := hidm hr7
      clear hb hr7 hrr
      go_wp2_with fail
      have hcl := call_l r t 0 w7 HR7.out (by omega) (by have := HTS.out; omega)
      rw [List.drop_zero, HT.out, R1.out] at hcl
      refine hcl.mono ?_
      clear hcl
      rintro en w8 ⟨v, rfl, hv, hr8, hb⟩
      have HR8 := hidm hr8
      have HB8 := hidm (But.then HB7.out hb hBr HB7.out.size)
      have HV8 := hidm hv
      clear hr8 hb hv
      go_wp2_with fail
      have hcl := call_i r t (t.size - x1.length) w8 HR8.out D1.out.2.1 (by have := HTS.out; omega)
      rw [D1.out.1, R2.out] at hcl
      refine hcl.mono ?_
      clear hcl
      rintro en w9 ⟨_, rfl, rfl, hr1, hb⟩
      have HR9 := hidm hr1
      have HB9 := hidm (But.then HB8.out hb hBr HB8.out.size)
      have HV9 := hidm (owns_but HV8.out (by omega) hb)
      clear hr1 hb
      go_wp2_with fail
      have hcl := call_t r t (t.size - x2.length) w9 HR9.out D2.out.2.1 (by have := HTS.out; omega)
      rw [D2.out.1, R3.out] at hcl
      refine hcl.mono ?_
      clear hcl
      rintro en w10 ⟨_, rfl, rfl, hr1, hb⟩
      have HR10 := hidm hr1
      have HB10 := hidm (But.then HB9.out hb hBr HB9.out.size)
      have HV10 := hidm (owns_but HV9.out (by omega) hb)
      clear hr1 hb
      go_wp2_with fail
      simp only [S_of]
      have hcl := call_u r t (t.size - x3.length) w10 HR10.out D3.out.2.1 (by have := HTS.out; omega)
      rw [D3.out.1, R4.out] at hcl
      refine hcl.mono ?_
      clear hcl
      rintro en w11 ⟨_, rfl, rfl, hr1, hb⟩
      have HR11 := hidm hr1
      have HB11 := hidm (But.then HB10.out hb hBr HB10.out.size)
      have HV11 := hidm (owns_but HV10.out (by omega) hb)
      clear hr1 hb
      go_wp2_with fail
      have hcl := call_i r t (t.size - (iB m).length) w11 HR11.out D4.out.2.1 (by have := HTS.out; omega)
      rw [D4.out.1, R5.out] at hcl
      refine hcl.mono ?_
      clear hcl
      rintro en w12 ⟨_, rfl, rfl, hr1, hb⟩
      have HR12 := hidm hr1
      have HB12 := hidm (But.then HB11.out hb hBr HB11.out.size)
      have HV12 := hidm (owns_but HV11.out (by omega) hb)
      clear hr1 hb
      go_wp2_with fail
      have hro := rows_any vs vs v (.slice ao c cap) (by have := HC.out; omega) (by have := HC.out; omega) w12 (RowAt.of_owns HV12.out rfl) (HRow.out.later HB12.out)
      rw [show decide (vs = vs) = true from by simp] at hro
      refine hro.mono ?_
      clear hro
      rintro en w13 ⟨rfl, hb⟩
      have HB13 := hidm (HB12.out.trans (hb.mono HB12.out.size))
      have HR13 := hidm (HR12.out.later hb)
      clear hb
      go_wp2_with fail
      have hll := left_any r t (t.size - ([] : List UInt8).length) 0 w13 HR13.out (Nat.sub_le _ _) (by have := HTS.out; omega)
      rw [show t.size - (t.size - ([] : List UInt8).length) = 0 by simp] at hll
      refine hll.mono ?_
      clear hll
      rintro en w14 ⟨rfl, hb⟩
      have HB14 := hidm (HB13.out.trans (hb.mono HB13.out.size))
      have HR14 := hidm (HR13.out.later hb)
      clear hb
      go_wp2_with fail
      refine (err_any r t _ _ w14 HR14.out).mono ?_
      rintro en w15 ⟨rfl, rfl⟩
      go_wp2_with fail
      refine (known_any w14).mono ?_
      rintro en w16 ⟨rfl, hb⟩
      have HB16 := hidm (HB14.out.trans (hb.mono HB14.out.size))
      clear hb
      go_wp2_with fail
      go_ret
      exact ⟨rfl, HB16.out⟩
    · have f2 : (i : Int) < c := by omega
      have hiv : i < vs.length := by have := HC.out; omega
      obtain ⟨b, off, cap', he, hbl, q0, q1, q2, q3⟩ := (HRow.out.later HBr.out).at i hiv
      simp only [Value.slice.injEq] at he
      obtain ⟨rfl, hcv, rfl⟩ := he
      clear hcv
      obtain ⟨v, hv⟩ : ∃ v, v = vs[i] := ⟨_, rfl⟩
      rw [← hv] at q0 q1 q2 q3
      have HVV := hidm hv
      have hrf := rref_any v (by rw [hv]; exact (HWF.out _ (List.getElem_mem hiv)).b) wr
      simp only [V.agg] at hrf
      clear hv
      rcases hright : v.right with _ | _
      · rw [hright] at hrf
        go_wp2_with fail
        refine hrf.mono ?_
        rintro e w2 ⟨rfl, hb⟩
        have HB2 := hidm (HBr.out.trans (hb.mono HBr.out.size))
        clear hb hrf q0 q1 q2 q3
        have cr := row_any vs _ HWF.out (by have := HC.out; omega) w2 (HRow.out.later HB2.out)
        have hrb : rB vs = [] := by
          unfold rB
          rw [if_neg]
          intro hall
          have := List.all_eq_true.1 hall v (by rw [HVV.out]; exact List.getElem_mem hiv)
          rw [hright] at this; cases this
        rw [hrb] at cr
        clear hrb
        have g1 : ((⟨#[]⟩ : ByteArray).toList == []) = true := by rw [ByteArray.toList_eq]; rfl
        go_wp2_with fail
        refine cr.mono ?_
        rintro e w3 ⟨rfl, hb⟩
        have HB3 := hidm (HB2.out.trans (hb.mono HB2.out.size))
        clear hb cr
        go_wp2_with fail
        refine (known_any w3).mono ?_
        rintro e w4 ⟨rfl, hb⟩
        have HB4 := hidm (HB3.out.trans (hb.mono HB3.out.size))
        clear hb
        go_wp2_with fail
        go_ret
        exact ⟨rfl, HB4.out⟩
      · rw [hright] at hrf
        go_wp2_with fail
        refine hrf.mono ?_
        rintro e w2 ⟨rfl, hb⟩
        have HB2 := hidm (HBr.out.trans (hb.mono HBr.out.size))
        have HA4 : Hid ((vs.take (i + 1)).all V.right = true) := by
          refine hidm ?_
          rw [List.take_succ_eq_append_getElem hiv, List.all_append, HA.out, ← HVV.out]
          simp [hright]
        clear hb hrf q0 q1 q2 q3
        go_wp2_with fail
        go_roundw
        case rel => exact ⟨i + 1, by go_num, by omega, HA4, HB2⟩
        case measure => simp [intOf]; omega
theorem law_any (n q : Nat) (hn : n < 18446744073709551616) (s : ByteArray) (sl : Value) (vs : List V) (hl : vs.length ≤ 9223372036854775807) (hin : ∀ v ∈ vs, v.inn) (w : World) (hrow : RowAt vs sl w) : Calls Try.prog 5 #[.agg #[.int .u64 n, .int .u64 q], .string s, sl] w fun e w' => e = .returned (.bool true) ∧ Below w.heap.size w w' := by
  rcases Nat.lt_or_ge 2000 s.size with h | h
  · exact skip_long n q s sl h w
  · rcases hv : okRow vs with _ | _
    · exact skip_row n q s sl vs h hl hv w hrow
    · exact main_any n q hn s sl vs h hl hv hin w hrow
theorem laidOut : laidOutB Try.prog = true := by kernel_rfl
theorem arrZ : ArrKey Try.prog 23 22 2 := ⟨Try.underlying23, by kernel_rfl, by kernel_rfl, by kernel_rfl⟩
set_option maxRecDepth 100000 in
theorem contract (H : Type) (enc : TypeId × Value → H) (W : World) (base : Nat) (args : Array Value) (ds gs : List (DataW H)) (before : List MemPlace)
    (hval : ∀ (j : Nat) t v, Try.f5.params[j]? = some t → args[j]? = some v → Value.okWide Try.prog W .any base t v)
    (hW : DataW.Whole enc Try.prog Try.f5.params.toList Rows.codeBackSpec.vars false W args.toList ds gs before) :
    Calls Try.prog 5 args W fun e W' => ∃ v, e = .returned v ∧ Rows.codeBackSpec.post enc Try.prog Try.f5 false true false false W args v W' := by
  have hW' := hW
  obtain ⟨p, q, hA0, hV, rfl, hfz, hnd⟩ := hW
  have hA : DataW.TrodAll enc Try.prog W 0 (fun _ => true) true Try.f5.params.toList args.toList ds p := hA0
  rw [Try.params5] at hA hval
  obtain ⟨v0, vs0, d0, ds0, p0, q0, hargs, rfl, rfl, h0, r0⟩ := trodAll_cons hA
  obtain ⟨v1, vs1, d1, ds1, p1, q1, rfl, rfl, rfl, h1, r1⟩ := trodAll_cons r0
  obtain ⟨v2, vs2, d2, ds2, p2, q2, rfl, rfl, rfl, h2, r2⟩ := trodAll_cons r1
  obtain ⟨rfl, rfl, rfl⟩ := trodAll_nil r2
  obtain rfl : args = #[v0, v1, v2] := by cases args; simp_all
  obtain ⟨rfl, rfl⟩ := trodVars_none hV
  obtain ⟨n, z, rfl, rfl, rfl, wn, wz⟩ := open_pair arrZ Try.underlying22 (hval 0 23 v0 rfl rfl) h0
  obtain ⟨s, rfl, rfl, rfl, ws⟩ := open_string Try.underlying9 (hval 1 9 v1 rfl rfl) h1
  obtain ⟨vs, hrow, hin, hl⟩ := open_vals (hval 2 24 v2 rfl rfl) h2
  clear hA0
  simp only [List.append_nil, List.nil_append] at hW'
  have bn := bounds_u64 wn
  have bz := bounds_u64 wz
  obtain ⟨n, rfl⟩ := Int.eq_ofNat_of_zero_le bn.1
  obtain ⟨z, rfl⟩ := Int.eq_ofNat_of_zero_le bz.1
  have hlt : ∀ x ∈ p2, x.block < W.heap.size := fun x hx => hW'.lt x hx
  refine (law_any n z (by omega) s v2 vs hl hin W hrow).mono fun e W' ⟨he, hg⟩ => ?_
  subst he
  refine ⟨_, rfl, Fr.post_made (pa := p2) (pv := []) hW' (fun _ _ _ => trodAll_cons_mk (shut_bool Try.underlying4 _) trodAll_mk0) (fun sp hsp => ?_) (fun _ _ => rfl) (by simp) hg (ok_one (by kernel_rfl) rfl (okWide_bool_mk Try.underlying4 _))⟩
  have g2 : DataW.Trod enc Try.prog W' 0 sp true 24 v2 d2 p2 := WideElems.Trod_stays laidOut (by kernel_rfl) (of_decide_eq_true (by kernel_rfl)) h2 (fun x hx => hg.same (hlt x hx)) (fun x hx => hsp x hx)
  have hT := trodAll_cons_mk (shut_pair (enc := enc) (W := W') (base := 0) (sp := sp) (held := true) arrZ Try.underlying22 wn wz) (trodAll_cons_mk (shut_string Try.underlying9 ws) (trodAll_cons_mk g2 trodAll_mk0))
  simp only [List.append_nil, List.nil_append] at hT
  exact hT
set_option maxRecDepth 100000 in
theorem lifted (os : Os) (started : os.Started) (H : Type) (enc : TypeId × Value → H) :
    ReturnsInHanded {} Try.checked os 5 .any (Rows.codeBackSpec.pre6 enc Try.prog Try.f5 Rows.codeBackRow.domain false) (Rows.codeBackSpec.post enc Try.prog Try.f5 false true false false) := by
  refine returnsInHanded_of_change (C := Try.checked) Fr.own started (by kernel_rfl) Try.func5
    (ChangeSpec.witness6 (enc := enc) (C := Try.checked) false ⟨#[], #[.agg #[.int .u64 0, .int .u64 0], .string ⟨#[]⟩, .slice none 0 0], []⟩ 8 (by kernel_rfl) (by kernel_rfl) (by kernel_rfl) (by kernel_rfl)) ?_
  intro W base args ds gs before hval hW _ _
  exact contract H enc W base args ds gs before hval hW
theorem said : Rows.CodeBackSaid :=
  OpenClaim.holds_of_wide 5 Try.f5 rfl rfl rfl rfl rfl rfl rfl ⟨rfl, rfl, rfl, rfl, rfl⟩ rfl rfl rfl rfl rfl (by kernel_rfl) Try.func5 (by kernel_rfl)
    (of_decide_eq_true (by kernel_rfl)) (by unfold Func.isWrapper; first | (rw [if_pos (by decide +kernel)]; kernel_rfl) | (rw [if_neg (by decide +kernel)]; exact ⟨rfl, rfl⟩))
    (fun os started H enc _ => lifted os started H enc)
end LaCodeBack
end Go.Proofs.Ytblangepeofobaa
