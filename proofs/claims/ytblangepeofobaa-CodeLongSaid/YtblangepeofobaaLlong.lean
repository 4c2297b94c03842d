/- CodeLong is proved: for every number and every text the law returns true and its arguments read as they did. No other condition. -/
import Derived.Test.YtblangepeofobaaCz
import Derived.Test.YtblangepeofobaaFra
import Derived.Test.YtblangepeofobaaCpm
namespace Go.Proofs.Ytblangepeofobaa
open Go.ChangeShapes Go.WideShapes Go.ChangeAt Go.RowKit
open Go.ChangeMaps (open_string shut_string)
namespace LaCodeLong
open Cod
theorem long_any (n : Nat) (t : ByteArray) (ht : 100 < t.size) (w : World) : Calls Try.prog 10 #[.int .u64 n, .string t] w fun e w' => e = .returned (.bool true) ∧ Below w.heap.size w w' := by
  have f1 : (100 : Int) < (t.size : Int) := by omega
  have f2 : 100 < t.size := ht
  go_enter Try.func10, Try.ntmps10
  go_wp2_with fail
  refine (known_any w).mono ?_
  rintro e w1 ⟨rfl, hb⟩
  have HB1 := hidm hb
  clear hb
  go_wp2_with fail
  go_ret
  exact ⟨rfl, HB1.out⟩
set_option maxHeartbeats 4000000 in
set_option maxRecDepth 100000 in
theorem l_a (n : Nat) (hn : n < 18446744073709551616) (t : ByteArray) (ht : t.size ≤ 100) (h1 : 1000000 < n) (w : World) : Calls Try.prog 10 #[.int .u64 n, .string t] w fun e w' => e = .returned (.bool true) ∧ Below w.heap.size w w' := by
  have f1 : ¬ (100 : Int) < (t.size : Int) := by omega
  have f2 : (1000000 : Int) < n := by omega
  have f3 : ¬ (n : Int) ≤ 1000 := by omega
  have f4 : (1000 : Int) < n := by omega
  have f5 : ((n : Int) == 0) = false := by simp; omega
  have HT : Hid (txt 1000000 (uB n ++ t.data.toList) = .error 19) := hidm (by unfold txt len; rw [read_uB n _ hn]; simp only [lenR]; rw [if_pos h1]; rfl)
  have HRw : Hid (row (uB n) = .error 19) := hidm (by unfold row len; rw [← List.append_nil (uB n), read_uB n _ hn]; simp only [lenR]; rw [if_pos (by omega)]; rfl)
  have cu := fun w => uint_any n hn w
  obtain ⟨a, ha⟩ : ∃ a, a = S (uB n) := ⟨_, rfl⟩
  rw [← ha] at cu
  have HU := hidm (uB_ten n hn)
  have hal : Hid (a.size = (uB n).length) := hidm (by rw [ha, S_size])
  have haa : Hid (a.data.toList = uB n) := hidm (by rw [ha])
  have hsum : Hid (a ++ t = S (uB n ++ t.data.toList)) := by
    refine hidm ?_
    conv => lhs; rw [ha, ← S_of t]
    rw [S_append]
  clear ha
  have hsz : a.size ≤ 10 := by rw [hal.out]; exact HU.out
  go_enter Try.func10, Try.ntmps10
  go_wp2_with fail
  refine (cu w).mono ?_
  rintro e w1 ⟨rfl, hb⟩
  have HB1 := hidm hb
  clear hb
  go_wp2_with fail
  obtain ⟨s, hs⟩ : ∃ s, s = a ++ t := ⟨_, rfl⟩
  have HS : Hid (s.data.toList = uB n ++ t.data.toList) := hidm (by rw [hs, hsum.out])
  have HSS : Hid (s.size = a.size + t.size) := hidm (by rw [← len_eq, HS.out, List.length_append, len_eq, ← hal.out])
  simp only [← hs]
  clear hs hsum
  refine (new_any s w1 (by have := HSS.out; omega)).mono ?_
  rintro e w2 ⟨r, hr, rfl, hr2, hb⟩
  have hBr : w.heap.size ≤ r := Nat.le_trans HB1.out.size hr
  have HB2 := hidm (HB1.out.trans (hb.mono HB1.out.size))
  have HR2 : Hid (Rdr r s (0 : Nat) 0 w2) := hidm hr2
  clear hb hr2 hr
  go_wp2_with fail
  refine (cu w2).mono ?_
  rintro e w3 ⟨rfl, hb⟩
  have HB3 := hidm (HB2.out.trans (hb.mono HB2.out.size))
  have HR3 := hidm (HR2.out.later hb)
  clear hb
  go_wp2_with fail
  refine (new_any a w3 (by omega)).mono ?_
  rintro e w4 ⟨x, hx, rfl, hx4, hb⟩
  have hBx : w.heap.size ≤ x := Nat.le_trans HB3.out.size hx
  have hrx : r < x := Nat.lt_of_lt_of_le HR3.out.lt hx
  have HB4 := hidm (HB3.out.trans (hb.mono HB3.out.size))
  have HR4 := hidm (HR3.out.later hb)
  have HX4 : Hid (Rdr x a (0 : Nat) 0 w4) := hidm hx4
  clear hb hx4 hx
  go_wp2_with fail
  have hct := call_t r s 0 w4 HR4.out (by omega) (by have := HSS.out; omega)
  rw [List.drop_zero, HS.out, HT.out] at hct
  refine hct.mono ?_
  clear hct
  rintro en w5 ⟨rfl, hr5, hb⟩
  have HR5 := hidm hr5
  have HB5 := hidm (But.then HB4.out hb hBr HB4.out.size)
  have HX5 := hidm (HX4.out.but (by omega) hb)
  clear hr5 hb
  go_wp2_with fail
  have hcl := call_l x a 0 w5 HX5.out (by omega) (by omega)
  rw [List.drop_zero, haa.out, HRw.out] at hcl
  refine hcl.mono ?_
  clear hcl
  rintro en w6 ⟨rfl, hx6, hb⟩
  have HX6 := hidm hx6
  have HB6 := hidm (But.then HB5.out hb hBx HB5.out.size)
  have HR6 := hidm (HR5.out.but (by omega) hb)
  clear hx6 hb
  have g1 : ((⟨#[]⟩ : ByteArray).toList == []) = true := by rw [ByteArray.toList_eq]; rfl
  go_wp2_with fail
  refine (err_any r s _ _ w6 HR6.out).mono ?_
  rintro en w7 ⟨rfl, rfl⟩
  go_wp2_with fail
  refine (err_any x a _ _ w6 HX6.out).mono ?_
  rintro en w7 ⟨rfl, rfl⟩
  go_wp2_with fail
  refine (err_any r s _ _ w6 HR6.out).mono ?_
  rintro en w7 ⟨rfl, rfl⟩
  go_wp2_with fail
  have hll := left_any r s 0 19 w6 HR6.out (by omega) (by have := HSS.out; omega)
  rw [Nat.sub_zero] at hll
  refine hll.mono ?_
  rintro en w7 ⟨rfl, hb⟩
  have HB7 := hidm (HB6.out.trans (hb.mono HB6.out.size))
  clear hll hb
  go_wp2_with fail
  refine (cu w7).mono ?_
  rintro en w8 ⟨rfl, hb⟩
  have HB8 := hidm (HB7.out.trans (hb.mono HB7.out.size))
  clear hb
  have gs : ((s.size : Int) == (a.size : Int) + (t.size : Int)) = true := by have := HSS.out; simp; omega
  go_wp2_with fail
  refine (known_any w8).mono ?_
  rintro en w9 ⟨rfl, hb⟩
  have HB9 := hidm (HB8.out.trans (hb.mono HB8.out.size))
  clear hb
  go_wp2_with fail
  go_ret
  exact ⟨rfl, HB9.out⟩
set_option maxHeartbeats 4000000 in
set_option maxRecDepth 100000 in
theorem l_b (n : Nat) (hn : n < 18446744073709551616) (t : ByteArray) (ht : t.size ≤ 100) (h1 : 1000 < n) (h2 : n ≤ 1000000) (w : World) : Calls Try.prog 10 #[.int .u64 n, .string t] w fun e w' => e = .returned (.bool true) ∧ Below w.heap.size w w' := by
  have f1 : ¬ (100 : Int) < (t.size : Int) := by omega
  have f2 : ¬ (1000000 : Int) < n := by omega
  have f2' : (n : Int) ≤ 1000000 := by omega
  have f3 : ¬ (n : Int) ≤ 1000 := by omega
  have f4 : (1000 : Int) < n := by omega
  have f5 : ((n : Int) == 0) = false := by simp; omega
  have f6 : (t.size : Int) < n := by omega
  have HT : Hid (txt 1000000 (uB n ++ t.data.toList) = .error 8) := hidm (by unfold txt; rw [len_back 1000000 n (by omega) (by omega)]; simp only [txtR]; rw [if_pos (by rw [len_eq]; omega)])
  have HRw : Hid (row (uB n) = .error 19) := hidm (by unfold row len; rw [← List.append_nil (uB n), read_uB n _ hn]; simp only [lenR]; rw [if_pos (by omega)]; rfl)
  have cu := fun w => uint_any n hn w
  obtain ⟨a, ha⟩ : ∃ a, a = S (uB n) := ⟨_, rfl⟩
  rw [← ha] at cu
  have HU := hidm (uB_ten n hn)
  have hal : Hid (a.size = (uB n).length) := hidm (by rw [ha, S_size])
  have haa : Hid (a.data.toList = uB n) := hidm (by rw [ha])
  have hsum : Hid (a ++ t = S (uB n ++ t.data.toList)) := by
    refine hidm ?_
    conv => lhs; rw [ha, ← S_of t]
    rw [S_append]
  clear ha
  have hsz : a.size ≤ 10 := by rw [hal.out]; exact HU.out
  go_enter Try.func10, Try.ntmps10
  go_wp2_with fail
  refine (cu w).mono ?_
  rintro e w1 ⟨rfl, hb⟩
  have HB1 := hidm hb
  clear hb
  go_wp2_with fail
  obtain ⟨s, hs⟩ : ∃ s, s = a ++ t := ⟨_, rfl⟩
  have HS : Hid (s.data.toList = uB n ++ t.data.toList) := hidm (by rw [hs, hsum.out])
  have HSS : Hid (s.size = a.size + t.size) := hidm (by rw [← len_eq, HS.out, List.length_append, len_eq, ← hal.out])
  simp only [← hs]
  clear hs hsum
  refine (new_any s w1 (by have := HSS.out; omega)).mono ?_
  rintro e w2 ⟨r, hr, rfl, hr2, hb⟩
  have hBr : w.heap.size ≤ r := Nat.le_trans HB1.out.size hr
  have HB2 := hidm (HB1.out.trans (hb.mono HB1.out.size))
  have HR2 : Hid (Rdr r s (0 : Nat) 0 w2) := hidm hr2
  clear hb hr2 hr
  go_wp2_with fail
  refine (cu w2).mono ?_
  rintro e w3 ⟨rfl, hb⟩
  have HB3 := hidm (HB2.out.trans (hb.mono HB2.out.size))
  have HR3 := hidm (HR2.out.later hb)
  clear hb
  go_wp2_with fail
  refine (new_any a w3 (by omega)).mono ?_
  rintro e w4 ⟨x, hx, rfl, hx4, hb⟩
  have hBx : w.heap.size ≤ x := Nat.le_trans HB3.out.size hx
  have hrx : r < x := Nat.lt_of_lt_of_le HR3.out.lt hx
  have HB4 := hidm (HB3.out.trans (hb.mono HB3.out.size))
  have HR4 := hidm (HR3.out.later hb)
  have HX4 : Hid (Rdr x a (0 : Nat) 0 w4) := hidm hx4
  clear hb hx4 hx
  go_wp2_with fail
  have hct := call_t r s 0 w4 HR4.out (by omega) (by have := HSS.out; omega)
  rw [List.drop_zero, HS.out, HT.out] at hct
  refine hct.mono ?_
  clear hct
  rintro en w5 ⟨rfl, hr5, hb⟩
  have HR5 := hidm hr5
  have HB5 := hidm (But.then HB4.out hb hBr HB4.out.size)
  have HX5 := hidm (HX4.out.but (by omega) hb)
  clear hr5 hb
  go_wp2_with fail
  have hcl := call_l x a 0 w5 HX5.out (by omega) (by omega)
  rw [List.drop_zero, haa.out, HRw.out] at hcl
  refine hcl.mono ?_
  clear hcl
  rintro en w6 ⟨rfl, hx6, hb⟩
  have HX6 := hidm hx6
  have HB6 := hidm (But.then HB5.out hb hBx HB5.out.size)
  have HR6 := hidm (HR5.out.but (by omega) hb)
  clear hx6 hb
  have g1 : ((⟨#[]⟩ : ByteArray).toList == []) = true := by rw [ByteArray.toList_eq]; rfl
  go_wp2_with fail
  refine (err_any r s _ _ w6 HR6.out).mono ?_
  rintro en w7 ⟨rfl, rfl⟩
  go_wp2_with fail
  refine (err_any x a _ _ w6 HX6.out).mono ?_
  rintro en w7 ⟨rfl, rfl⟩
  go_wp2_with fail
  refine (err_any r s _ _ w6 HR6.out).mono ?_
  rintro en w7 ⟨rfl, rfl⟩
  go_wp2_with fail
  have hll := left_any r s 0 8 w6 HR6.out (by omega) (by have := HSS.out; omega)
  rw [Nat.sub_zero] at hll
  refine hll.mono ?_
  rintro en w7 ⟨rfl, hb⟩
  have HB7 := hidm (HB6.out.trans (hb.mono HB6.out.size))
  clear hll hb
  go_wp2_with fail
  refine (cu w7).mono ?_
  rintro en w8 ⟨rfl, hb⟩
  have HB8 := hidm (HB7.out.trans (hb.mono HB7.out.size))
  clear hb
  have gs : ((s.size : Int) == (a.size : Int) + (t.size : Int)) = true := by have := HSS.out; simp; omega
  go_wp2_with fail
  refine (known_any w8).mono ?_
  rintro en w9 ⟨rfl, hb⟩
  have HB9 := hidm (HB8.out.trans (hb.mono HB8.out.size))
  clear hb
  go_wp2_with fail
  go_ret
  exact ⟨rfl, HB9.out⟩
set_option maxHeartbeats 4000000 in
set_option maxRecDepth 100000 in
theorem l_c (n : Nat) (hn : n < 18446744073709551616) (t : ByteArray) (ht : t.size ≤ 100) (h1 : t.size < n) (h2 : n ≤ 1000) (w : World) : Calls Try.prog 10 #[.int .u64 n, .string t] w fun e w' => e = .returned (.bool true) ∧ Below w.heap.size w w' := by
  have f1 : ¬ (100 : Int) < (t.size : Int) := by omega
  have f2 : ¬ (1000000 : Int) < n := by omega
  have f2' : (n : Int) ≤ 1000000 := by omega
  have f3 : (n : Int) ≤ 1000 := by omega
  have f4 : ¬ (1000 : Int) < n := by omega
  have f5 : ((n : Int) == 0) = false := by simp; omega
  have f6 : (t.size : Int) < n := by omega
  have HT : Hid (txt 1000000 (uB n ++ t.data.toList) = .error 8) := hidm (by unfold txt; rw [len_back 1000000 n (by omega) (by omega)]; simp only [txtR]; rw [if_pos (by rw [len_eq]; omega)])
  have HRw : Hid (row (uB n) = .error 8) := hidm (by unfold row; rw [← List.append_nil (uB n), len_back 1000 n (by omega) (by omega)]; obtain ⟨m, rfl⟩ : ∃ m, n = m + 1 := ⟨n - 1, by omega⟩; rfl)
  have cu := fun w => uint_any n hn w
  obtain ⟨a, ha⟩ : ∃ a, a = S (uB n) := ⟨_, rfl⟩
  rw [← ha] at cu
  have HU := hidm (uB_ten n hn)
  have hal : Hid (a.size = (uB n).length) := hidm (by rw [ha, S_size])
  have haa : Hid (a.data.toList = uB n) := hidm (by rw [ha])
  have hsum : Hid (a ++ t = S (uB n ++ t.data.toList)) := by
    refine hidm ?_
    conv => lhs; rw [ha, ← S_of t]
    rw [S_append]
  clear ha
  have hsz : a.size ≤ 10 := by rw [hal.out]; exact HU.out
  go_enter Try.func10, Try.ntmps10
  go_wp2_with fail
  refine (cu w).mono ?_
  rintro e w1 ⟨rfl, hb⟩
  have HB1 := hidm hb
  clear hb
  go_wp2_with fail
  obtain ⟨s, hs⟩ : ∃ s, s = a ++ t := ⟨_, rfl⟩
  have HS : Hid (s.data.toList = uB n ++ t.data.toList) := hidm (by rw [hs, hsum.out])
  have HSS : Hid (s.size = a.size + t.size) := hidm (by rw [← len_eq, HS.out, List.length_append, len_eq, ← hal.out])
  simp only [← hs]
  clear hs hsum
  refine (new_any s w1 (by have := HSS.out; omega)).mono ?_
  rintro e w2 ⟨r, hr, rfl, hr2, hb⟩
  have hBr : w.heap.size ≤ r := Nat.le_trans HB1.out.size hr
  have HB2 := hidm (HB1.out.trans (hb.mono HB1.out.size))
  have HR2 : Hid (Rdr r s (0 : Nat) 0 w2) := hidm hr2
  clear hb hr2 hr
  go_wp2_with fail
  refine (cu w2).mono ?_
  rintro e w3 ⟨rfl, hb⟩
  have HB3 := hidm (HB2.out.trans (hb.mono HB2.out.size))
  have HR3 := hidm (HR2.out.later hb)
  clear hb
  go_wp2_with fail
  refine (new_any a w3 (by omega)).mono ?_
  rintro e w4 ⟨x, hx, rfl, hx4, hb⟩
  have hBx : w.heap.size ≤ x := Nat.le_trans HB3.out.size hx
  have hrx : r < x := Nat.lt_of_lt_of_le HR3.out.lt hx
  have HB4 := hidm (HB3.out.trans (hb.mono HB3.out.size))
  have HR4 := hidm (HR3.out.later hb)
  have HX4 : Hid (Rdr x a (0 : Nat) 0 w4) := hidm hx4
  clear hb hx4 hx
  go_wp2_with fail
  have hct := call_t r s 0 w4 HR4.out (by omega) (by have := HSS.out; omega)
  rw [List.drop_zero, HS.out, HT.out] at hct
  refine hct.mono ?_
  clear hct
  rintro en w5 ⟨rfl, hr5, hb⟩
  have HR5 := hidm hr5
  have HB5 := hidm (But.then HB4.out hb hBr HB4.out.size)
  have HX5 := hidm (HX4.out.but (by omega) hb)
  clear hr5 hb
  go_wp2_with fail
  have hcl := call_l x a 0 w5 HX5.out (by omega) (by omega)
  rw [List.drop_zero, haa.out, HRw.out] at hcl
  refine hcl.mono ?_
  clear hcl
  rintro en w6 ⟨rfl, hx6, hb⟩
  have HX6 := hidm hx6
  have HB6 := hidm (But.then HB5.out hb hBx HB5.out.size)
  have HR6 := hidm (HR5.out.but (by omega) hb)
  clear hx6 hb
  have g1 : ((⟨#[]⟩ : ByteArray).toList == []) = true := by rw [ByteArray.toList_eq]; rfl
  go_wp2_with fail
  refine (err_any r s _ _ w6 HR6.out).mono ?_
  rintro en w7 ⟨rfl, rfl⟩
  go_wp2_with fail
  refine (err_any x a _ _ w6 HX6.out).mono ?_
  rintro en w7 ⟨rfl, rfl⟩
  go_wp2_with fail
  refine (err_any r s _ _ w6 HR6.out).mono ?_
  rintro en w7 ⟨rfl, rfl⟩
  go_wp2_with fail
  have hll := left_any r s 0 8 w6 HR6.out (by omega) (by have := HSS.out; omega)
  rw [Nat.sub_zero] at hll
  refine hll.mono ?_
  rintro en w7 ⟨rfl, hb⟩
  have HB7 := hidm (HB6.out.trans (hb.mono HB6.out.size))
  clear hll hb
  go_wp2_with fail
  refine (cu w7).mono ?_
  rintro en w8 ⟨rfl, hb⟩
  have HB8 := hidm (HB7.out.trans (hb.mono HB7.out.size))
  clear hb
  have gs : ((s.size : Int) == (a.size : Int) + (t.size : Int)) = true := by have := HSS.out; simp; omega
  go_wp2_with fail
  refine (known_any w8).mono ?_
  rintro en w9 ⟨rfl, hb⟩
  have HB9 := hidm (HB8.out.trans (hb.mono HB8.out.size))
  clear hb
  go_wp2_with fail
  go_ret
  exact ⟨rfl, HB9.out⟩
set_option maxHeartbeats 4000000 in
set_option maxRecDepth 100000 in
theorem l_d (n : Nat) (hn : n < 18446744073709551616) (t : ByteArray) (ht : t.size ≤ 100) (h0 : 0 < n) (h1 : n ≤ t.size) (w : World) : Calls Try.prog 10 #[.int .u64 n, .string t] w fun e w' => e = .returned (.bool true) ∧ Below w.heap.size w w' := by
  have f1 : ¬ (100 : Int) < (t.size : Int) := by omega
  have f2 : ¬ (1000000 : Int) < n := by omega
  have f2' : (n : Int) ≤ 1000000 := by omega
  have f3 : (n : Int) ≤ 1000 := by omega
  have f4 : ¬ (1000 : Int) < n := by omega
  have f5 : ((n : Int) == 0) = false := by simp; omega
  have f6 : ¬ (t.size : Int) < n := by omega
  have HT : Hid (txt 1000000 (uB n ++ t.data.toList) = .ok (t.data.toList.take n, t.data.toList.drop n)) := hidm (by unfold txt; rw [len_back 1000000 n (by omega) (by omega)]; simp only [txtR]; rw [if_neg (by rw [len_eq]; omega)])
  have HRw : Hid (row (uB n) = .error 8) := hidm (by unfold row; rw [← List.append_nil (uB n), len_back 1000 n (by omega) (by omega)]; obtain ⟨m, rfl⟩ : ∃ m, n = m + 1 := ⟨n - 1, by omega⟩; rfl)
  have cu := fun w => uint_any n hn w
  obtain ⟨a, ha⟩ : ∃ a, a = S (uB n) := ⟨_, rfl⟩
  rw [← ha] at cu
  have HU := hidm (uB_ten n hn)
  have hal : Hid (a.size = (uB n).length) := hidm (by rw [ha, S_size])
  have haa : Hid (a.data.toList = uB n) := hidm (by rw [ha])
  have hsum : Hid (a ++ t = S (uB n ++ t.data.toList)) := by
    refine hidm ?_
    conv => lhs; rw [ha, ← S_of t]
    rw [S_append]
  clear ha
  have hsz : a.size ≤ 10 := by rw [hal.out]; exact HU.out
  go_enter Try.func10, Try.ntmps10
  go_wp2_with fail
  refine (cu w).mono ?_
  rintro e w1 ⟨rfl, hb⟩
  have HB1 := hidm hb
  clear hb
  go_wp2_with fail
  obtain ⟨s, hs⟩ : ∃ s, s = a ++ t := ⟨_, rfl⟩
  have HS : Hid (s.data.toList = uB n ++ t.data.toList) := hidm (by rw [hs, hsum.out])
  have HSS : Hid (s.size = a.size + t.size) := hidm (by rw [← len_eq, HS.out, List.length_append, len_eq, ← hal.out])
  simp only [← hs]
  clear hs hsum
  refine (new_any s w1 (by have := HSS.out; omega)).mono ?_
  rintro e w2 ⟨r, hr, rfl, hr2, hb⟩
  have hBr : w.heap.size ≤ r := Nat.le_trans HB1.out.size hr
  have HB2 := hidm (HB1.out.trans (hb.mono HB1.out.size))
  have HR2 : Hid (Rdr r s (0 : Nat) 0 w2) := hidm hr2
  clear hb hr2 hr
  go_wp2_with fail
  refine (cu w2).mono ?_
  rintro e w3 ⟨rfl, hb⟩
  have HB3 := hidm (HB2.out.trans (hb.mono HB2.out.size))
  have HR3 := hidm (HR2.out.later hb)
  clear hb
  go_wp2_with fail
  refine (new_any a w3 (by omega)).mono ?_
  rintro e w4 ⟨x, hx, rfl, hx4, hb⟩
  have hBx : w.heap.size ≤ x := Nat.le_trans HB3.out.size hx
  have hrx : r < x := Nat.lt_of_lt_of_le HR3.out.lt hx
  have HB4 := hidm (HB3.out.trans (hb.mono HB3.out.size))
  have HR4 := hidm (HR3.out.later hb)
  have HX4 : Hid (Rdr x a (0 : Nat) 0 w4) := hidm hx4
  clear hb hx4 hx
  go_wp2_with fail
  have hct := call_t r s 0 w4 HR4.out (by omega) (by have := HSS.out; omega)
  rw [List.drop_zero, HS.out, HT.out] at hct
  refine hct.mono ?_
  clear hct
  rintro en w5 ⟨_, rfl, rfl, hr5, hb⟩
  have HR5 := hidm hr5
  have HB5 := hidm (But.then HB4.out hb hBr HB4.out.size)
  have HX5 := hidm (HX4.out.but (by omega) hb)
  clear hr5 hb
  go_wp2_with fail
  have hcl := call_l x a 0 w5 HX5.out (by omega) (by omega)
  rw [List.drop_zero, haa.out, HRw.out] at hcl
  refine hcl.mono ?_
  clear hcl
  rintro en w6 ⟨rfl, hx6, hb⟩
  have HX6 := hidm hx6
  have HB6 := hidm (But.then HB5.out hb hBx HB5.out.size)
  have HR6 := hidm (HR5.out.but (by omega) hb)
  clear hx6 hb
  obtain ⟨y, hy⟩ : ∃ y, y = S (t.data.toList.take n) := ⟨_, rfl⟩
  simp only [← hy]
  clear hy
  go_wp2_with fail
  refine (err_any x a _ _ w6 HX6.out).mono ?_
  rintro en w7 ⟨rfl, rfl⟩
  go_wp2_with fail
  refine (err_any r s _ _ w6 HR6.out).mono ?_
  rintro en w7 ⟨rfl, rfl⟩
  go_wp2_with fail
  refine (known_any w6).mono ?_
  rintro en w9 ⟨rfl, hb⟩
  have HB9 := hidm (HB6.out.trans (hb.mono HB6.out.size))
  clear hb
  go_wp2_with fail
  go_ret
  exact ⟨rfl, HB9.out⟩
set_option maxHeartbeats 4000000 in
set_option maxRecDepth 100000 in
theorem l_e (n : Nat) (hn : n < 18446744073709551616) (t : ByteArray) (ht : t.size ≤ 100) (h0 : n = 0) (w : World) : Calls Try.prog 10 #[.int .u64 n, .string t] w fun e w' => e = .returned (.bool true) ∧ Below w.heap.size w w' := by
  have f1 : ¬ (100 : Int) < (t.size : Int) := by omega
  have f2 : ¬ (1000000 : Int) < n := by omega
  have f2' : (n : Int) ≤ 1000000 := by omega
  have f3 : (n : Int) ≤ 1000 := by omega
  have f4 : ¬ (1000 : Int) < n := by omega
  have f5 : ((n : Int) == 0) = true := by simp; omega
  have f6 : ¬ (t.size : Int) < n := by omega
  have HT : Hid (txt 1000000 (uB n ++ t.data.toList) = .ok (t.data.toList.take n, t.data.toList.drop n)) := hidm (by unfold txt; rw [len_back 1000000 n (by omega) (by omega)]; simp only [txtR]; rw [if_neg (by rw [len_eq]; omega)])
  have HRw : Hid (row (uB n) = .ok ([], [])) := hidm (by unfold row; rw [← List.append_nil (uB n), len_back 1000 n (by omega) (by omega)]; subst h0; rfl)
  have H0 := hidm h0
  clear h0
  have cu := fun w => uint_any n hn w
  obtain ⟨a, ha⟩ : ∃ a, a = S (uB n) := ⟨_, rfl⟩
  rw [← ha] at cu
  have HU := hidm (uB_ten n hn)
  have hal : Hid (a.size = (uB n).length) := hidm (by rw [ha, S_size])
  have haa : Hid (a.data.toList = uB n) := hidm (by rw [ha])
  have hsum : Hid (a ++ t = S (uB n ++ t.data.toList)) := by
    refine hidm ?_
    conv => lhs; rw [ha, ← S_of t]
    rw [S_append]
  clear ha
  have hsz : a.size ≤ 10 := by rw [hal.out]; exact HU.out
  go_enter Try.func10, Try.ntmps10
  go_wp2_with fail
  refine (cu w).mono ?_
  rintro e w1 ⟨rfl, hb⟩
  have HB1 := hidm hb
  clear hb
  go_wp2_with fail
  obtain ⟨s, hs⟩ : ∃ s, s = a ++ t := ⟨_, rfl⟩
  have HS : Hid (s.data.toList = uB n ++ t.data.toList) := hidm (by rw [hs, hsum.out])
  have HSS : Hid (s.size = a.size + t.size) := hidm (by rw [← len_eq, HS.out, List.length_append, len_eq, ← hal.out])
  simp only [← hs]
  clear hs hsum
  refine (new_any s w1 (by have := HSS.out; omega)).mono ?_
  rintro e w2 ⟨r, hr, rfl, hr2, hb⟩
  have hBr : w.heap.size ≤ r := Nat.le_trans HB1.out.size hr
  have HB2 := hidm (HB1.out.trans (hb.mono HB1.out.size))
  have HR2 : Hid (Rdr r s (0 : Nat) 0 w2) := hidm hr2
  clear hb hr2 hr
  go_wp2_with fail
  refine (cu w2).mono ?_
  rintro e w3 ⟨rfl, hb⟩
  have HB3 := hidm (HB2.out.trans (hb.mono HB2.out.size))
  have HR3 := hidm (HR2.out.later hb)
  clear hb
  go_wp2_with fail
  refine (new_any a w3 (by omega)).mono ?_
  rintro e w4 ⟨x, hx, rfl, hx4, hb⟩
  have hBx : w.heap.size ≤ x := Nat.le_trans HB3.out.size hx
  have hrx : r < x := Nat.lt_of_lt_of_le HR3.out.lt hx
  have HB4 := hidm (HB3.out.trans (hb.mono HB3.out.size))
  have HR4 := hidm (HR3.out.later hb)
  have HX4 : Hid (Rdr x a (0 : Nat) 0 w4) := hidm hx4
  clear hb hx4 hx
  go_wp2_with fail
  have hct := call_t r s 0 w4 HR4.out (by omega) (by have := HSS.out; omega)
  rw [List.drop_zero, HS.out, HT.out] at hct
  refine hct.mono ?_
  clear hct
  rintro en w5 ⟨_, rfl, rfl, hr5, hb⟩
  have HR5 := hidm hr5
  have HB5 := hidm (But.then HB4.out hb hBr HB4.out.size)
  have HX5 := hidm (HX4.out.but (by omega) hb)
  clear hr5 hb
  go_wp2_with fail
  have hcl := call_l x a 0 w5 HX5.out (by omega) (by omega)
  rw [List.drop_zero, haa.out, HRw.out] at hcl
  refine hcl.mono ?_
  clear hcl
  rintro en w6 ⟨v, rfl, hv, hx6, hb⟩
  obtain ⟨ao, cap, rfl, _⟩ := RowAt.of_owns hv rfl
  simp only [List.length_nil]
  clear hv
  have HX6 := hidm hx6
  have HB6 := hidm (But.then HB5.out hb hBx HB5.out.size)
  have HR6 := hidm (HR5.out.but (by omega) hb)
  clear hx6 hb
  obtain ⟨y, hy⟩ : ∃ y, y = S (t.data.toList.take n) := ⟨_, rfl⟩
  simp only [← hy]
  clear hy
  go_wp2_with fail
  refine (err_any r s _ _ w6 HR6.out).mono ?_
  rintro en w7 ⟨rfl, rfl⟩
  go_wp2_with fail
  refine (known_any w6).mono ?_
  rintro en w9 ⟨rfl, hb⟩
  have HB9 := hidm (HB6.out.trans (hb.mono HB6.out.size))
  clear hb
  go_wp2_with fail
  go_ret
  exact ⟨rfl, HB9.out⟩
theorem law_any (n : Nat) (hn : n < 18446744073709551616) (t : ByteArray) (w : World) : Calls Try.prog 10 #[.int .u64 n, .string t] w fun e w' => e = .returned (.bool true) ∧ Below w.heap.size w w' := by
  rcases Nat.lt_or_ge 100 t.size with h | h
  · exact long_any n t h w
  · by_cases h0 : n = 0
    · exact l_e n hn t h h0 w
    by_cases h1 : n ≤ t.size
    · exact l_d n hn t h (by omega) h1 w
    by_cases h2 : n ≤ 1000
    · exact l_c n hn t h (by omega) h2 w
    by_cases h3 : n ≤ 1000000
    · exact l_b n hn t h (by omega) h3 w
    · exact l_a n hn t h (by omega) w
set_option maxRecDepth 100000 in
theorem contract (H : Type) (enc : TypeId × Value → H) (W : World) (base : Nat) (args : Array Value) (ds gs : List (DataW H)) (before : List MemPlace)
    (hval : ∀ (j : Nat) t v, Try.f10.params[j]? = some t → args[j]? = some v → Value.okWide Try.prog W .any base t v)
    (hW : DataW.Whole enc Try.prog Try.f10.params.toList Rows.codeLongSpec.vars false W args.toList ds gs before) :
    Calls Try.prog 10 args W fun e W' => ∃ v, e = .returned v ∧ Rows.codeLongSpec.post enc Try.prog Try.f10 false true false false W args v W' := by
  have hW' := hW
  obtain ⟨p, q, hA0, hV, rfl, hfz, hnd⟩ := hW
  have hA : DataW.TrodAll enc Try.prog W 0 (fun _ => true) true Try.f10.params.toList args.toList ds p := hA0
  rw [Try.params10] at hA hval
  obtain ⟨v0, vs0, d0, ds0, p0, q0, hargs, rfl, rfl, h0, r0⟩ := trodAll_cons hA
  obtain ⟨v1, vs1, d1, ds1, p1, q1, rfl, rfl, rfl, h1, r1⟩ := trodAll_cons r0
  obtain ⟨rfl, rfl, rfl⟩ := trodAll_nil r1
  obtain rfl : args = #[v0, v1] := by cases args; simp_all
  obtain ⟨rfl, rfl⟩ := trodVars_none hV
  obtain ⟨x, rfl, rfl, rfl, wx⟩ := open_int Try.underlying22 (hval 0 22 v0 rfl rfl) h0
  obtain ⟨t, rfl, rfl, rfl, wt⟩ := open_string Try.underlying9 (hval 1 9 v1 rfl rfl) h1
  clear hA0
  simp only [List.append_nil] at hW'
  have bx := bounds_u64 wx
  obtain ⟨x, rfl⟩ := Int.eq_ofNat_of_zero_le bx.1
  have walk := law_any x (by omega) t W
  refine walk.mono fun e W' ⟨he, hg⟩ => ?_
  subst he
  exact ⟨_, rfl, Fr.post_made (pa := []) (pv := []) hW' (fun _ _ _ => trodAll_cons_mk (shut_bool Try.underlying4 _) trodAll_mk0) (fun _ _ => trodAll_cons_mk (shut_int Try.underlying22 wx) (trodAll_cons_mk (shut_string Try.underlying9 wt) trodAll_mk0)) (fun _ _ => rfl) rfl hg (ok_one (by kernel_rfl) rfl (okWide_bool_mk Try.underlying4 _))⟩
set_option maxRecDepth 100000 in
theorem lifted (os : Os) (started : os.Started) (H : Type) (enc : TypeId × Value → H) :
    ReturnsInHanded {} Try.checked os 10 .any (Rows.codeLongSpec.pre6 enc Try.prog Try.f10 Rows.codeLongRow.domain false) (Rows.codeLongSpec.post enc Try.prog Try.f10 false true false false) := by
  refine returnsInHanded_of_change (C := Try.checked) Fr.own started (by kernel_rfl) Try.func10
    (ChangeSpec.witness6 (enc := enc) (C := Try.checked) false ⟨#[], #[.int .u64 0, .string ⟨#[]⟩], []⟩ 8 (by kernel_rfl) (by kernel_rfl) (by kernel_rfl) (by kernel_rfl)) ?_
  intro W base args ds gs before hval hW _ _
  exact contract H enc W base args ds gs before hval hW
theorem said : Rows.CodeLongSaid :=
  OpenClaim.holds_of_wide 10 Try.f10 rfl rfl rfl rfl rfl rfl rfl ⟨rfl, rfl, rfl, rfl, rfl⟩ rfl rfl rfl rfl rfl (by kernel_rfl) Try.func10 (by kernel_rfl)
    (of_decide_eq_true (by kernel_rfl)) (by unfold Func.isWrapper; first | (rw [if_pos (by decide +kernel)]; kernel_rfl) | (rw [if_neg (by decide +kernel)]; exact ⟨rfl, rfl⟩))
    (fun os started H enc _ => lifted os started H enc)
end LaCodeLong
end Go.Proofs.Ytblangepeofobaa
