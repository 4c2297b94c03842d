/- KeyBack of the landed program returns true for every key and every text. No other condition. -/
import Derived.Test.YtppdebhcaodcnaaDoorYp
import Derived.Test.YtppdebhcaodcnaaDoorFrK
namespace Go.Proofs.YtppdebhcaodcnaaDoor
open Go.ChangeShapes Go.WideShapes Go.ChangeAt Go.RowKit Cod
open Go.ChangeMaps (open_string shut_string)
namespace LaKeyBack
theorem parse_yes (T : ByteArray) (hs : T.size ≤ 1000000) (us : List V) (hg : Ky.Good us) (hb : Ky.body us = T.data.toList) (w : World) (hm : Ky.ML w) : Calls Tryd.prog 23 #[.string T] w fun e w' => ∃ ao cap, e = .returned (.tuple #[.slice ao us.length cap, .int .i64 0]) ∧ RowAt us (.slice ao us.length cap) w' ∧ Below w.heap.size w w' := by
  refine (Ky.parse_any T hs w hm).mono ?_
  rintro e w' (⟨vs, v, hg2, hb2, rfl, ho, hbl⟩ | ⟨hn, _⟩)
  · have e := Ky.body_inj hg2.both hg.both (hb2.trans hb.symm)
    subst e
    obtain ⟨ao, cap, rfl, _⟩ := RowAt.of_owns ho rfl
    exact ⟨ao, cap, rfl, RowAt.of_owns ho rfl, hbl⟩
  · exact absurd hb (hn _ hg)
theorem parse_no (T : ByteArray) (hs : T.size ≤ 1000000) (hn : ∀ us, Ky.Good us → Ky.body us ≠ T.data.toList) (w : World) (hm : Ky.ML w) : Calls Tryd.prog 23 #[.string T] w fun e w' => e = .returned (.tuple #[.slice none 0 0, .int .i64 7]) ∧ Below w.heap.size w w' := by
  refine (Ky.parse_any T hs w hm).mono ?_
  rintro e w' (⟨vs, v, hg2, hb2, rfl, ho, hbl⟩ | ⟨_, h1, h2⟩)
  · exact absurd hb2 (hn _ hg2)
  · exact ⟨h1, h2⟩
theorem of_good {us : List V} {sl : Value} (hg : Ky.Good us) {s : ByteArray} (hb : Ky.body us = s.data.toList) (w : World) (hr : RowAt us sl w) (hm : Ky.ML w) : Calls Tryd.prog 16 #[sl] w fun e w' => e = .returned (.string s) ∧ Below w.heap.size w w' := by
  have g := Ky.of_any us sl hg.2 (by have := hg.len; omega) w hr hm
  rw [Ky.ofB_good' hg, hb, S_of] at g
  exact g
set_option maxHeartbeats 4000000 in
set_option maxRecDepth 100000 in
theorem p0 (a : List V) (sa : Value) (s : ByteArray) (w : World) (hm : Ky.ML w) (ra : RowAt a sa w) (na : a.length ≤ 9223372036854775807) (l1 : Hid (Ky.lightB a = false)) : Calls Tryd.prog 7 #[sa, .string s] w fun e w' => e = .returned (.bool true) ∧ Below w.heap.size w w' := by
  have HM0 := Lib.hid hm
  have RA0 := Lib.hid ra
  have NA := Lib.hid na
  clear hm ra na
  go_enter Tryd.func7, Tryd.ntmps7
  go_wp2_with fail
  refine (Ky.light_is l1.out NA.out _ RA0.out).mono ?_
  rintro e w1 ⟨rfl, hb⟩
  have HM1 := Lib.hid (HM0.out.later hb)
  have RA1 := Lib.hid (RA0.out.later hb)
  have HB1 := Lib.hid hb
  clear hb HM0 RA0
  go_wp2_with fail
  refine (Ky.known_any _ HM1.out).mono ?_
  rintro e w2 ⟨rfl, hb⟩
  have HM2 := Lib.hid (HM1.out.later hb)
  have RA2 := Lib.hid (RA1.out.later hb)
  have HB2 := Lib.hid (HB1.out.trans (hb.mono HB1.out.size))
  clear hb HM1 RA1 HB1
  go_wp2_with fail
  go_ret
  exact ⟨rfl, HB2.out⟩
set_option maxHeartbeats 4000000 in
set_option maxRecDepth 100000 in
theorem p1 (a : List V) (sa : Value) (s : ByteArray) (w : World) (hm : Ky.ML w) (ra : RowAt a sa w) (na : a.length ≤ 9223372036854775807) (l1 : Hid (Ky.lightB a = true)) (f1 : (500 : Int) < s.size) : Calls Tryd.prog 7 #[sa, .string s] w fun e w' => e = .returned (.bool true) ∧ Below w.heap.size w w' := by
  have HM0 := Lib.hid hm
  have RA0 := Lib.hid ra
  have NA := Lib.hid na
  clear hm ra na
  go_enter Tryd.func7, Tryd.ntmps7
  go_wp2_with fail
  refine (Ky.light_is l1.out NA.out _ RA0.out).mono ?_
  rintro e w1 ⟨rfl, hb⟩
  have HM1 := Lib.hid (HM0.out.later hb)
  have RA1 := Lib.hid (RA0.out.later hb)
  have HB1 := Lib.hid hb
  clear hb HM0 RA0
  go_wp2_with fail
  refine (Ky.known_any _ HM1.out).mono ?_
  rintro e w2 ⟨rfl, hb⟩
  have HM2 := Lib.hid (HM1.out.later hb)
  have RA2 := Lib.hid (RA1.out.later hb)
  have HB2 := Lib.hid (HB1.out.trans (hb.mono HB1.out.size))
  clear hb HM1 RA1 HB1
  go_wp2_with fail
  go_ret
  exact ⟨rfl, HB2.out⟩
set_option maxHeartbeats 4000000 in
set_option maxRecDepth 100000 in
theorem m_11 (a : List V) (sa : Value) (s : ByteArray) (w : World) (hm : Ky.ML w) (ra : RowAt a sa w) (na : a.length ≤ 9223372036854775807) (ia : Hid (∀ x ∈ a, x.inn)) (l1 : Hid (Ky.lightB a = true)) (f1 : ¬ (500 : Int) < s.size) (T : ByteArray) (hT : Hid (T = S (Ky.ofB a))) (zT : T.size ≤ 1000000) (r1 : Hid (Ky.isK a = true)) (ga : Hid (Ky.Good a ∧ Ky.body a = T.data.toList)) (us : List V) (gu : Hid (Ky.Good us ∧ Ky.body us = s.data.toList)) : Calls Tryd.prog 7 #[sa, .string s] w fun e w' => e = .returned (.bool true) ∧ Below w.heap.size w w' := by
  have HM0 := Lib.hid hm
  have RA0 := Lib.hid ra
  have NA := Lib.hid na
  clear hm ra na
  have gs : (s.toList == s.toList) = true := by simp
  go_enter Tryd.func7, Tryd.ntmps7
  go_wp2_with fail
  refine (Ky.light_is l1.out NA.out _ RA0.out).mono ?_
  rintro e w1 ⟨rfl, hb⟩
  have HM1 := Lib.hid (HM0.out.later hb)
  have RA1 := Lib.hid (RA0.out.later hb)
  have HB1 := Lib.hid hb
  clear hb HM0 RA0
  go_wp2_with fail
  refine (Ky.of_is hT.out l1.out ia.out _ RA1.out HM1.out).mono ?_
  rintro e w2 ⟨rfl, hb⟩
  have HM2 := Lib.hid (HM1.out.later hb)
  have RA2 := Lib.hid (RA1.out.later hb)
  have HB2 := Lib.hid (HB1.out.trans (hb.mono HB1.out.size))
  clear hb HM1 RA1 HB1
  go_wp2_with fail
  refine (parse_yes T zT a ga.out.1 ga.out.2 _ HM2.out).mono ?_
  rintro e w3 ⟨bo, bcap, rfl, hrb, hb⟩
  have HM3 := Lib.hid (HM2.out.later hb)
  have RA3 := Lib.hid (RA2.out.later hb)
  have HB3 := Lib.hid (HB2.out.trans (hb.mono HB2.out.size))
  clear hb HM2 RA2 HB2
  have RB9 := Lib.hid hrb
  clear hrb
  go_wp2_with fail
  refine (parse_yes s (by omega) us gu.out.1 gu.out.2 _ HM3.out).mono ?_
  rintro e w4 ⟨co, ccap, rfl, hrc, hb⟩
  have HM4 := Lib.hid (HM3.out.later hb)
  have RA4 := Lib.hid (RA3.out.later hb)
  have RB4 := Lib.hid (RB9.out.later hb)
  have HB4 := Lib.hid (HB3.out.trans (hb.mono HB3.out.size))
  clear hb HM3 RA3 RB9 HB3
  have RC9 := Lib.hid hrc
  obtain ⟨N, hN⟩ : ∃ N, N = us.length := ⟨_, rfl⟩
  rw [← hN] at RC9 ⊢
  clear hrc hN
  go_wp2_with fail
  refine (Ky.right_is r1.out l1.out ia.out _ RA4.out).mono ?_
  rintro e w5 ⟨rfl, hb⟩
  have HM5 := Lib.hid (HM4.out.later hb)
  have RA5 := Lib.hid (RA4.out.later hb)
  have RB5 := Lib.hid (RB4.out.later hb)
  have RC5 := Lib.hid (RC9.out.later hb)
  have HB5 := Lib.hid (HB4.out.trans (hb.mono HB4.out.size))
  clear hb HM4 RA4 RB4 RC9 HB4
  go_wp2_with fail
  refine (Ky.rows_is (v := true) (decide_eq_true rfl) (by have := Ky.light_len l1.out; omega) (by have := Ky.light_len l1.out; omega) _ RA5.out RB5.out).mono ?_
  rintro e w6 ⟨rfl, hb⟩
  have HM6 := Lib.hid (HM5.out.later hb)
  have RA6 := Lib.hid (RA5.out.later hb)
  have RB6 := Lib.hid (RB5.out.later hb)
  have RC6 := Lib.hid (RC5.out.later hb)
  have HB6 := Lib.hid (HB5.out.trans (hb.mono HB5.out.size))
  clear hb HM5 RA5 RB5 RC5 HB5
  go_wp2_with fail
  refine (of_good gu.out.1 gu.out.2 _ RC6.out HM6.out).mono ?_
  rintro e w7 ⟨rfl, hb⟩
  have HM7 := Lib.hid (HM6.out.later hb)
  have RA7 := Lib.hid (RA6.out.later hb)
  have RB7 := Lib.hid (RB6.out.later hb)
  have RC7 := Lib.hid (RC6.out.later hb)
  have HB7 := Lib.hid (HB6.out.trans (hb.mono HB6.out.size))
  clear hb HM6 RA6 RB6 RC6 HB6
  go_wp2_with fail
  refine (Ky.known_any _ HM7.out).mono ?_
  rintro e w8 ⟨rfl, hb⟩
  have HM8 := Lib.hid (HM7.out.later hb)
  have RA8 := Lib.hid (RA7.out.later hb)
  have RB8 := Lib.hid (RB7.out.later hb)
  have RC8 := Lib.hid (RC7.out.later hb)
  have HB8 := Lib.hid (HB7.out.trans (hb.mono HB7.out.size))
  clear hb HM7 RA7 RB7 RC7 HB7
  go_wp2_with fail
  go_ret
  exact ⟨rfl, HB8.out⟩
set_option maxHeartbeats 4000000 in
set_option maxRecDepth 100000 in
theorem m_10 (a : List V) (sa : Value) (s : ByteArray) (w : World) (hm : Ky.ML w) (ra : RowAt a sa w) (na : a.length ≤ 9223372036854775807) (ia : Hid (∀ x ∈ a, x.inn)) (l1 : Hid (Ky.lightB a = true)) (f1 : ¬ (500 : Int) < s.size) (T : ByteArray) (hT : Hid (T = S (Ky.ofB a))) (zT : T.size ≤ 1000000) (r1 : Hid (Ky.isK a = true)) (ga : Hid (Ky.Good a ∧ Ky.body a = T.data.toList)) (qn : Hid (∀ us, Ky.Good us → Ky.body us ≠ s.data.toList)) : Calls Tryd.prog 7 #[sa, .string s] w fun e w' => e = .returned (.bool true) ∧ Below w.heap.size w w' := by
  have HM0 := Lib.hid hm
  have RA0 := Lib.hid ra
  have NA := Lib.hid na
  clear hm ra na
  go_enter Tryd.func7, Tryd.ntmps7
  go_wp2_with fail
  refine (Ky.light_is l1.out NA.out _ RA0.out).mono ?_
  rintro e w1 ⟨rfl, hb⟩
  have HM1 := Lib.hid (HM0.out.later hb)
  have RA1 := Lib.hid (RA0.out.later hb)
  have HB1 := Lib.hid hb
  clear hb HM0 RA0
  go_wp2_with fail
  refine (Ky.of_is hT.out l1.out ia.out _ RA1.out HM1.out).mono ?_
  rintro e w2 ⟨rfl, hb⟩
  have HM2 := Lib.hid (HM1.out.later hb)
  have RA2 := Lib.hid (RA1.out.later hb)
  have HB2 := Lib.hid (HB1.out.trans (hb.mono HB1.out.size))
  clear hb HM1 RA1 HB1
  go_wp2_with fail
  refine (parse_yes T zT a ga.out.1 ga.out.2 _ HM2.out).mono ?_
  rintro e w3 ⟨bo, bcap, rfl, hrb, hb⟩
  have HM3 := Lib.hid (HM2.out.later hb)
  have RA3 := Lib.hid (RA2.out.later hb)
  have HB3 := Lib.hid (HB2.out.trans (hb.mono HB2.out.size))
  clear hb HM2 RA2 HB2
  have RB9 := Lib.hid hrb
  clear hrb
  go_wp2_with fail
  refine (parse_no s (by omega) qn.out _ HM3.out).mono ?_
  rintro e w4 ⟨rfl, hb⟩
  have HM4 := Lib.hid (HM3.out.later hb)
  have RA4 := Lib.hid (RA3.out.later hb)
  have RB4 := Lib.hid (RB9.out.later hb)
  have HB4 := Lib.hid (HB3.out.trans (hb.mono HB3.out.size))
  clear hb HM3 RA3 RB9 HB3
  go_wp2_with fail
  refine (Ky.right_is r1.out l1.out ia.out _ RA4.out).mono ?_
  rintro e w5 ⟨rfl, hb⟩
  have HM5 := Lib.hid (HM4.out.later hb)
  have RA5 := Lib.hid (RA4.out.later hb)
  have RB5 := Lib.hid (RB4.out.later hb)
  have HB5 := Lib.hid (HB4.out.trans (hb.mono HB4.out.size))
  clear hb HM4 RA4 RB4 HB4
  go_wp2_with fail
  refine (Ky.rows_is (v := true) (decide_eq_true rfl) (by have := Ky.light_len l1.out; omega) (by have := Ky.light_len l1.out; omega) _ RA5.out RB5.out).mono ?_
  rintro e w6 ⟨rfl, hb⟩
  have HM6 := Lib.hid (HM5.out.later hb)
  have RA6 := Lib.hid (RA5.out.later hb)
  have RB6 := Lib.hid (RB5.out.later hb)
  have HB6 := Lib.hid (HB5.out.trans (hb.mono HB5.out.size))
  clear hb HM5 RA5 RB5 HB5
  go_wp2_with fail
  refine (Ky.known_any _ HM6.out).mono ?_
  rintro e w7 ⟨rfl, hb⟩
  have HM7 := Lib.hid (HM6.out.later hb)
  have RA7 := Lib.hid (RA6.out.later hb)
  have RB7 := Lib.hid (RB6.out.later hb)
  have HB7 := Lib.hid (HB6.out.trans (hb.mono HB6.out.size))
  clear hb HM6 RA6 RB6 HB6
  go_wp2_with fail
  go_ret
  exact ⟨rfl, HB7.out⟩
set_option maxHeartbeats 4000000 in
set_option maxRecDepth 100000 in
theorem m_01 (a : List V) (sa : Value) (s : ByteArray) (w : World) (hm : Ky.ML w) (ra : RowAt a sa w) (na : a.length ≤ 9223372036854775807) (ia : Hid (∀ x ∈ a, x.inn)) (l1 : Hid (Ky.lightB a = true)) (f1 : ¬ (500 : Int) < s.size) (T : ByteArray) (hT : Hid (T = S (Ky.ofB a))) (zT : T.size ≤ 1000000) (r1 : Hid (Ky.isK a = false)) (gn : Hid (∀ us, Ky.Good us → Ky.body us ≠ T.data.toList)) (us : List V) (gu : Hid (Ky.Good us ∧ Ky.body us = s.data.toList)) : Calls Tryd.prog 7 #[sa, .string s] w fun e w' => e = .returned (.bool true) ∧ Below w.heap.size w w' := by
  have HM0 := Lib.hid hm
  have RA0 := Lib.hid ra
  have NA := Lib.hid na
  clear hm ra na
  have gs : (s.toList == s.toList) = true := by simp
  go_enter Tryd.func7, Tryd.ntmps7
  go_wp2_with fail
  refine (Ky.light_is l1.out NA.out _ RA0.out).mono ?_
  rintro e w1 ⟨rfl, hb⟩
  have HM1 := Lib.hid (HM0.out.later hb)
  have RA1 := Lib.hid (RA0.out.later hb)
  have HB1 := Lib.hid hb
  clear hb HM0 RA0
  go_wp2_with fail
  refine (Ky.of_is hT.out l1.out ia.out _ RA1.out HM1.out).mono ?_
  rintro e w2 ⟨rfl, hb⟩
  have HM2 := Lib.hid (HM1.out.later hb)
  have RA2 := Lib.hid (RA1.out.later hb)
  have HB2 := Lib.hid (HB1.out.trans (hb.mono HB1.out.size))
  clear hb HM1 RA1 HB1
  go_wp2_with fail
  refine (parse_no T zT gn.out _ HM2.out).mono ?_
  rintro e w3 ⟨rfl, hb⟩
  have HM3 := Lib.hid (HM2.out.later hb)
  have RA3 := Lib.hid (RA2.out.later hb)
  have HB3 := Lib.hid (HB2.out.trans (hb.mono HB2.out.size))
  clear hb HM2 RA2 HB2
  go_wp2_with fail
  refine (parse_yes s (by omega) us gu.out.1 gu.out.2 _ HM3.out).mono ?_
  rintro e w4 ⟨co, ccap, rfl, hrc, hb⟩
  have HM4 := Lib.hid (HM3.out.later hb)
  have RA4 := Lib.hid (RA3.out.later hb)
  have HB4 := Lib.hid (HB3.out.trans (hb.mono HB3.out.size))
  clear hb HM3 RA3 HB3
  have RC9 := Lib.hid hrc
  obtain ⟨N, hN⟩ : ∃ N, N = us.length := ⟨_, rfl⟩
  rw [← hN] at RC9 ⊢
  clear hrc hN
  go_wp2_with fail
  refine (Ky.right_is r1.out l1.out ia.out _ RA4.out).mono ?_
  rintro e w5 ⟨rfl, hb⟩
  have HM5 := Lib.hid (HM4.out.later hb)
  have RA5 := Lib.hid (RA4.out.later hb)
  have RC5 := Lib.hid (RC9.out.later hb)
  have HB5 := Lib.hid (HB4.out.trans (hb.mono HB4.out.size))
  clear hb HM4 RA4 RC9 HB4
  go_wp2_with fail
  refine (of_good gu.out.1 gu.out.2 _ RC5.out HM5.out).mono ?_
  rintro e w6 ⟨rfl, hb⟩
  have HM6 := Lib.hid (HM5.out.later hb)
  have RA6 := Lib.hid (RA5.out.later hb)
  have RC6 := Lib.hid (RC5.out.later hb)
  have HB6 := Lib.hid (HB5.out.trans (hb.mono HB5.out.size))
  clear hb HM5 RA5 RC5 HB5
  go_wp2_with fail
  refine (Ky.known_any _ HM6.out).mono ?_
  rintro e w7 ⟨rfl, hb⟩
  have HM7 := Lib.hid (HM6.out.later hb)
  have RA7 := Lib.hid (RA6.out.later hb)
  have RC7 := Lib.hid (RC6.out.later hb)
  have HB7 := Lib.hid (HB6.out.trans (hb.mono HB6.out.size))
  clear hb HM6 RA6 RC6 HB6
  go_wp2_with fail
  go_ret
  exact ⟨rfl, HB7.out⟩
set_option maxHeartbeats 4000000 in
set_option maxRecDepth 100000 in
theorem m_00 (a : List V) (sa : Value) (s : ByteArray) (w : World) (hm : Ky.ML w) (ra : RowAt a sa w) (na : a.length ≤ 9223372036854775807) (ia : Hid (∀ x ∈ a, x.inn)) (l1 : Hid (Ky.lightB a = true)) (f1 : ¬ (500 : Int) < s.size) (T : ByteArray) (hT : Hid (T = S (Ky.ofB a))) (zT : T.size ≤ 1000000) (r1 : Hid (Ky.isK a = false)) (gn : Hid (∀ us, Ky.Good us → Ky.body us ≠ T.data.toList)) (qn : Hid (∀ us, Ky.Good us → Ky.body us ≠ s.data.toList)) : Calls Tryd.prog 7 #[sa, .string s] w fun e w' => e = .returned (.bool true) ∧ Below w.heap.size w w' := by
  have HM0 := Lib.hid hm
  have RA0 := Lib.hid ra
  have NA := Lib.hid na
  clear hm ra na
  go_enter Tryd.func7, Tryd.ntmps7
  go_wp2_with fail
  refine (Ky.light_is l1.out NA.out _ RA0.out).mono ?_
  rintro e w1 ⟨rfl, hb⟩
  have HM1 := Lib.hid (HM0.out.later hb)
  have RA1 := Lib.hid (RA0.out.later hb)
  have HB1 := Lib.hid hb
  clear hb HM0 RA0
  go_wp2_with fail
  refine (Ky.of_is hT.out l1.out ia.out _ RA1.out HM1.out).mono ?_
  rintro e w2 ⟨rfl, hb⟩
  have HM2 := Lib.hid (HM1.out.later hb)
  have RA2 := Lib.hid (RA1.out.later hb)
  have HB2 := Lib.hid (HB1.out.trans (hb.mono HB1.out.size))
  clear hb HM1 RA1 HB1
  go_wp2_with fail
  refine (parse_no T zT gn.out _ HM2.out).mono ?_
  rintro e w3 ⟨rfl, hb⟩
  have HM3 := Lib.hid (HM2.out.later hb)
  have RA3 := Lib.hid (RA2.out.later hb)
  have HB3 := Lib.hid (HB2.out.trans (hb.mono HB2.out.size))
  clear hb HM2 RA2 HB2
  go_wp2_with fail
  refine (parse_no s (by omega) qn.out _ HM3.out).mono ?_
  rintro e w4 ⟨rfl, hb⟩
  have HM4 := Lib.hid (HM3.out.later hb)
  have RA4 := Lib.hid (RA3.out.later hb)
  have HB4 := Lib.hid (HB3.out.trans (hb.mono HB3.out.size))
  clear hb HM3 RA3 HB3
  go_wp2_with fail
  refine (Ky.right_is r1.out l1.out ia.out _ RA4.out).mono ?_
  rintro e w5 ⟨rfl, hb⟩
  have HM5 := Lib.hid (HM4.out.later hb)
  have RA5 := Lib.hid (RA4.out.later hb)
  have HB5 := Lib.hid (HB4.out.trans (hb.mono HB4.out.size))
  clear hb HM4 RA4 HB4
  go_wp2_with fail
  refine (Ky.known_any _ HM5.out).mono ?_
  rintro e w6 ⟨rfl, hb⟩
  have HM6 := Lib.hid (HM5.out.later hb)
  have RA6 := Lib.hid (RA5.out.later hb)
  have HB6 := Lib.hid (HB5.out.trans (hb.mono HB5.out.size))
  clear hb HM5 RA5 HB5
  go_wp2_with fail
  go_ret
  exact ⟨rfl, HB6.out⟩
theorem law_any (a : List V) (sa : Value) (s : ByteArray) (w : World) (hm : Ky.ML w) (ra : RowAt a sa w) (na : a.length ≤ 9223372036854775807) (ia : ∀ x ∈ a, x.inn) : Calls Tryd.prog 7 #[sa, .string s] w fun e w' => e = .returned (.bool true) ∧ Below w.heap.size w w' := by
  rcases l1 : Ky.lightB a with _ | _
  · exact p0 a sa s w hm ra na (Lib.hid l1)
  by_cases f1 : (500 : Int) < s.size
  · exact p1 a sa s w hm ra na (Lib.hid l1) f1
  have hTd : (S (Ky.ofB a)).data.toList = Ky.ofB a := rfl
  rcases r1 : Ky.isK a with _ | _
  · have ea : Ky.ofB a = [] := by unfold Ky.ofB; rw [if_neg (by simp [r1])]
    have gn : ∀ us, Ky.Good us → Ky.body us ≠ (S (Ky.ofB a)).data.toList := by
      intro us _ e
      rw [hTd, ea] at e
      have := Ky.body_pos us
      rw [e] at this; simp at this
    have zT : (S (Ky.ofB a)).size ≤ 1000000 := by rw [S_size, ea]; simp
    rcases Classical.em (∃ us, Ky.Good us ∧ Ky.body us = s.data.toList) with ⟨us, h⟩ | h
    · exact m_01 a sa s w hm ra na (Lib.hid ia) (Lib.hid l1) f1 _ (Lib.hid rfl) zT (Lib.hid r1) (Lib.hid gn) us (Lib.hid h)
    · exact m_00 a sa s w hm ra na (Lib.hid ia) (Lib.hid l1) f1 _ (Lib.hid rfl) zT (Lib.hid r1) (Lib.hid gn) (Lib.hid (fun us h1 h2 => h ⟨us, h1, h2⟩))
  · have gd : Ky.Good a := ⟨r1, ia⟩
    have ga : Ky.Good a ∧ Ky.body a = (S (Ky.ofB a)).data.toList := ⟨gd, by rw [hTd, Ky.ofB_good' gd]⟩
    have zT : (S (Ky.ofB a)).size ≤ 1000000 := by rw [S_size, Ky.ofB_good' gd]; have := Ky.body_size gd; omega
    rcases Classical.em (∃ us, Ky.Good us ∧ Ky.body us = s.data.toList) with ⟨us, h⟩ | h
    · exact m_11 a sa s w hm ra na (Lib.hid ia) (Lib.hid l1) f1 _ (Lib.hid rfl) zT (Lib.hid r1) (Lib.hid ga) us (Lib.hid h)
    · exact m_10 a sa s w hm ra na (Lib.hid ia) (Lib.hid l1) f1 _ (Lib.hid rfl) zT (Lib.hid r1) (Lib.hid ga) (Lib.hid (fun us h1 h2 => h ⟨us, h1, h2⟩))
theorem laidOut : laidOutB Tryd.prog = true := by kernel_rfl
set_option maxRecDepth 100000 in
theorem contract (H : Type) (enc : TypeId × Value → H) (W : World) (base : Nat) (args : Array Value) (ds gs : List (DataW H)) (before : List MemPlace)
    (hval : ∀ (j : Nat) t v, Tryd.f7.params[j]? = some t → args[j]? = some v → Value.okWide Tryd.prog W .any base t v)
    (hW : DataW.Whole enc Tryd.prog Tryd.f7.params.toList Rows.keyBackSpec.vars false W args.toList ds gs before) (hml : Ky.ML W) :
    Calls Tryd.prog 7 args W fun e W' => ∃ v, e = .returned v ∧ Rows.keyBackSpec.post enc Tryd.prog Tryd.f7 false true false false W args v W' := by
  have hW' := hW
  obtain ⟨p, q, hA0, hV, rfl, hfz, hnd⟩ := hW
  have hA : DataW.TrodAll enc Tryd.prog W 0 (fun _ => true) true Tryd.f7.params.toList args.toList ds p := hA0
  rw [Tryd.params7] at hA hval
  obtain ⟨v0, vs0, d0, ds0, p0, q0, hargs, rfl, rfl, h0, r0⟩ := trodAll_cons hA
  obtain ⟨v1, vs1, d1, ds1, p1, q1, rfl, rfl, rfl, h1, r1⟩ := trodAll_cons r0
  obtain ⟨rfl, rfl, rfl⟩ := trodAll_nil r1
  obtain rfl : args = #[v0, v1] := by cases args; simp_all
  obtain ⟨rfl, rfl⟩ := trodVars_none hV
  obtain ⟨a, hrowa, hina, hla, hca⟩ := Cod.open_vals2 (hval 0 30 v0 rfl rfl) h0
  obtain ⟨s, rfl, rfl, rfl, ws⟩ := open_string Tryd.underlying9 (hval 1 9 v1 rfl rfl) h1
  clear hA0
  simp only [List.append_nil] at hW'
  have hlt0 : ∀ x ∈ p0, x.block < W.heap.size := fun x hx => hW'.lt x (by simp [hx])
  have walk := law_any a v0 s W hml hrowa hla hina
  refine walk.mono fun e W' ⟨he, hg⟩ => ?_
  subst he
  refine ⟨_, rfl, Fr.post_made (pa := p0) (pv := []) hW' (fun _ _ _ => trodAll_cons_mk (shut_bool Tryd.underlying4 _) trodAll_mk0) (fun sp hsp => ?_) (fun _ _ => rfl) (by simp) hg (ok_one (by kernel_rfl) rfl (okWide_bool_mk Tryd.underlying4 _))⟩
  have g0 : DataW.Trod enc Tryd.prog W' 0 sp true 30 v0 d0 p0 := WideElems.Trod_stays laidOut (by kernel_rfl) (of_decide_eq_true (by kernel_rfl)) h0 (fun x hx => hg.same (hlt0 x hx)) (fun x hx => hsp x (by simp [hx]))
  have hT : DataW.TrodAll enc Tryd.prog W' 0 sp true _ _ _ _ := trodAll_cons_mk g0 (trodAll_cons_mk (shut_string Tryd.underlying9 ws) trodAll_mk0)
  simp only [List.append_nil] at hT ⊢
  exact hT
set_option maxRecDepth 100000 in
theorem reads (os : Os) {H : Type} (enc : TypeId × Value → H) : ∃ places, DataW.whole enc Tryd.prog ((World.laidAll Tryd.prog os Rows.keyBackRow.laid).forCall (fun _ _ => 0) ⟨#[], #[.slice none 0 0, .string ⟨#[]⟩], []⟩).memory Tryd.f7.params.toList Rows.keyBackSpec.vars false (#[.slice none 0 0, .string ⟨#[]⟩] : Array Value).toList 8 = some ([.nil, .lit (.string [])], [], places) :=
  ⟨[], by kernel_rfl⟩
set_option maxRecDepth 100000 in
theorem lifted (os : Os) (started : os.Started) (H : Type) (enc : TypeId × Value → H) (F : Stop.Interp) :
    ReturnsInHanded {} Tryd.checked os 7 .any ((OpenSpec.ofChange Rows.keyBackSpec).preRow enc Tryd.prog Tryd.f7 Rows.keyBackRow.domain false Rows.keyBackRow.laid) (((OpenSpec.ofChange Rows.keyBackSpec).at F).post enc Tryd.prog Tryd.f7 false true false false) := by
  obtain ⟨places, hx⟩ := reads os enc
  refine returnsInHanded_of_row (C := Tryd.checked) (s := OpenSpec.ofChange Rows.keyBackSpec) Fr.own started (by kernel_rfl) Tryd.func7
    (Fr.wit (World.laidAll Tryd.prog os Rows.keyBackRow.laid) #[.slice none 0 0, .string ⟨#[]⟩] (World.laidAll_os _ _ _) (World.shaped_of_ZipB (by kernel_rfl) (by kernel_rfl)) (by kernel_rfl)
      (OpenSpec.preRow_of_cond 8 hx (by kernel_rfl) (fun k hk => by cases hk) (by kernel_rfl) (laidMet_laidAll _ (by kernel_rfl) (by kernel_rfl)))) ?_
  intro W base args ds gs before hval hW _ _ _ _ hsh _
  exact contract H enc W base args ds gs before hval hW (Tryd.laysM143.s1_3 W hsh)
set_option maxRecDepth 100000 in
theorem said : Rows.KeyBackSaid :=
  OpenClaim.holds_of_cond 7 Tryd.f7 rfl rfl rfl rfl rfl rfl rfl ⟨rfl, rfl, rfl, rfl, rfl⟩ rfl rfl rfl rfl rfl (by kernel_rfl) Tryd.func7 (by kernel_rfl)
    (of_decide_eq_true (by kernel_rfl)) (by unfold Func.isWrapper; first | (rw [if_pos (by decide +kernel)]; kernel_rfl) | (rw [if_neg (by decide +kernel)]; exact ⟨rfl, rfl⟩))
    (fun os started H enc _ F => by rw [OpenClaim.pre_eq_preRow]; exact lifted os started H enc F)
set_option maxRecDepth 100000 in
theorem plain (f : FuncId) (fn : Func) (hf : Tryd.pinned.checked.prog.funcNamed "memoir/memoirlaw04.KeyBack" = some f) (hfn : Tryd.pinned.checked.prog.funcs[f]? = some fn) :
    true = Tryd.pinned.checked.prog.looks [] ∧ ∀ (j : Nat) t, fn.params[j]? = some t → Tryd.pinned.checked.prog.wantsStandIn t = false := by
  obtain rfl : f = 7 := Option.some.inj ((show Tryd.prog.funcNamed "memoir/memoirlaw04.KeyBack" = some 7 by kernel_rfl).symm.trans hf) |>.symm
  obtain rfl : fn = Tryd.f7 := (Option.some.inj (Tryd.func7.symm.trans hfn)).symm
  refine ⟨by kernel_rfl, fun j t ht => ?_⟩
  rw [Tryd.params7] at ht
  have hm := Array.mem_of_getElem? ht
  simp only [List.mem_toArray, List.mem_cons, List.not_mem_nil, or_false] at hm
  rcases hm with rfl | rfl
  all_goals first | exact (show Tryd.prog.wantsStandIn 9 = false by kernel_rfl) | exact (show Tryd.prog.wantsStandIn 30 = false by kernel_rfl)
set_option maxRecDepth 100000 in
theorem card : Rows.KeyBackCardSaid :=
  Claim7.holds_tied_plain_at .later [] _ _ _ _ said (fun _ h => by cases h) (by kernel_rfl) (fun _ h => by cases h) keyBack_row_tie rfl ⟨rfl, rfl⟩ (by kernel_rfl) rfl plain (by kernel_rfl)
end LaKeyBack
end Go.Proofs.YtppdebhcaodcnaaDoor
