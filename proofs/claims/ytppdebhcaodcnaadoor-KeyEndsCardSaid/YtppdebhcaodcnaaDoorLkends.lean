/- KeyEnds of the landed program returns true for every two keys. No other condition. -/
import Derived.Test.YtppdebhcaodcnaaDoorYp
import Derived.Test.YtppdebhcaodcnaaDoorFrK
namespace Go.Proofs.YtppdebhcaodcnaaDoor
open Go.ChangeShapes Go.WideShapes Go.ChangeAt Go.RowKit Cod
open Go.ChangeMaps (open_string shut_string)
namespace LaKeyEnds
set_option maxHeartbeats 4000000 in
set_option maxRecDepth 100000 in
theorem p0 (a b : List V) (sa sb : Value) (w : World) (hm : Ky.ML w) (ra : RowAt a sa w) (rb : RowAt b sb w) (na : a.length ≤ 9223372036854775807) (_nb : b.length ≤ 9223372036854775807) (_ia : Hid (∀ x ∈ a, x.inn)) (_ib : Hid (∀ x ∈ b, x.inn)) (l1 : Hid (Ky.lightB a = false)) : Calls Tryd.prog 10 #[sa, sb] w fun e w' => e = .returned (.bool true) ∧ Below w.heap.size w w' := by
  have HM0 := Lib.hid hm
  have RA0 := Lib.hid ra
  have RB0 := Lib.hid rb
  have NA := Lib.hid na
  clear hm ra rb na
  go_enter Tryd.func10, Tryd.ntmps10
  go_wp2_with fail
  refine (Ky.light_is l1.out NA.out _ RA0.out).mono ?_
  rintro e w1 ⟨rfl, hb⟩
  have HM1 := Lib.hid (HM0.out.later hb)
  have RA1 := Lib.hid (RA0.out.later hb)
  have RB1 := Lib.hid (RB0.out.later hb)
  have HB1 := Lib.hid hb
  clear hb HM0 RA0 RB0
  go_wp2_with fail
  refine (Ky.known_any _ HM1.out).mono ?_
  rintro e w2 ⟨rfl, hb⟩
  have HM2 := Lib.hid (HM1.out.later hb)
  have RA2 := Lib.hid (RA1.out.later hb)
  have RB2 := Lib.hid (RB1.out.later hb)
  have HB2 := Lib.hid (HB1.out.trans (hb.mono HB1.out.size))
  clear hb HM1 RA1 RB1 HB1
  go_wp2_with fail
  go_ret
  exact ⟨rfl, HB2.out⟩
set_option maxHeartbeats 4000000 in
set_option maxRecDepth 100000 in
theorem p1 (a b : List V) (sa sb : Value) (w : World) (hm : Ky.ML w) (ra : RowAt a sa w) (rb : RowAt b sb w) (na : a.length ≤ 9223372036854775807) (nb : b.length ≤ 9223372036854775807) (_ia : Hid (∀ x ∈ a, x.inn)) (_ib : Hid (∀ x ∈ b, x.inn)) (l1 : Hid (Ky.lightB a = true)) (l2 : Hid (Ky.lightB b = false)) : Calls Tryd.prog 10 #[sa, sb] w fun e w' => e = .returned (.bool true) ∧ Below w.heap.size w w' := by
  have HM0 := Lib.hid hm
  have RA0 := Lib.hid ra
  have RB0 := Lib.hid rb
  have NA := Lib.hid na
  have NB := Lib.hid nb
  clear hm ra rb na nb
  go_enter Tryd.func10, Tryd.ntmps10
  go_wp2_with fail
  refine (Ky.light_is l1.out NA.out _ RA0.out).mono ?_
  rintro e w1 ⟨rfl, hb⟩
  have HM1 := Lib.hid (HM0.out.later hb)
  have RA1 := Lib.hid (RA0.out.later hb)
  have RB1 := Lib.hid (RB0.out.later hb)
  have HB1 := Lib.hid hb
  clear hb HM0 RA0 RB0
  go_wp2_with fail
  refine (Ky.light_is l2.out NB.out _ RB1.out).mono ?_
  rintro e w2 ⟨rfl, hb⟩
  have HM2 := Lib.hid (HM1.out.later hb)
  have RA2 := Lib.hid (RA1.out.later hb)
  have RB2 := Lib.hid (RB1.out.later hb)
  have HB2 := Lib.hid (HB1.out.trans (hb.mono HB1.out.size))
  clear hb HM1 RA1 RB1 HB1
  go_wp2_with fail
  refine (Ky.known_any _ HM2.out).mono ?_
  rintro e w3 ⟨rfl, hb⟩
  have HM3 := Lib.hid (HM2.out.later hb)
  have RA3 := Lib.hid (RA2.out.later hb)
  have RB3 := Lib.hid (RB2.out.later hb)
  have HB3 := Lib.hid (HB2.out.trans (hb.mono HB2.out.size))
  clear hb HM2 RA2 RB2 HB2
  go_wp2_with fail
  go_ret
  exact ⟨rfl, HB3.out⟩
set_option maxHeartbeats 4000000 in
set_option maxRecDepth 100000 in
theorem p2 (a b : List V) (sa sb : Value) (w : World) (hm : Ky.ML w) (ra : RowAt a sa w) (rb : RowAt b sb w) (na : a.length ≤ 9223372036854775807) (nb : b.length ≤ 9223372036854775807) (ia : Hid (∀ x ∈ a, x.inn)) (_ib : Hid (∀ x ∈ b, x.inn)) (l1 : Hid (Ky.lightB a = true)) (l2 : Hid (Ky.lightB b = true)) (r1 : Hid (Ky.isK a = false)) : Calls Tryd.prog 10 #[sa, sb] w fun e w' => e = .returned (.bool true) ∧ Below w.heap.size w w' := by
  have HM0 := Lib.hid hm
  have RA0 := Lib.hid ra
  have RB0 := Lib.hid rb
  have NA := Lib.hid na
  have NB := Lib.hid nb
  clear hm ra rb na nb
  go_enter Tryd.func10, Tryd.ntmps10
  go_wp2_with fail
  refine (Ky.light_is l1.out NA.out _ RA0.out).mono ?_
  rintro e w1 ⟨rfl, hb⟩
  have HM1 := Lib.hid (HM0.out.later hb)
  have RA1 := Lib.hid (RA0.out.later hb)
  have RB1 := Lib.hid (RB0.out.later hb)
  have HB1 := Lib.hid hb
  clear hb HM0 RA0 RB0
  go_wp2_with fail
  refine (Ky.light_is l2.out NB.out _ RB1.out).mono ?_
  rintro e w2 ⟨rfl, hb⟩
  have HM2 := Lib.hid (HM1.out.later hb)
  have RA2 := Lib.hid (RA1.out.later hb)
  have RB2 := Lib.hid (RB1.out.later hb)
  have HB2 := Lib.hid (HB1.out.trans (hb.mono HB1.out.size))
  clear hb HM1 RA1 RB1 HB1
  go_wp2_with fail
  refine (Ky.right_is r1.out l1.out ia.out _ RA2.out).mono ?_
  rintro e w3 ⟨rfl, hb⟩
  have HM3 := Lib.hid (HM2.out.later hb)
  have RA3 := Lib.hid (RA2.out.later hb)
  have RB3 := Lib.hid (RB2.out.later hb)
  have HB3 := Lib.hid (HB2.out.trans (hb.mono HB2.out.size))
  clear hb HM2 RA2 RB2 HB2
  go_wp2_with fail
  refine (Ky.known_any _ HM3.out).mono ?_
  rintro e w4 ⟨rfl, hb⟩
  have HM4 := Lib.hid (HM3.out.later hb)
  have RA4 := Lib.hid (RA3.out.later hb)
  have RB4 := Lib.hid (RB3.out.later hb)
  have HB4 := Lib.hid (HB3.out.trans (hb.mono HB3.out.size))
  clear hb HM3 RA3 RB3 HB3
  go_wp2_with fail
  go_ret
  exact ⟨rfl, HB4.out⟩
set_option maxHeartbeats 4000000 in
set_option maxRecDepth 100000 in
theorem p3 (a b : List V) (sa sb : Value) (w : World) (hm : Ky.ML w) (ra : RowAt a sa w) (rb : RowAt b sb w) (na : a.length ≤ 9223372036854775807) (nb : b.length ≤ 9223372036854775807) (ia : Hid (∀ x ∈ a, x.inn)) (ib : Hid (∀ x ∈ b, x.inn)) (l1 : Hid (Ky.lightB a = true)) (l2 : Hid (Ky.lightB b = true)) (r1 : Hid (Ky.isK a = true)) (r2 : Hid (Ky.isK b = false)) : Calls Tryd.prog 10 #[sa, sb] w fun e w' => e = .returned (.bool true) ∧ Below w.heap.size w w' := by
  have HM0 := Lib.hid hm
  have RA0 := Lib.hid ra
  have RB0 := Lib.hid rb
  have NA := Lib.hid na
  have NB := Lib.hid nb
  clear hm ra rb na nb
  go_enter Tryd.func10, Tryd.ntmps10
  go_wp2_with fail
  refine (Ky.light_is l1.out NA.out _ RA0.out).mono ?_
  rintro e w1 ⟨rfl, hb⟩
  have HM1 := Lib.hid (HM0.out.later hb)
  have RA1 := Lib.hid (RA0.out.later hb)
  have RB1 := Lib.hid (RB0.out.later hb)
  have HB1 := Lib.hid hb
  clear hb HM0 RA0 RB0
  go_wp2_with fail
  refine (Ky.light_is l2.out NB.out _ RB1.out).mono ?_
  rintro e w2 ⟨rfl, hb⟩
  have HM2 := Lib.hid (HM1.out.later hb)
  have RA2 := Lib.hid (RA1.out.later hb)
  have RB2 := Lib.hid (RB1.out.later hb)
  have HB2 := Lib.hid (HB1.out.trans (hb.mono HB1.out.size))
  clear hb HM1 RA1 RB1 HB1
  go_wp2_with fail
  refine (Ky.right_is r1.out l1.out ia.out _ RA2.out).mono ?_
  rintro e w3 ⟨rfl, hb⟩
  have HM3 := Lib.hid (HM2.out.later hb)
  have RA3 := Lib.hid (RA2.out.later hb)
  have RB3 := Lib.hid (RB2.out.later hb)
  have HB3 := Lib.hid (HB2.out.trans (hb.mono HB2.out.size))
  clear hb HM2 RA2 RB2 HB2
  go_wp2_with fail
  refine (Ky.right_is r2.out l2.out ib.out _ RB3.out).mono ?_
  rintro e w4 ⟨rfl, hb⟩
  have HM4 := Lib.hid (HM3.out.later hb)
  have RA4 := Lib.hid (RA3.out.later hb)
  have RB4 := Lib.hid (RB3.out.later hb)
  have HB4 := Lib.hid (HB3.out.trans (hb.mono HB3.out.size))
  clear hb HM3 RA3 RB3 HB3
  go_wp2_with fail
  refine (Ky.known_any _ HM4.out).mono ?_
  rintro e w5 ⟨rfl, hb⟩
  have HM5 := Lib.hid (HM4.out.later hb)
  have RA5 := Lib.hid (RA4.out.later hb)
  have RB5 := Lib.hid (RB4.out.later hb)
  have HB5 := Lib.hid (HB4.out.trans (hb.mono HB4.out.size))
  clear hb HM4 RA4 RB4 HB4
  go_wp2_with fail
  go_ret
  exact ⟨rfl, HB5.out⟩
set_option maxHeartbeats 4000000 in
set_option maxRecDepth 100000 in
theorem e1 (a b : List V) (sa sb : Value) (w : World) (hm : Ky.ML w) (ra : RowAt a sa w) (rb : RowAt b sb w) (na : a.length ≤ 9223372036854775807) (nb : b.length ≤ 9223372036854775807) (ia : Hid (∀ x ∈ a, x.inn)) (ib : Hid (∀ x ∈ b, x.inn)) (l1 : Hid (Ky.lightB a = true)) (l2 : Hid (Ky.lightB b = true)) (r1 : Hid (Ky.isK a = true)) (r2 : Hid (Ky.isK b = true)) (T U : ByteArray) (hT : Hid (T = S (Ky.ofB a))) (hU : Hid (U = S (Ky.ofB b))) (f1 : (U.size : Int) < T.size) (f2 : (1 : Int) ≤ T.size) : Calls Tryd.prog 10 #[sa, sb] w fun e w' => e = .returned (.bool true) ∧ Below w.heap.size w w' := by
  have HM0 := Lib.hid hm
  have RA0 := Lib.hid ra
  have RB0 := Lib.hid rb
  have NA := Lib.hid na
  have NB := Lib.hid nb
  clear hm ra rb na nb
  go_enter Tryd.func10, Tryd.ntmps10
  go_wp2_with fail
  refine (Ky.light_is l1.out NA.out _ RA0.out).mono ?_
  rintro e w1 ⟨rfl, hb⟩
  have HM1 := Lib.hid (HM0.out.later hb)
  have RA1 := Lib.hid (RA0.out.later hb)
  have RB1 := Lib.hid (RB0.out.later hb)
  have HB1 := Lib.hid hb
  clear hb HM0 RA0 RB0
  go_wp2_with fail
  refine (Ky.light_is l2.out NB.out _ RB1.out).mono ?_
  rintro e w2 ⟨rfl, hb⟩
  have HM2 := Lib.hid (HM1.out.later hb)
  have RA2 := Lib.hid (RA1.out.later hb)
  have RB2 := Lib.hid (RB1.out.later hb)
  have HB2 := Lib.hid (HB1.out.trans (hb.mono HB1.out.size))
  clear hb HM1 RA1 RB1 HB1
  go_wp2_with fail
  refine (Ky.right_is r1.out l1.out ia.out _ RA2.out).mono ?_
  rintro e w3 ⟨rfl, hb⟩
  have HM3 := Lib.hid (HM2.out.later hb)
  have RA3 := Lib.hid (RA2.out.later hb)
  have RB3 := Lib.hid (RB2.out.later hb)
  have HB3 := Lib.hid (HB2.out.trans (hb.mono HB2.out.size))
  clear hb HM2 RA2 RB2 HB2
  go_wp2_with fail
  refine (Ky.right_is r2.out l2.out ib.out _ RB3.out).mono ?_
  rintro e w4 ⟨rfl, hb⟩
  have HM4 := Lib.hid (HM3.out.later hb)
  have RA4 := Lib.hid (RA3.out.later hb)
  have RB4 := Lib.hid (RB3.out.later hb)
  have HB4 := Lib.hid (HB3.out.trans (hb.mono HB3.out.size))
  clear hb HM3 RA3 RB3 HB3
  go_wp2_with fail
  refine (Ky.of_is hT.out l1.out ia.out _ RA4.out HM4.out).mono ?_
  rintro e w5 ⟨rfl, hb⟩
  have HM5 := Lib.hid (HM4.out.later hb)
  have RA5 := Lib.hid (RA4.out.later hb)
  have RB5 := Lib.hid (RB4.out.later hb)
  have HB5 := Lib.hid (HB4.out.trans (hb.mono HB4.out.size))
  clear hb HM4 RA4 RB4 HB4
  go_wp2_with fail
  refine (Ky.of_is hU.out l2.out ib.out _ RB5.out HM5.out).mono ?_
  rintro e w6 ⟨rfl, hb⟩
  have HM6 := Lib.hid (HM5.out.later hb)
  have RA6 := Lib.hid (RA5.out.later hb)
  have RB6 := Lib.hid (RB5.out.later hb)
  have HB6 := Lib.hid (HB5.out.trans (hb.mono HB5.out.size))
  clear hb HM5 RA5 RB5 HB5
  go_wp2_with fail
  refine (Ky.known_any _ HM6.out).mono ?_
  rintro e w7 ⟨rfl, hb⟩
  have HM7 := Lib.hid (HM6.out.later hb)
  have RA7 := Lib.hid (RA6.out.later hb)
  have RB7 := Lib.hid (RB6.out.later hb)
  have HB7 := Lib.hid (HB6.out.trans (hb.mono HB6.out.size))
  clear hb HM6 RA6 RB6 HB6
  go_wp2_with fail
  go_ret
  exact ⟨rfl, HB7.out⟩
set_option maxHeartbeats 4000000 in
set_option maxRecDepth 100000 in
theorem e2 (a b : List V) (sa sb : Value) (w : World) (hm : Ky.ML w) (ra : RowAt a sa w) (rb : RowAt b sb w) (na : a.length ≤ 9223372036854775807) (nb : b.length ≤ 9223372036854775807) (ia : Hid (∀ x ∈ a, x.inn)) (ib : Hid (∀ x ∈ b, x.inn)) (l1 : Hid (Ky.lightB a = true)) (l2 : Hid (Ky.lightB b = true)) (r1 : Hid (Ky.isK a = true)) (r2 : Hid (Ky.isK b = true)) (T U : ByteArray) (hT : Hid (T = S (Ky.ofB a))) (hU : Hid (U = S (Ky.ofB b))) (f1 : ¬ (U.size : Int) < T.size) (f3 : T.size ≤ U.size) (f2 : (1 : Int) ≤ T.size) (g : ((U.extract 0 T.size).toList == T.toList) = false) : Calls Tryd.prog 10 #[sa, sb] w fun e w' => e = .returned (.bool true) ∧ Below w.heap.size w w' := by
  have HM0 := Lib.hid hm
  have RA0 := Lib.hid ra
  have RB0 := Lib.hid rb
  have NA := Lib.hid na
  have NB := Lib.hid nb
  clear hm ra rb na nb
  go_enter Tryd.func10, Tryd.ntmps10
  go_wp2_with fail
  refine (Ky.light_is l1.out NA.out _ RA0.out).mono ?_
  rintro e w1 ⟨rfl, hb⟩
  have HM1 := Lib.hid (HM0.out.later hb)
  have RA1 := Lib.hid (RA0.out.later hb)
  have RB1 := Lib.hid (RB0.out.later hb)
  have HB1 := Lib.hid hb
  clear hb HM0 RA0 RB0
  go_wp2_with fail
  refine (Ky.light_is l2.out NB.out _ RB1.out).mono ?_
  rintro e w2 ⟨rfl, hb⟩
  have HM2 := Lib.hid (HM1.out.later hb)
  have RA2 := Lib.hid (RA1.out.later hb)
  have RB2 := Lib.hid (RB1.out.later hb)
  have HB2 := Lib.hid (HB1.out.trans (hb.mono HB1.out.size))
  clear hb HM1 RA1 RB1 HB1
  go_wp2_with fail
  refine (Ky.right_is r1.out l1.out ia.out _ RA2.out).mono ?_
  rintro e w3 ⟨rfl, hb⟩
  have HM3 := Lib.hid (HM2.out.later hb)
  have RA3 := Lib.hid (RA2.out.later hb)
  have RB3 := Lib.hid (RB2.out.later hb)
  have HB3 := Lib.hid (HB2.out.trans (hb.mono HB2.out.size))
  clear hb HM2 RA2 RB2 HB2
  go_wp2_with fail
  refine (Ky.right_is r2.out l2.out ib.out _ RB3.out).mono ?_
  rintro e w4 ⟨rfl, hb⟩
  have HM4 := Lib.hid (HM3.out.later hb)
  have RA4 := Lib.hid (RA3.out.later hb)
  have RB4 := Lib.hid (RB3.out.later hb)
  have HB4 := Lib.hid (HB3.out.trans (hb.mono HB3.out.size))
  clear hb HM3 RA3 RB3 HB3
  go_wp2_with fail
  refine (Ky.of_is hT.out l1.out ia.out _ RA4.out HM4.out).mono ?_
  rintro e w5 ⟨rfl, hb⟩
  have HM5 := Lib.hid (HM4.out.later hb)
  have RA5 := Lib.hid (RA4.out.later hb)
  have RB5 := Lib.hid (RB4.out.later hb)
  have HB5 := Lib.hid (HB4.out.trans (hb.mono HB4.out.size))
  clear hb HM4 RA4 RB4 HB4
  go_wp2_with fail
  refine (Ky.of_is hU.out l2.out ib.out _ RB5.out HM5.out).mono ?_
  rintro e w6 ⟨rfl, hb⟩
  have HM6 := Lib.hid (HM5.out.later hb)
  have RA6 := Lib.hid (RA5.out.later hb)
  have RB6 := Lib.hid (RB5.out.later hb)
  have HB6 := Lib.hid (HB5.out.trans (hb.mono HB5.out.size))
  clear hb HM5 RA5 RB5 HB5
  go_wp2_with fail
  refine (Ky.known_any _ HM6.out).mono ?_
  rintro e w7 ⟨rfl, hb⟩
  have HM7 := Lib.hid (HM6.out.later hb)
  have RA7 := Lib.hid (RA6.out.later hb)
  have RB7 := Lib.hid (RB6.out.later hb)
  have HB7 := Lib.hid (HB6.out.trans (hb.mono HB6.out.size))
  clear hb HM6 RA6 RB6 HB6
  go_wp2_with fail
  go_ret
  exact ⟨rfl, HB7.out⟩
set_option maxHeartbeats 4000000 in
set_option maxRecDepth 100000 in
theorem e3 (a b : List V) (sa sb : Value) (w : World) (hm : Ky.ML w) (ra : RowAt a sa w) (rb : RowAt b sb w) (na : a.length ≤ 9223372036854775807) (nb : b.length ≤ 9223372036854775807) (ia : Hid (∀ x ∈ a, x.inn)) (ib : Hid (∀ x ∈ b, x.inn)) (l1 : Hid (Ky.lightB a = true)) (l2 : Hid (Ky.lightB b = true)) (r1 : Hid (Ky.isK a = true)) (r2 : Hid (Ky.isK b = true)) (T U : ByteArray) (hT : Hid (T = S (Ky.ofB a))) (hU : Hid (U = S (Ky.ofB b))) (f1 : ¬ (U.size : Int) < T.size) (f3 : T.size ≤ U.size) (f2 : (1 : Int) ≤ T.size) (g : ((U.extract 0 T.size).toList == T.toList) = true) (g2 : (T.toList == U.toList) = true) : Calls Tryd.prog 10 #[sa, sb] w fun e w' => e = .returned (.bool true) ∧ Below w.heap.size w w' := by
  have HM0 := Lib.hid hm
  have RA0 := Lib.hid ra
  have RB0 := Lib.hid rb
  have NA := Lib.hid na
  have NB := Lib.hid nb
  clear hm ra rb na nb
  go_enter Tryd.func10, Tryd.ntmps10
  go_wp2_with fail
  refine (Ky.light_is l1.out NA.out _ RA0.out).mono ?_
  rintro e w1 ⟨rfl, hb⟩
  have HM1 := Lib.hid (HM0.out.later hb)
  have RA1 := Lib.hid (RA0.out.later hb)
  have RB1 := Lib.hid (RB0.out.later hb)
  have HB1 := Lib.hid hb
  clear hb HM0 RA0 RB0
  go_wp2_with fail
  refine (Ky.light_is l2.out NB.out _ RB1.out).mono ?_
  rintro e w2 ⟨rfl, hb⟩
  have HM2 := Lib.hid (HM1.out.later hb)
  have RA2 := Lib.hid (RA1.out.later hb)
  have RB2 := Lib.hid (RB1.out.later hb)
  have HB2 := Lib.hid (HB1.out.trans (hb.mono HB1.out.size))
  clear hb HM1 RA1 RB1 HB1
  go_wp2_with fail
  refine (Ky.right_is r1.out l1.out ia.out _ RA2.out).mono ?_
  rintro e w3 ⟨rfl, hb⟩
  have HM3 := Lib.hid (HM2.out.later hb)
  have RA3 := Lib.hid (RA2.out.later hb)
  have RB3 := Lib.hid (RB2.out.later hb)
  have HB3 := Lib.hid (HB2.out.trans (hb.mono HB2.out.size))
  clear hb HM2 RA2 RB2 HB2
  go_wp2_with fail
  refine (Ky.right_is r2.out l2.out ib.out _ RB3.out).mono ?_
  rintro e w4 ⟨rfl, hb⟩
  have HM4 := Lib.hid (HM3.out.later hb)
  have RA4 := Lib.hid (RA3.out.later hb)
  have RB4 := Lib.hid (RB3.out.later hb)
  have HB4 := Lib.hid (HB3.out.trans (hb.mono HB3.out.size))
  clear hb HM3 RA3 RB3 HB3
  go_wp2_with fail
  refine (Ky.of_is hT.out l1.out ia.out _ RA4.out HM4.out).mono ?_
  rintro e w5 ⟨rfl, hb⟩
  have HM5 := Lib.hid (HM4.out.later hb)
  have RA5 := Lib.hid (RA4.out.later hb)
  have RB5 := Lib.hid (RB4.out.later hb)
  have HB5 := Lib.hid (HB4.out.trans (hb.mono HB4.out.size))
  clear hb HM4 RA4 RB4 HB4
  go_wp2_with fail
  refine (Ky.of_is hU.out l2.out ib.out _ RB5.out HM5.out).mono ?_
  rintro e w6 ⟨rfl, hb⟩
  have HM6 := Lib.hid (HM5.out.later hb)
  have RA6 := Lib.hid (RA5.out.later hb)
  have RB6 := Lib.hid (RB5.out.later hb)
  have HB6 := Lib.hid (HB5.out.trans (hb.mono HB5.out.size))
  clear hb HM5 RA5 RB5 HB5
  go_wp2_with fail
  refine (Ky.known_any _ HM6.out).mono ?_
  rintro e w7 ⟨rfl, hb⟩
  have HM7 := Lib.hid (HM6.out.later hb)
  have RA7 := Lib.hid (RA6.out.later hb)
  have RB7 := Lib.hid (RB6.out.later hb)
  have HB7 := Lib.hid (HB6.out.trans (hb.mono HB6.out.size))
  clear hb HM6 RA6 RB6 HB6
  go_wp2_with fail
  go_ret
  exact ⟨rfl, HB7.out⟩
theorem law_any (a b : List V) (sa sb : Value) (w : World) (hm : Ky.ML w) (ra : RowAt a sa w) (rb : RowAt b sb w) (na : a.length ≤ 9223372036854775807) (nb : b.length ≤ 9223372036854775807) (ia : ∀ x ∈ a, x.inn) (ib : ∀ x ∈ b, x.inn) : Calls Tryd.prog 10 #[sa, sb] w fun e w' => e = .returned (.bool true) ∧ Below w.heap.size w w' := by
  rcases l1 : Ky.lightB a with _ | _
  · exact p0 a b sa sb w hm ra rb na nb (Lib.hid ia) (Lib.hid ib) (Lib.hid l1)
  rcases l2 : Ky.lightB b with _ | _
  · exact p1 a b sa sb w hm ra rb na nb (Lib.hid ia) (Lib.hid ib) (Lib.hid l1) (Lib.hid l2)
  rcases r1 : Ky.isK a with _ | _
  · exact p2 a b sa sb w hm ra rb na nb (Lib.hid ia) (Lib.hid ib) (Lib.hid l1) (Lib.hid l2) (Lib.hid r1)
  rcases r2 : Ky.isK b with _ | _
  · exact p3 a b sa sb w hm ra rb na nb (Lib.hid ia) (Lib.hid ib) (Lib.hid l1) (Lib.hid l2) (Lib.hid r1) (Lib.hid r2)
  have ga : Ky.Good a := ⟨r1, ia⟩
  have gb : Ky.Good b := ⟨r2, ib⟩
  have ea : Ky.ofB a = Ky.body a := by unfold Ky.ofB; rw [if_pos r1]
  have eb : Ky.ofB b = Ky.body b := by unfold Ky.ofB; rw [if_pos r2]
  have za := Ky.body_size ga
  have zb := Ky.body_size gb
  have pa := Ky.body_pos a
  have sT : (S (Ky.ofB a)).size = (Ky.body a).length := by rw [S_size, ea]
  have sU : (S (Ky.ofB b)).size = (Ky.body b).length := by rw [S_size, eb]
  by_cases f : (Ky.body b).length < (Ky.body a).length
  · exact e1 a b sa sb w hm ra rb na nb (Lib.hid ia) (Lib.hid ib) (Lib.hid l1) (Lib.hid l2) (Lib.hid r1) (Lib.hid r2) _ _ (Lib.hid rfl) (Lib.hid rfl) (by omega) (by omega)
  · have hx : ((S (Ky.ofB b)).extract 0 (S (Ky.ofB a)).size).toList = (Ky.body b).take (Ky.body a).length := by
      rw [Lib.extract_toList, sT]
      show (List.drop 0 (Ky.ofB b)).take _ = _
      rw [eb, List.drop_zero, Nat.sub_zero]
    have hy : (S (Ky.ofB a)).toList = Ky.body a := by rw [Ky.S_toList, ea]
    have hz : (S (Ky.ofB b)).toList = Ky.body b := by rw [Ky.S_toList, eb]
    by_cases h : (Ky.body b).take (Ky.body a).length = Ky.body a
    · have e : Ky.body b = Ky.body a ++ (Ky.body b).drop (Ky.body a).length := by
        conv => lhs; rw [← List.take_append_drop (Ky.body a).length (Ky.body b), h]
      have hn := Ky.body_pre ga.both gb.both e
      have heq : Ky.body a = Ky.body b := by rw [hn, List.append_nil] at e; exact e.symm
      exact e3 a b sa sb w hm ra rb na nb (Lib.hid ia) (Lib.hid ib) (Lib.hid l1) (Lib.hid l2) (Lib.hid r1) (Lib.hid r2) _ _ (Lib.hid rfl) (Lib.hid rfl) (by omega) (by omega) (by omega) (by rw [hx, hy, h]; simp) (by rw [hy, hz, heq]; simp)
    · exact e2 a b sa sb w hm ra rb na nb (Lib.hid ia) (Lib.hid ib) (Lib.hid l1) (Lib.hid l2) (Lib.hid r1) (Lib.hid r2) _ _ (Lib.hid rfl) (Lib.hid rfl) (by omega) (by omega) (by omega) (by rw [hx, hy]; simpa using h)
theorem laidOut : laidOutB Tryd.prog = true := by kernel_rfl
set_option maxRecDepth 100000 in
theorem contract (H : Type) (enc : TypeId × Value → H) (W : World) (base : Nat) (args : Array Value) (ds gs : List (DataW H)) (before : List MemPlace)
    (hval : ∀ (j : Nat) t v, Tryd.f10.params[j]? = some t → args[j]? = some v → Value.okWide Tryd.prog W .any base t v)
    (hW : DataW.Whole enc Tryd.prog Tryd.f10.params.toList Rows.keyEndsSpec.vars false W args.toList ds gs before) (hml : Ky.ML W) :
    Calls Tryd.prog 10 args W fun e W' => ∃ v, e = .returned v ∧ Rows.keyEndsSpec.post enc Tryd.prog Tryd.f10 false true false false W args v W' := by
  have hW' := hW
  obtain ⟨p, q, hA0, hV, rfl, hfz, hnd⟩ := hW
  have hA : DataW.TrodAll enc Tryd.prog W 0 (fun _ => true) true Tryd.f10.params.toList args.toList ds p := hA0
  rw [Tryd.params10] at hA hval
  obtain ⟨v0, vs0, d0, ds0, p0, q0, hargs, rfl, rfl, h0, r0⟩ := trodAll_cons hA
  obtain ⟨v1, vs1, d1, ds1, p1, q1, rfl, rfl, rfl, h1, r1⟩ := trodAll_cons r0
  obtain ⟨rfl, rfl, rfl⟩ := trodAll_nil r1
  obtain rfl : args = #[v0, v1] := by cases args; simp_all
  obtain ⟨rfl, rfl⟩ := trodVars_none hV
  obtain ⟨a, hrowa, hina, hla, hca⟩ := Cod.open_vals2 (hval 0 30 v0 rfl rfl) h0
  obtain ⟨b, hrowb, hinb, hlb, hcb⟩ := Cod.open_vals2 (hval 1 30 v1 rfl rfl) h1
  clear hA0
  simp only [List.append_nil] at hW'
  have hlt0 : ∀ x ∈ p0, x.block < W.heap.size := fun x hx => hW'.lt x (by simp [hx])
  have hlt1 : ∀ x ∈ p1, x.block < W.heap.size := fun x hx => hW'.lt x (by simp [hx])
  have walk := law_any a b v0 v1 W hml hrowa hrowb hla hlb hina hinb
  refine walk.mono fun e W' ⟨he, hg⟩ => ?_
  subst he
  refine ⟨_, rfl, Fr.post_made (pa := p0 ++ p1) (pv := []) hW' (fun _ _ _ => trodAll_cons_mk (shut_bool Tryd.underlying4 _) trodAll_mk0) (fun sp hsp => ?_) (fun _ _ => rfl) (by simp) hg (ok_one (by kernel_rfl) rfl (okWide_bool_mk Tryd.underlying4 _))⟩
  have g0 : DataW.Trod enc Tryd.prog W' 0 sp true 30 v0 d0 p0 := WideElems.Trod_stays laidOut (by kernel_rfl) (of_decide_eq_true (by kernel_rfl)) h0 (fun x hx => hg.same (hlt0 x hx)) (fun x hx => hsp x (by simp [hx]))
  have g1 : DataW.Trod enc Tryd.prog W' 0 sp true 30 v1 d1 p1 := WideElems.Trod_stays laidOut (by kernel_rfl) (of_decide_eq_true (by kernel_rfl)) h1 (fun x hx => hg.same (hlt1 x hx)) (fun x hx => hsp x (by simp [hx]))
  have hT : DataW.TrodAll enc Tryd.prog W' 0 sp true _ _ _ _ := trodAll_cons_mk g0 (trodAll_cons_mk g1 trodAll_mk0)
  simp only [List.append_nil] at hT ⊢
  exact hT
set_option maxRecDepth 100000 in
theorem reads (os : Os) {H : Type} (enc : TypeId × Value → H) : ∃ places, DataW.whole enc Tryd.prog ((World.laidAll Tryd.prog os Rows.keyEndsRow.laid).forCall (fun _ _ => 0) ⟨#[], #[.slice none 0 0, .slice none 0 0], []⟩).memory Tryd.f10.params.toList Rows.keyEndsSpec.vars false (#[.slice none 0 0, .slice none 0 0] : Array Value).toList 8 = some ([.nil, .nil], [], places) :=
  ⟨[], by kernel_rfl⟩
set_option maxRecDepth 100000 in
theorem lifted (os : Os) (started : os.Started) (H : Type) (enc : TypeId × Value → H) (F : Stop.Interp) :
    ReturnsInHanded {} Tryd.checked os 10 .any ((OpenSpec.ofChange Rows.keyEndsSpec).preRow enc Tryd.prog Tryd.f10 Rows.keyEndsRow.domain false Rows.keyEndsRow.laid) (((OpenSpec.ofChange Rows.keyEndsSpec).at F).post enc Tryd.prog Tryd.f10 false true false false) := by
  obtain ⟨places, hx⟩ := reads os enc
  refine returnsInHanded_of_row (C := Tryd.checked) (s := OpenSpec.ofChange Rows.keyEndsSpec) Fr.own started (by kernel_rfl) Tryd.func10
    (Fr.wit (World.laidAll Tryd.prog os Rows.keyEndsRow.laid) #[.slice none 0 0, .slice none 0 0] (World.laidAll_os _ _ _) (World.shaped_of_ZipB (by kernel_rfl) (by kernel_rfl)) (by kernel_rfl)
      (OpenSpec.preRow_of_cond 8 hx (by kernel_rfl) (fun k hk => by cases hk) (by kernel_rfl) (laidMet_laidAll _ (by kernel_rfl) (by kernel_rfl)))) ?_
  intro W base args ds gs before hval hW _ _ _ _ hsh _
  exact contract H enc W base args ds gs before hval hW (Tryd.laysM143.s1_3 W hsh)
set_option maxRecDepth 100000 in
theorem said : Rows.KeyEndsSaid :=
  OpenClaim.holds_of_cond 10 Tryd.f10 rfl rfl rfl rfl rfl rfl rfl ⟨rfl, rfl, rfl, rfl, rfl⟩ rfl rfl rfl rfl rfl (by kernel_rfl) Tryd.func10 (by kernel_rfl)
    (of_decide_eq_true (by kernel_rfl)) (by unfold Func.isWrapper; first | (rw [if_pos (by decide +kernel)]; kernel_rfl) | (rw [if_neg (by decide +kernel)]; exact ⟨rfl, rfl⟩))
    (fun os started H enc _ F => by rw [OpenClaim.pre_eq_preRow]; exact lifted os started H enc F)
set_option maxRecDepth 100000 in
theorem plain (f : FuncId) (fn : Func) (hf : Tryd.pinned.checked.prog.funcNamed "memoir/memoirlaw04.KeyEnds" = some f) (hfn : Tryd.pinned.checked.prog.funcs[f]? = some fn) :
    true = Tryd.pinned.checked.prog.looks [] ∧ ∀ (j : Nat) t, fn.params[j]? = some t → Tryd.pinned.checked.prog.wantsStandIn t = false := by
  obtain rfl : f = 10 := Option.some.inj ((show Tryd.prog.funcNamed "memoir/memoirlaw04.KeyEnds" = some 10 by kernel_rfl).symm.trans hf) |>.symm
  obtain rfl : fn = Tryd.f10 := (Option.some.inj (Tryd.func10.symm.trans hfn)).symm
  refine ⟨by kernel_rfl, fun j t ht => ?_⟩
  rw [Tryd.params10] at ht
  have hm := Array.mem_of_getElem? ht
  simp only [List.mem_toArray, List.mem_cons, List.not_mem_nil, or_false] at hm
  rcases hm with rfl | rfl
  all_goals first | exact (show Tryd.prog.wantsStandIn 9 = false by kernel_rfl) | exact (show Tryd.prog.wantsStandIn 30 = false by kernel_rfl)
set_option maxRecDepth 100000 in
theorem card : Rows.KeyEndsCardSaid :=
  Claim7.holds_tied_plain_at .later [] _ _ _ _ said (fun _ h => by cases h) (by kernel_rfl) (fun _ h => by cases h) keyEnds_row_tie rfl ⟨rfl, rfl⟩ (by kernel_rfl) rfl plain (by kernel_rfl)
end LaKeyEnds
end Go.Proofs.YtppdebhcaodcnaaDoor
