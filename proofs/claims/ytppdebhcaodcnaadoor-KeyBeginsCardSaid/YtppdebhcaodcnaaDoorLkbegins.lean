/- KeyBegins of the landed program returns true for every three keys. No other condition. -/
import Derived.Test.YtppdebhcaodcnaaDoorYq
import Derived.Test.YtppdebhcaodcnaaDoorFrK
namespace Go.Proofs.YtppdebhcaodcnaaDoor
open Go.ChangeShapes Go.WideShapes Go.ChangeAt Go.RowKit Cod
open Go.ChangeMaps (open_string shut_string)
namespace LaKeyBegins
theorem own_empty (w : World) : Ky.Own w.heap.size [] (.slice (some ⟨w.heap.size, 0, none⟩) 0 0) (w.alloc (.cells #[] 25)) :=
  ⟨rfl, .inr ⟨w.heap.size, 0, #[], rfl, Nat.le_refl _, heap_alloc_new _ _, Nat.le_refl _, by decide, rfl, rfl⟩⟩
theorem cmp_len {x y : List V} {sx sy : Value} {d : Int} (hd : Ky.cmpKk x y = d) (hx : x.length ≤ 1000000) (hy : y.length ≤ 1000000) (w : World) (h1 : RowAt x sx w) (h2 : RowAt y sy w) :
    Calls Tryd.prog 18 #[sx, sy] w fun e w' => e = .returned (.int .i64 d) ∧ Below w.heap.size w w' := by
  have g := Ky.compare_any x y sx sy hx hy w h1 h2
  rw [hd] at g
  exact g
theorem own_shape {base : Nat} {vs : List V} {v : Value} {w : World} (h : Ky.Own base vs v w) : ∃ ao n cap, v = .slice ao n cap ∧ n = vs.length ∧ n ≤ cap := by
  rcases h.2 with ⟨hv, h0⟩ | ⟨g, cap, cur, hv, _, _, hc, _⟩
  · exact ⟨none, 0, 0, hv, h0.symm, by omega⟩
  · exact ⟨_, _, cap, hv, rfl, hc⟩
set_option maxHeartbeats 4000000 in
set_option maxRecDepth 100000 in
theorem p0 (a b c : List V) (sa sb : Value) (co : Option Addr) (ccap : Nat) (w : World) (hm : Ky.ML w) (ra : Ky.Src a sa w) (rb : Ky.Src b sb w) (rc : RowAt c (.slice co c.length ccap) w) (na : a.length ≤ 9223372036854775807) (_nb : b.length ≤ 9223372036854775807) (_nc : c.length ≤ 9223372036854775807) (_ia : Hid (∀ x ∈ a, x.inn)) (_ib : Hid (∀ x ∈ b, x.inn)) (_ic : Hid (∀ x ∈ c, x.inn)) (l1 : Hid (Ky.lightB a = false)) : Calls Tryd.prog 8 #[sa, sb, .slice co c.length ccap] w fun e w' => e = .returned (.bool true) ∧ Below w.heap.size w w' := by
  have HM0 := Lib.hid hm
  have RA0 := Lib.hid ra
  have RB0 := Lib.hid rb
  have RC0 := Lib.hid rc
  have NA := Lib.hid na
  obtain ⟨nC, hnC⟩ : ∃ n, n = c.length := ⟨_, rfl⟩
  have HNC := Lib.hid hnC
  rw [← hnC] at RC0 ⊢
  clear hm ra rb rc na hnC
  go_enter Tryd.func8, Tryd.ntmps8
  go_wp2_with fail
  refine (Ky.light_is l1.out NA.out _ RA0.out.1).mono ?_
  rintro e w1 ⟨rfl, hb⟩
  have HM1 := Lib.hid (HM0.out.later hb)
  have RA1 := Lib.hid (RA0.out.later hb)
  have RB1 := Lib.hid (RB0.out.later hb)
  have RC1 := Lib.hid (RC0.out.later hb)
  have HB1 := Lib.hid hb
  clear hb HM0 RA0 RB0 RC0
  go_wp2_with fail
  refine (Ky.known_any _ HM1.out).mono ?_
  rintro e w2 ⟨rfl, hb⟩
  have HM2 := Lib.hid (HM1.out.later hb)
  have RA2 := Lib.hid (RA1.out.later hb)
  have RB2 := Lib.hid (RB1.out.later hb)
  have RC2 := Lib.hid (RC1.out.later hb)
  have HB2 := Lib.hid (HB1.out.trans (hb.mono HB1.out.size))
  clear hb HM1 RA1 RB1 RC1 HB1
  go_wp2_with fail
  go_ret
  exact ⟨rfl, HB2.out⟩
set_option maxHeartbeats 4000000 in
set_option maxRecDepth 100000 in
theorem p1 (a b c : List V) (sa sb : Value) (co : Option Addr) (ccap : Nat) (w : World) (hm : Ky.ML w) (ra : Ky.Src a sa w) (rb : Ky.Src b sb w) (rc : RowAt c (.slice co c.length ccap) w) (na : a.length ≤ 9223372036854775807) (nb : b.length ≤ 9223372036854775807) (_nc : c.length ≤ 9223372036854775807) (_ia : Hid (∀ x ∈ a, x.inn)) (_ib : Hid (∀ x ∈ b, x.inn)) (_ic : Hid (∀ x ∈ c, x.inn)) (l1 : Hid (Ky.lightB a = true)) (l2 : Hid (Ky.lightB b = false)) : Calls Tryd.prog 8 #[sa, sb, .slice co c.length ccap] w fun e w' => e = .returned (.bool true) ∧ Below w.heap.size w w' := by
  have HM0 := Lib.hid hm
  have RA0 := Lib.hid ra
  have RB0 := Lib.hid rb
  have RC0 := Lib.hid rc
  have NA := Lib.hid na
  have NB := Lib.hid nb
  obtain ⟨nC, hnC⟩ : ∃ n, n = c.length := ⟨_, rfl⟩
  have HNC := Lib.hid hnC
  rw [← hnC] at RC0 ⊢
  clear hm ra rb rc na nb hnC
  go_enter Tryd.func8, Tryd.ntmps8
  go_wp2_with fail
  refine (Ky.light_is l1.out NA.out _ RA0.out.1).mono ?_
  rintro e w1 ⟨rfl, hb⟩
  have HM1 := Lib.hid (HM0.out.later hb)
  have RA1 := Lib.hid (RA0.out.later hb)
  have RB1 := Lib.hid (RB0.out.later hb)
  have RC1 := Lib.hid (RC0.out.later hb)
  have HB1 := Lib.hid hb
  clear hb HM0 RA0 RB0 RC0
  go_wp2_with fail
  refine (Ky.light_is l2.out NB.out _ RB1.out.1).mono ?_
  rintro e w2 ⟨rfl, hb⟩
  have HM2 := Lib.hid (HM1.out.later hb)
  have RA2 := Lib.hid (RA1.out.later hb)
  have RB2 := Lib.hid (RB1.out.later hb)
  have RC2 := Lib.hid (RC1.out.later hb)
  have HB2 := Lib.hid (HB1.out.trans (hb.mono HB1.out.size))
  clear hb HM1 RA1 RB1 RC1 HB1
  go_wp2_with fail
  refine (Ky.known_any _ HM2.out).mono ?_
  rintro e w3 ⟨rfl, hb⟩
  have HM3 := Lib.hid (HM2.out.later hb)
  have RA3 := Lib.hid (RA2.out.later hb)
  have RB3 := Lib.hid (RB2.out.later hb)
  have RC3 := Lib.hid (RC2.out.later hb)
  have HB3 := Lib.hid (HB2.out.trans (hb.mono HB2.out.size))
  clear hb HM2 RA2 RB2 RC2 HB2
  go_wp2_with fail
  go_ret
  exact ⟨rfl, HB3.out⟩
set_option maxHeartbeats 4000000 in
set_option maxRecDepth 100000 in
theorem p2 (a b c : List V) (sa sb : Value) (co : Option Addr) (ccap : Nat) (w : World) (hm : Ky.ML w) (ra : Ky.Src a sa w) (rb : Ky.Src b sb w) (rc : RowAt c (.slice co c.length ccap) w) (na : a.length ≤ 9223372036854775807) (nb : b.length ≤ 9223372036854775807) (nc : c.length ≤ 9223372036854775807) (_ia : Hid (∀ x ∈ a, x.inn)) (_ib : Hid (∀ x ∈ b, x.inn)) (_ic : Hid (∀ x ∈ c, x.inn)) (l1 : Hid (Ky.lightB a = true)) (l2 : Hid (Ky.lightB b = true)) (l3 : Hid (Ky.lightB c = false)) : Calls Tryd.prog 8 #[sa, sb, .slice co c.length ccap] w fun e w' => e = .returned (.bool true) ∧ Below w.heap.size w w' := by
  have HM0 := Lib.hid hm
  have RA0 := Lib.hid ra
  have RB0 := Lib.hid rb
  have RC0 := Lib.hid rc
  have NA := Lib.hid na
  have NB := Lib.hid nb
  have NC := Lib.hid nc
  obtain ⟨nC, hnC⟩ : ∃ n, n = c.length := ⟨_, rfl⟩
  have HNC := Lib.hid hnC
  rw [← hnC] at RC0 ⊢
  clear hm ra rb rc na nb nc hnC
  go_enter Tryd.func8, Tryd.ntmps8
  go_wp2_with fail
  refine (Ky.light_is l1.out NA.out _ RA0.out.1).mono ?_
  rintro e w1 ⟨rfl, hb⟩
  have HM1 := Lib.hid (HM0.out.later hb)
  have RA1 := Lib.hid (RA0.out.later hb)
  have RB1 := Lib.hid (RB0.out.later hb)
  have RC1 := Lib.hid (RC0.out.later hb)
  have HB1 := Lib.hid hb
  clear hb HM0 RA0 RB0 RC0
  go_wp2_with fail
  refine (Ky.light_is l2.out NB.out _ RB1.out.1).mono ?_
  rintro e w2 ⟨rfl, hb⟩
  have HM2 := Lib.hid (HM1.out.later hb)
  have RA2 := Lib.hid (RA1.out.later hb)
  have RB2 := Lib.hid (RB1.out.later hb)
  have RC2 := Lib.hid (RC1.out.later hb)
  have HB2 := Lib.hid (HB1.out.trans (hb.mono HB1.out.size))
  clear hb HM1 RA1 RB1 RC1 HB1
  go_wp2_with fail
  refine (Ky.light_is l3.out NC.out _ RC2.out).mono ?_
  rintro e w3 ⟨rfl, hb⟩
  have HM3 := Lib.hid (HM2.out.later hb)
  have RA3 := Lib.hid (RA2.out.later hb)
  have RB3 := Lib.hid (RB2.out.later hb)
  have RC3 := Lib.hid (RC2.out.later hb)
  have HB3 := Lib.hid (HB2.out.trans (hb.mono HB2.out.size))
  clear hb HM2 RA2 RB2 RC2 HB2
  go_wp2_with fail
  refine (Ky.known_any _ HM3.out).mono ?_
  rintro e w4 ⟨rfl, hb⟩
  have HM4 := Lib.hid (HM3.out.later hb)
  have RA4 := Lib.hid (RA3.out.later hb)
  have RB4 := Lib.hid (RB3.out.later hb)
  have RC4 := Lib.hid (RC3.out.later hb)
  have HB4 := Lib.hid (HB3.out.trans (hb.mono HB3.out.size))
  clear hb HM3 RA3 RB3 RC3 HB3
  go_wp2_with fail
  go_ret
  exact ⟨rfl, HB4.out⟩
set_option maxHeartbeats 4000000 in
set_option maxRecDepth 100000 in
theorem p3 (a b c : List V) (sa sb : Value) (co : Option Addr) (ccap : Nat) (w : World) (hm : Ky.ML w) (ra : Ky.Src a sa w) (rb : Ky.Src b sb w) (rc : RowAt c (.slice co c.length ccap) w) (na : a.length ≤ 9223372036854775807) (nb : b.length ≤ 9223372036854775807) (nc : c.length ≤ 9223372036854775807) (_ia : Hid (∀ x ∈ a, x.inn)) (_ib : Hid (∀ x ∈ b, x.inn)) (_ic : Hid (∀ x ∈ c, x.inn)) (l1 : Hid (Ky.lightB a = true)) (l2 : Hid (Ky.lightB b = true)) (l3 : Hid (Ky.lightB c = true)) (fl : (8 : Int) < (a.length : Int) + b.length) : Calls Tryd.prog 8 #[sa, sb, .slice co c.length ccap] w fun e w' => e = .returned (.bool true) ∧ Below w.heap.size w w' := by
  have HM0 := Lib.hid hm
  have RA0 := Lib.hid ra
  have RB0 := Lib.hid rb
  have RC0 := Lib.hid rc
  have NA := Lib.hid na
  have NB := Lib.hid nb
  have NC := Lib.hid nc
  obtain ⟨nC, hnC⟩ : ∃ n, n = c.length := ⟨_, rfl⟩
  have HNC := Lib.hid hnC
  rw [← hnC] at RC0 ⊢
  clear hm ra rb rc na nb nc hnC
  have ha := Ky.light_len l1.out
  have hb := Ky.light_len l2.out
  have FLA := fl
  clear fl
  obtain ⟨ao, acap, rfl⟩ : ∃ ao acap, sa = .slice ao a.length acap := by
    obtain ⟨x, y, he, _⟩ := RA0.out.1
    exact ⟨x, y, he⟩
  obtain ⟨bo, bcap, rfl⟩ : ∃ bo bcap, sb = .slice bo b.length bcap := by
    obtain ⟨x, y, he, _⟩ := RB0.out.1
    exact ⟨x, y, he⟩
  obtain ⟨nA, hnA⟩ : ∃ n, n = a.length := ⟨_, rfl⟩
  obtain ⟨nB, hnB⟩ : ∃ n, n = b.length := ⟨_, rfl⟩
  have HNA := Lib.hid hnA
  have HNB := Lib.hid hnB
  rw [← hnA] at RA0 FLA ha ⊢
  rw [← hnB] at RB0 FLA hb ⊢
  clear hnA hnB
  go_enter Tryd.func8, Tryd.ntmps8
  go_wp2_with fail
  refine (Ky.light_is l1.out NA.out _ RA0.out.1).mono ?_
  rintro e w1 ⟨rfl, hb⟩
  have HM1 := Lib.hid (HM0.out.later hb)
  have RA1 := Lib.hid (RA0.out.later hb)
  have RB1 := Lib.hid (RB0.out.later hb)
  have RC1 := Lib.hid (RC0.out.later hb)
  have HB1 := Lib.hid hb
  clear hb HM0 RA0 RB0 RC0
  go_wp2_with fail
  refine (Ky.light_is l2.out NB.out _ RB1.out.1).mono ?_
  rintro e w2 ⟨rfl, hb⟩
  have HM2 := Lib.hid (HM1.out.later hb)
  have RA2 := Lib.hid (RA1.out.later hb)
  have RB2 := Lib.hid (RB1.out.later hb)
  have RC2 := Lib.hid (RC1.out.later hb)
  have HB2 := Lib.hid (HB1.out.trans (hb.mono HB1.out.size))
  clear hb HM1 RA1 RB1 RC1 HB1
  go_wp2_with fail
  refine (Ky.light_is l3.out NC.out _ RC2.out).mono ?_
  rintro e w3 ⟨rfl, hb⟩
  have HM3 := Lib.hid (HM2.out.later hb)
  have RA3 := Lib.hid (RA2.out.later hb)
  have RB3 := Lib.hid (RB2.out.later hb)
  have RC3 := Lib.hid (RC2.out.later hb)
  have HB3 := Lib.hid (HB2.out.trans (hb.mono HB2.out.size))
  clear hb HM2 RA2 RB2 RC2 HB2
  go_wp2_with fail
  refine (Ky.known_any _ HM3.out).mono ?_
  rintro e w4 ⟨rfl, hb⟩
  have HM4 := Lib.hid (HM3.out.later hb)
  have RA4 := Lib.hid (RA3.out.later hb)
  have RB4 := Lib.hid (RB3.out.later hb)
  have RC4 := Lib.hid (RC3.out.later hb)
  have HB4 := Lib.hid (HB3.out.trans (hb.mono HB3.out.size))
  clear hb HM3 RA3 RB3 RC3 HB3
  go_wp2_with fail
  go_ret
  exact ⟨rfl, HB4.out⟩
set_option maxHeartbeats 4000000 in
set_option maxRecDepth 100000 in
theorem p4 (a b c : List V) (sa sb : Value) (co : Option Addr) (ccap : Nat) (w : World) (hm : Ky.ML w) (ra : Ky.Src a sa w) (rb : Ky.Src b sb w) (rc : RowAt c (.slice co c.length ccap) w) (na : a.length ≤ 9223372036854775807) (nb : b.length ≤ 9223372036854775807) (nc : c.length ≤ 9223372036854775807) (ia : Hid (∀ x ∈ a, x.inn)) (_ib : Hid (∀ x ∈ b, x.inn)) (_ic : Hid (∀ x ∈ c, x.inn)) (l1 : Hid (Ky.lightB a = true)) (l2 : Hid (Ky.lightB b = true)) (l3 : Hid (Ky.lightB c = true)) (r1 : Hid (Ky.isK a = false)) (fl : ¬ (8 : Int) < (a.length : Int) + b.length) : Calls Tryd.prog 8 #[sa, sb, .slice co c.length ccap] w fun e w' => e = .returned (.bool true) ∧ Below w.heap.size w w' := by
  have HM0 := Lib.hid hm
  have RA0 := Lib.hid ra
  have RB0 := Lib.hid rb
  have RC0 := Lib.hid rc
  have NA := Lib.hid na
  have NB := Lib.hid nb
  have NC := Lib.hid nc
  obtain ⟨nC, hnC⟩ : ∃ n, n = c.length := ⟨_, rfl⟩
  have HNC := Lib.hid hnC
  rw [← hnC] at RC0 ⊢
  clear hm ra rb rc na nb nc hnC
  have ha := Ky.light_len l1.out
  have hb := Ky.light_len l2.out
  have FLA := fl
  clear fl
  obtain ⟨ao, acap, rfl⟩ : ∃ ao acap, sa = .slice ao a.length acap := by
    obtain ⟨x, y, he, _⟩ := RA0.out.1
    exact ⟨x, y, he⟩
  obtain ⟨bo, bcap, rfl⟩ : ∃ bo bcap, sb = .slice bo b.length bcap := by
    obtain ⟨x, y, he, _⟩ := RB0.out.1
    exact ⟨x, y, he⟩
  obtain ⟨nA, hnA⟩ : ∃ n, n = a.length := ⟨_, rfl⟩
  obtain ⟨nB, hnB⟩ : ∃ n, n = b.length := ⟨_, rfl⟩
  have HNA := Lib.hid hnA
  have HNB := Lib.hid hnB
  rw [← hnA] at RA0 FLA ha ⊢
  rw [← hnB] at RB0 FLA hb ⊢
  clear hnA hnB
  go_enter Tryd.func8, Tryd.ntmps8
  go_wp2_with fail
  refine (Ky.light_is l1.out NA.out _ RA0.out.1).mono ?_
  rintro e w1 ⟨rfl, hb⟩
  have HM1 := Lib.hid (HM0.out.later hb)
  have RA1 := Lib.hid (RA0.out.later hb)
  have RB1 := Lib.hid (RB0.out.later hb)
  have RC1 := Lib.hid (RC0.out.later hb)
  have HB1 := Lib.hid hb
  clear hb HM0 RA0 RB0 RC0
  go_wp2_with fail
  refine (Ky.light_is l2.out NB.out _ RB1.out.1).mono ?_
  rintro e w2 ⟨rfl, hb⟩
  have HM2 := Lib.hid (HM1.out.later hb)
  have RA2 := Lib.hid (RA1.out.later hb)
  have RB2 := Lib.hid (RB1.out.later hb)
  have RC2 := Lib.hid (RC1.out.later hb)
  have HB2 := Lib.hid (HB1.out.trans (hb.mono HB1.out.size))
  clear hb HM1 RA1 RB1 RC1 HB1
  go_wp2_with fail
  refine (Ky.light_is l3.out NC.out _ RC2.out).mono ?_
  rintro e w3 ⟨rfl, hb⟩
  have HM3 := Lib.hid (HM2.out.later hb)
  have RA3 := Lib.hid (RA2.out.later hb)
  have RB3 := Lib.hid (RB2.out.later hb)
  have RC3 := Lib.hid (RC2.out.later hb)
  have HB3 := Lib.hid (HB2.out.trans (hb.mono HB2.out.size))
  clear hb HM2 RA2 RB2 RC2 HB2
  go_wp2_with fail
  refine (Ky.right_is r1.out l1.out ia.out _ RA3.out.1).mono ?_
  rintro e w4 ⟨rfl, hb⟩
  have HM4 := Lib.hid (HM3.out.later hb)
  have RA4 := Lib.hid (RA3.out.later hb)
  have RB4 := Lib.hid (RB3.out.later hb)
  have RC4 := Lib.hid (RC3.out.later hb)
  have HB4 := Lib.hid (HB3.out.trans (hb.mono HB3.out.size))
  clear hb HM3 RA3 RB3 RC3 HB3
  go_wp2_with fail
  refine (Ky.known_any _ HM4.out).mono ?_
  rintro e w5 ⟨rfl, hb⟩
  have HM5 := Lib.hid (HM4.out.later hb)
  have RA5 := Lib.hid (RA4.out.later hb)
  have RB5 := Lib.hid (RB4.out.later hb)
  have RC5 := Lib.hid (RC4.out.later hb)
  have HB5 := Lib.hid (HB4.out.trans (hb.mono HB4.out.size))
  clear hb HM4 RA4 RB4 RC4 HB4
  go_wp2_with fail
  go_ret
  exact ⟨rfl, HB5.out⟩
set_option maxHeartbeats 4000000 in
set_option maxRecDepth 100000 in
theorem p5 (a b c : List V) (sa sb : Value) (co : Option Addr) (ccap : Nat) (w : World) (hm : Ky.ML w) (ra : Ky.Src a sa w) (rb : Ky.Src b sb w) (rc : RowAt c (.slice co c.length ccap) w) (na : a.length ≤ 9223372036854775807) (nb : b.length ≤ 9223372036854775807) (nc : c.length ≤ 9223372036854775807) (ia : Hid (∀ x ∈ a, x.inn)) (ib : Hid (∀ x ∈ b, x.inn)) (_ic : Hid (∀ x ∈ c, x.inn)) (l1 : Hid (Ky.lightB a = true)) (l2 : Hid (Ky.lightB b = true)) (l3 : Hid (Ky.lightB c = true)) (r1 : Hid (Ky.isK a = true)) (r2 : Hid (Ky.isK b = false)) (fl : ¬ (8 : Int) < (a.length : Int) + b.length) : Calls Tryd.prog 8 #[sa, sb, .slice co c.length ccap] w fun e w' => e = .returned (.bool true) ∧ Below w.heap.size w w' := by
  have HM0 := Lib.hid hm
  have RA0 := Lib.hid ra
  have RB0 := Lib.hid rb
  have RC0 := Lib.hid rc
  have NA := Lib.hid na
  have NB := Lib.hid nb
  have NC := Lib.hid nc
  obtain ⟨nC, hnC⟩ : ∃ n, n = c.length := ⟨_, rfl⟩
  have HNC := Lib.hid hnC
  rw [← hnC] at RC0 ⊢
  clear hm ra rb rc na nb nc hnC
  have ha := Ky.light_len l1.out
  have hb := Ky.light_len l2.out
  have FLA := fl
  clear fl
  obtain ⟨ao, acap, rfl⟩ : ∃ ao acap, sa = .slice ao a.length acap := by
    obtain ⟨x, y, he, _⟩ := RA0.out.1
    exact ⟨x, y, he⟩
  obtain ⟨bo, bcap, rfl⟩ : ∃ bo bcap, sb = .slice bo b.length bcap := by
    obtain ⟨x, y, he, _⟩ := RB0.out.1
    exact ⟨x, y, he⟩
  obtain ⟨nA, hnA⟩ : ∃ n, n = a.length := ⟨_, rfl⟩
  obtain ⟨nB, hnB⟩ : ∃ n, n = b.length := ⟨_, rfl⟩
  have HNA := Lib.hid hnA
  have HNB := Lib.hid hnB
  rw [← hnA] at RA0 FLA ha ⊢
  rw [← hnB] at RB0 FLA hb ⊢
  clear hnA hnB
  go_enter Tryd.func8, Tryd.ntmps8
  go_wp2_with fail
  refine (Ky.light_is l1.out NA.out _ RA0.out.1).mono ?_
  rintro e w1 ⟨rfl, hb⟩
  have HM1 := Lib.hid (HM0.out.later hb)
  have RA1 := Lib.hid (RA0.out.later hb)
  have RB1 := Lib.hid (RB0.out.later hb)
  have RC1 := Lib.hid (RC0.out.later hb)
  have HB1 := Lib.hid hb
  clear hb HM0 RA0 RB0 RC0
  go_wp2_with fail
  refine (Ky.light_is l2.out NB.out _ RB1.out.1).mono ?_
  rintro e w2 ⟨rfl, hb⟩
  have HM2 := Lib.hid (HM1.out.later hb)
  have RA2 := Lib.hid (RA1.out.later hb)
  have RB2 := Lib.hid (RB1.out.later hb)
  have RC2 := Lib.hid (RC1.out.later hb)
  have HB2 := Lib.hid (HB1.out.trans (hb.mono HB1.out.size))
  clear hb HM1 RA1 RB1 RC1 HB1
  go_wp2_with fail
  refine (Ky.light_is l3.out NC.out _ RC2.out).mono ?_
  rintro e w3 ⟨rfl, hb⟩
  have HM3 := Lib.hid (HM2.out.later hb)
  have RA3 := Lib.hid (RA2.out.later hb)
  have RB3 := Lib.hid (RB2.out.later hb)
  have RC3 := Lib.hid (RC2.out.later hb)
  have HB3 := Lib.hid (HB2.out.trans (hb.mono HB2.out.size))
  clear hb HM2 RA2 RB2 RC2 HB2
  go_wp2_with fail
  refine (Ky.right_is r1.out l1.out ia.out _ RA3.out.1).mono ?_
  rintro e w4 ⟨rfl, hb⟩
  have HM4 := Lib.hid (HM3.out.later hb)
  have RA4 := Lib.hid (RA3.out.later hb)
  have RB4 := Lib.hid (RB3.out.later hb)
  have RC4 := Lib.hid (RC3.out.later hb)
  have HB4 := Lib.hid (HB3.out.trans (hb.mono HB3.out.size))
  clear hb HM3 RA3 RB3 RC3 HB3
  go_wp2_with fail
  refine (Ky.right_is r2.out l2.out ib.out _ RB4.out.1).mono ?_
  rintro e w5 ⟨rfl, hb⟩
  have HM5 := Lib.hid (HM4.out.later hb)
  have RA5 := Lib.hid (RA4.out.later hb)
  have RB5 := Lib.hid (RB4.out.later hb)
  have RC5 := Lib.hid (RC4.out.later hb)
  have HB5 := Lib.hid (HB4.out.trans (hb.mono HB4.out.size))
  clear hb HM4 RA4 RB4 RC4 HB4
  go_wp2_with fail
  refine (Ky.known_any _ HM5.out).mono ?_
  rintro e w6 ⟨rfl, hb⟩
  have HM6 := Lib.hid (HM5.out.later hb)
  have RA6 := Lib.hid (RA5.out.later hb)
  have RB6 := Lib.hid (RB5.out.later hb)
  have RC6 := Lib.hid (RC5.out.later hb)
  have HB6 := Lib.hid (HB5.out.trans (hb.mono HB5.out.size))
  clear hb HM5 RA5 RB5 RC5 HB5
  go_wp2_with fail
  go_ret
  exact ⟨rfl, HB6.out⟩
set_option maxHeartbeats 4000000 in
set_option maxRecDepth 100000 in
theorem p6 (a b c : List V) (sa sb : Value) (co : Option Addr) (ccap : Nat) (w : World) (hm : Ky.ML w) (ra : Ky.Src a sa w) (rb : Ky.Src b sb w) (rc : RowAt c (.slice co c.length ccap) w) (na : a.length ≤ 9223372036854775807) (nb : b.length ≤ 9223372036854775807) (nc : c.length ≤ 9223372036854775807) (ia : Hid (∀ x ∈ a, x.inn)) (ib : Hid (∀ x ∈ b, x.inn)) (ic : Hid (∀ x ∈ c, x.inn)) (l1 : Hid (Ky.lightB a = true)) (l2 : Hid (Ky.lightB b = true)) (l3 : Hid (Ky.lightB c = true)) (r1 : Hid (Ky.isK a = true)) (r2 : Hid (Ky.isK b = true)) (r3 : Hid (Ky.isK c = false)) (fl : ¬ (8 : Int) < (a.length : Int) + b.length) : Calls Tryd.prog 8 #[sa, sb, .slice co c.length ccap] w fun e w' => e = .returned (.bool true) ∧ Below w.heap.size w w' := by
  have HM0 := Lib.hid hm
  have RA0 := Lib.hid ra
  have RB0 := Lib.hid rb
  have RC0 := Lib.hid rc
  have NA := Lib.hid na
  have NB := Lib.hid nb
  have NC := Lib.hid nc
  obtain ⟨nC, hnC⟩ : ∃ n, n = c.length := ⟨_, rfl⟩
  have HNC := Lib.hid hnC
  rw [← hnC] at RC0 ⊢
  clear hm ra rb rc na nb nc hnC
  have ha := Ky.light_len l1.out
  have hb := Ky.light_len l2.out
  have FLA := fl
  clear fl
  obtain ⟨ao, acap, rfl⟩ : ∃ ao acap, sa = .slice ao a.length acap := by
    obtain ⟨x, y, he, _⟩ := RA0.out.1
    exact ⟨x, y, he⟩
  obtain ⟨bo, bcap, rfl⟩ : ∃ bo bcap, sb = .slice bo b.length bcap := by
    obtain ⟨x, y, he, _⟩ := RB0.out.1
    exact ⟨x, y, he⟩
  obtain ⟨nA, hnA⟩ : ∃ n, n = a.length := ⟨_, rfl⟩
  obtain ⟨nB, hnB⟩ : ∃ n, n = b.length := ⟨_, rfl⟩
  have HNA := Lib.hid hnA
  have HNB := Lib.hid hnB
  rw [← hnA] at RA0 FLA ha ⊢
  rw [← hnB] at RB0 FLA hb ⊢
  clear hnA hnB
  go_enter Tryd.func8, Tryd.ntmps8
  go_wp2_with fail
  refine (Ky.light_is l1.out NA.out _ RA0.out.1).mono ?_
  rintro e w1 ⟨rfl, hb⟩
  have HM1 := Lib.hid (HM0.out.later hb)
  have RA1 := Lib.hid (RA0.out.later hb)
  have RB1 := Lib.hid (RB0.out.later hb)
  have RC1 := Lib.hid (RC0.out.later hb)
  have HB1 := Lib.hid hb
  clear hb HM0 RA0 RB0 RC0
  go_wp2_with fail
  refine (Ky.light_is l2.out NB.out _ RB1.out.1).mono ?_
  rintro e w2 ⟨rfl, hb⟩
  have HM2 := Lib.hid (HM1.out.later hb)
  have RA2 := Lib.hid (RA1.out.later hb)
  have RB2 := Lib.hid (RB1.out.later hb)
  have RC2 := Lib.hid (RC1.out.later hb)
  have HB2 := Lib.hid (HB1.out.trans (hb.mono HB1.out.size))
  clear hb HM1 RA1 RB1 RC1 HB1
  go_wp2_with fail
  refine (Ky.light_is l3.out NC.out _ RC2.out).mono ?_
  rintro e w3 ⟨rfl, hb⟩
  have HM3 := Lib.hid (HM2.out.later hb)
  have RA3 := Lib.hid (RA2.out.later hb)
  have RB3 := Lib.hid (RB2.out.later hb)
  have RC3 := Lib.hid (RC2.out.later hb)
  have HB3 := Lib.hid (HB2.out.trans (hb.mono HB2.out.size))
  clear hb HM2 RA2 RB2 RC2 HB2
  go_wp2_with fail
  refine (Ky.right_is r1.out l1.out ia.out _ RA3.out.1).mono ?_
  rintro e w4 ⟨rfl, hb⟩
  have HM4 := Lib.hid (HM3.out.later hb)
  have RA4 := Lib.hid (RA3.out.later hb)
  have RB4 := Lib.hid (RB3.out.later hb)
  have RC4 := Lib.hid (RC3.out.later hb)
  have HB4 := Lib.hid (HB3.out.trans (hb.mono HB3.out.size))
  clear hb HM3 RA3 RB3 RC3 HB3
  go_wp2_with fail
  refine (Ky.right_is r2.out l2.out ib.out _ RB4.out.1).mono ?_
  rintro e w5 ⟨rfl, hb⟩
  have HM5 := Lib.hid (HM4.out.later hb)
  have RA5 := Lib.hid (RA4.out.later hb)
  have RB5 := Lib.hid (RB4.out.later hb)
  have RC5 := Lib.hid (RC4.out.later hb)
  have HB5 := Lib.hid (HB4.out.trans (hb.mono HB4.out.size))
  clear hb HM4 RA4 RB4 RC4 HB4
  go_wp2_with fail
  refine (Ky.right_is r3.out l3.out ic.out _ RC5.out).mono ?_
  rintro e w6 ⟨rfl, hb⟩
  have HM6 := Lib.hid (HM5.out.later hb)
  have RA6 := Lib.hid (RA5.out.later hb)
  have RB6 := Lib.hid (RB5.out.later hb)
  have RC6 := Lib.hid (RC5.out.later hb)
  have HB6 := Lib.hid (HB5.out.trans (hb.mono HB5.out.size))
  clear hb HM5 RA5 RB5 RC5 HB5
  go_wp2_with fail
  refine (Ky.known_any _ HM6.out).mono ?_
  rintro e w7 ⟨rfl, hb⟩
  have HM7 := Lib.hid (HM6.out.later hb)
  have RA7 := Lib.hid (RA6.out.later hb)
  have RB7 := Lib.hid (RB6.out.later hb)
  have RC7 := Lib.hid (RC6.out.later hb)
  have HB7 := Lib.hid (HB6.out.trans (hb.mono HB6.out.size))
  clear hb HM6 RA6 RB6 RC6 HB6
  go_wp2_with fail
  go_ret
  exact ⟨rfl, HB7.out⟩
set_option maxHeartbeats 4000000 in
set_option maxRecDepth 100000 in
theorem m1 (a b c : List V) (sa sb : Value) (co : Option Addr) (ccap : Nat) (w : World) (hm : Ky.ML w) (ra : Ky.Src a sa w) (rb : Ky.Src b sb w) (rc : RowAt c (.slice co c.length ccap) w) (na : a.length ≤ 9223372036854775807) (nb : b.length ≤ 9223372036854775807) (nc : c.length ≤ 9223372036854775807) (ia : Hid (∀ x ∈ a, x.inn)) (ib : Hid (∀ x ∈ b, x.inn)) (ic : Hid (∀ x ∈ c, x.inn)) (l1 : Hid (Ky.lightB a = true)) (l2 : Hid (Ky.lightB b = true)) (l3 : Hid (Ky.lightB c = true)) (r1 : Hid (Ky.isK a = true)) (r2 : Hid (Ky.isK b = true)) (r3 : Hid (Ky.isK c = true)) (fl : ¬ (8 : Int) < (a.length : Int) + b.length) (c0 c1 : Int) (hp1 : Hid (Ky.preB a (a ++ b) = true)) (hc0 : Hid (Ky.cmpKk a (a ++ b) = c0)) (f0 : ¬ (0 : Int) < c0) (hc1 : Hid (Ky.cmpKk a c = c1)) (f1 : ¬ c1 ≤ (0 : Int)) : Calls Tryd.prog 8 #[sa, sb, .slice co c.length ccap] w fun e w' => e = .returned (.bool true) ∧ Below w.heap.size w w' := by
  have HM0 := Lib.hid hm
  have RA0 := Lib.hid ra
  have RB0 := Lib.hid rb
  have RC0 := Lib.hid rc
  have NA := Lib.hid na
  have NB := Lib.hid nb
  have NC := Lib.hid nc
  obtain ⟨nC, hnC⟩ : ∃ n, n = c.length := ⟨_, rfl⟩
  have HNC := Lib.hid hnC
  rw [← hnC] at RC0 ⊢
  clear hm ra rb rc na nb nc hnC
  have hcl := Ky.light_len l3.out
  have ha := Ky.light_len l1.out
  have hb := Ky.light_len l2.out
  have FLA := fl
  clear fl
  obtain ⟨ao, acap, rfl⟩ : ∃ ao acap, sa = .slice ao a.length acap := by
    obtain ⟨x, y, he, _⟩ := RA0.out.1
    exact ⟨x, y, he⟩
  obtain ⟨bo, bcap, rfl⟩ : ∃ bo bcap, sb = .slice bo b.length bcap := by
    obtain ⟨x, y, he, _⟩ := RB0.out.1
    exact ⟨x, y, he⟩
  obtain ⟨nA, hnA⟩ : ∃ n, n = a.length := ⟨_, rfl⟩
  obtain ⟨nB, hnB⟩ : ∃ n, n = b.length := ⟨_, rfl⟩
  have HNA := Lib.hid hnA
  have HNB := Lib.hid hnB
  rw [← hnA] at RA0 FLA ha ⊢
  rw [← hnB] at RB0 FLA hb ⊢
  clear hnA hnB
  obtain ⟨i0, hi, hz0, hz1, hz2⟩ : ∃ i, Tryd.prog.info? 25 = some i ∧ i.zero = some (.agg #[.int .i64 0, .int .i64 0, .int .u64 0, .string ⟨#[]⟩]) ∧ i.size = 4 ∧ i.bytes = 40 := by
    have h := infoV
    cases hi : Tryd.prog.info? 25 with
    | none => rw [hi] at h; cases h
    | some i => rw [hi] at h; simp only [Option.map_some, Option.some.injEq, Prod.mk.injEq] at h; exact ⟨i, rfl, h.1, h.2.1, h.2.2⟩
  go_enter Tryd.func8, Tryd.ntmps8
  go_wp2_with fail
  refine (Ky.light_is l1.out NA.out _ RA0.out.1).mono ?_
  rintro e w1 ⟨rfl, hb⟩
  have HM1 := Lib.hid (HM0.out.later hb)
  have RA1 := Lib.hid (RA0.out.later hb)
  have RB1 := Lib.hid (RB0.out.later hb)
  have RC1 := Lib.hid (RC0.out.later hb)
  have HB1 := Lib.hid hb
  clear hb HM0 RA0 RB0 RC0
  go_wp2_with fail
  refine (Ky.light_is l2.out NB.out _ RB1.out.1).mono ?_
  rintro e w2 ⟨rfl, hb⟩
  have HM2 := Lib.hid (HM1.out.later hb)
  have RA2 := Lib.hid (RA1.out.later hb)
  have RB2 := Lib.hid (RB1.out.later hb)
  have RC2 := Lib.hid (RC1.out.later hb)
  have HB2 := Lib.hid (HB1.out.trans (hb.mono HB1.out.size))
  clear hb HM1 RA1 RB1 RC1 HB1
  go_wp2_with fail
  refine (Ky.light_is l3.out NC.out _ RC2.out).mono ?_
  rintro e w3 ⟨rfl, hb⟩
  have HM3 := Lib.hid (HM2.out.later hb)
  have RA3 := Lib.hid (RA2.out.later hb)
  have RB3 := Lib.hid (RB2.out.later hb)
  have RC3 := Lib.hid (RC2.out.later hb)
  have HB3 := Lib.hid (HB2.out.trans (hb.mono HB2.out.size))
  clear hb HM2 RA2 RB2 RC2 HB2
  go_wp2_with fail
  refine (Ky.right_is r1.out l1.out ia.out _ RA3.out.1).mono ?_
  rintro e w4 ⟨rfl, hb⟩
  have HM4 := Lib.hid (HM3.out.later hb)
  have RA4 := Lib.hid (RA3.out.later hb)
  have RB4 := Lib.hid (RB3.out.later hb)
  have RC4 := Lib.hid (RC3.out.later hb)
  have HB4 := Lib.hid (HB3.out.trans (hb.mono HB3.out.size))
  clear hb HM3 RA3 RB3 RC3 HB3
  go_wp2_with fail
  refine (Ky.right_is r2.out l2.out ib.out _ RB4.out.1).mono ?_
  rintro e w5 ⟨rfl, hb⟩
  have HM5 := Lib.hid (HM4.out.later hb)
  have RA5 := Lib.hid (RA4.out.later hb)
  have RB5 := Lib.hid (RB4.out.later hb)
  have RC5 := Lib.hid (RC4.out.later hb)
  have HB5 := Lib.hid (HB4.out.trans (hb.mono HB4.out.size))
  clear hb HM4 RA4 RB4 RC4 HB4
  go_wp2_with fail
  refine (Ky.right_is r3.out l3.out ic.out _ RC5.out).mono ?_
  rintro e w6 ⟨rfl, hb⟩
  have HM6 := Lib.hid (HM5.out.later hb)
  have RA6 := Lib.hid (RA5.out.later hb)
  have RB6 := Lib.hid (RB5.out.later hb)
  have RC6 := Lib.hid (RC5.out.later hb)
  have HB6 := Lib.hid (HB5.out.trans (hb.mono HB5.out.size))
  clear hb HM5 RA5 RB5 RC5 HB5
  have HO6 := Lib.hid (own_empty w6)
  have BA := Lib.hid ((Below.refl w6.heap.size w6).alloc (Nat.le_refl _) (.cells #[] 25))
  have SA := Lib.hid (RA6.out.later BA.out)
  have LA := Lib.hid (show ([] : List V).length + a.length ≤ 1000 by have := HNA.out; simp; omega)
  have LB := Lib.hid (show (([] : List V) ++ a).length + b.length ≤ 1000 by have := HNA.out; have := HNB.out; simp; omega)
  go_wp2_with (at_builtin; refine Ky.append_row rfl _ _ rfl w6.heap.size i0 hi hz0 hz1 hz2 _ [] rfl HO6.out a _ rfl SA.out LA.out (by simp) ?_)
  intro v7 w7 hown7 hgrow7
  have B7 := Lib.hid (BA.out.grown hgrow7 (by simp) (fun k hk => (World.ownsRow.lt HO6.out k hk).1))
  have HO7 := Lib.hid hown7
  have SB := Lib.hid (RB6.out.later B7.out)
  clear hown7 hgrow7
  go_wp2_with (at_builtin; refine Ky.append_row rfl _ _ rfl w6.heap.size i0 hi hz0 hz1 hz2 _ ([] ++ a) rfl HO7.out b _ rfl SB.out LB.out B7.out.size ?_)
  intro v8 w8 hown8 hgrow8
  have B8 := Lib.hid (B7.out.grown hgrow8 B7.out.size (fun k hk => (World.ownsRow.lt HO7.out k hk).1))
  replace hown8 : Ky.Own w6.heap.size (a ++ b) v8 w8 := hown8
  obtain ⟨wo, nW, wcap, rfl, hnW, hwc⟩ := own_shape hown8
  have HWC := Lib.hid hwc
  have HNW := Lib.hid hnW
  have RW8 := Lib.hid (RowAt.of_owns hown8 rfl)
  have hwl : (a ++ b).length ≤ 1000000 := by have := HNA.out; have := HNB.out; simp; omega
  have hal : a.length ≤ 1000000 := by have := HNA.out; omega
  have RA8 := Lib.hid (RA6.out.later B8.out)
  have RC8 := Lib.hid (RC6.out.later B8.out)
  have HM8 := Lib.hid (HM6.out.later B8.out)
  have HB8 := Lib.hid (HB6.out.trans (B8.out.mono HB6.out.size))
  clear hown8 hgrow8 hwc hnW B7 B8 BA SA SB HO6 HO7 LA LB RA6 RB6 RC6 HM6 HB6
  go_wp2_with fail
  refine (Ky.pre_is (v := true) hp1.out HNW.out HWC.out hal hwl _ RA8.out.1 RW8.out).mono ?_
  rintro e w9 ⟨rfl, hb⟩
  have HM9 := Lib.hid (HM8.out.later hb)
  have RA9 := Lib.hid (RA8.out.later hb)
  have RC9 := Lib.hid (RC8.out.later hb)
  have RW9 := Lib.hid (RW8.out.later hb)
  have HB9 := Lib.hid (HB8.out.trans (hb.mono HB8.out.size))
  clear hb HM8 RA8 RC8 RW8 HB8
  go_wp2_with fail
  refine (cmp_len hc0.out hal hwl _ RA9.out.1 RW9.out).mono ?_
  rintro e w10 ⟨rfl, hb⟩
  have HM10 := Lib.hid (HM9.out.later hb)
  have RA10 := Lib.hid (RA9.out.later hb)
  have RC10 := Lib.hid (RC9.out.later hb)
  have RW10 := Lib.hid (RW9.out.later hb)
  have HB10 := Lib.hid (HB9.out.trans (hb.mono HB9.out.size))
  clear hb HM9 RA9 RC9 RW9 HB9
  go_wp2_with fail
  refine (cmp_len hc1.out hal (by omega) _ RA10.out.1 RC10.out).mono ?_
  rintro e w11 ⟨rfl, hb⟩
  have HM11 := Lib.hid (HM10.out.later hb)
  have RA11 := Lib.hid (RA10.out.later hb)
  have RC11 := Lib.hid (RC10.out.later hb)
  have RW11 := Lib.hid (RW10.out.later hb)
  have HB11 := Lib.hid (HB10.out.trans (hb.mono HB10.out.size))
  clear hb HM10 RA10 RC10 RW10 HB10
  go_wp2_with fail
  refine (Ky.known_any _ HM11.out).mono ?_
  rintro e w12 ⟨rfl, hb⟩
  have HM12 := Lib.hid (HM11.out.later hb)
  have RA12 := Lib.hid (RA11.out.later hb)
  have RC12 := Lib.hid (RC11.out.later hb)
  have RW12 := Lib.hid (RW11.out.later hb)
  have HB12 := Lib.hid (HB11.out.trans (hb.mono HB11.out.size))
  clear hb HM11 RA11 RC11 RW11 HB11
  go_wp2_with fail
  go_ret
  exact ⟨rfl, HB12.out⟩
set_option maxHeartbeats 4000000 in
set_option maxRecDepth 100000 in
theorem m2 (a b c : List V) (sa sb : Value) (co : Option Addr) (ccap : Nat) (w : World) (hm : Ky.ML w) (ra : Ky.Src a sa w) (rb : Ky.Src b sb w) (rc : RowAt c (.slice co c.length ccap) w) (na : a.length ≤ 9223372036854775807) (nb : b.length ≤ 9223372036854775807) (nc : c.length ≤ 9223372036854775807) (ia : Hid (∀ x ∈ a, x.inn)) (ib : Hid (∀ x ∈ b, x.inn)) (ic : Hid (∀ x ∈ c, x.inn)) (l1 : Hid (Ky.lightB a = true)) (l2 : Hid (Ky.lightB b = true)) (l3 : Hid (Ky.lightB c = true)) (r1 : Hid (Ky.isK a = true)) (r2 : Hid (Ky.isK b = true)) (r3 : Hid (Ky.isK c = true)) (fl : ¬ (8 : Int) < (a.length : Int) + b.length) (c0 c1 c2 : Int) (hp1 : Hid (Ky.preB a (a ++ b) = true)) (hc0 : Hid (Ky.cmpKk a (a ++ b) = c0)) (f0 : ¬ (0 : Int) < c0) (hc1 : Hid (Ky.cmpKk a c = c1)) (f1 : c1 ≤ (0 : Int)) (hc2 : Hid (Ky.cmpKk c (a ++ b) = c2)) (f2 : ¬ c2 ≤ (0 : Int)) : Calls Tryd.prog 8 #[sa, sb, .slice co c.length ccap] w fun e w' => e = .returned (.bool true) ∧ Below w.heap.size w w' := by
  have HM0 := Lib.hid hm
  have RA0 := Lib.hid ra
  have RB0 := Lib.hid rb
  have RC0 := Lib.hid rc
  have NA := Lib.hid na
  have NB := Lib.hid nb
  have NC := Lib.hid nc
  obtain ⟨nC, hnC⟩ : ∃ n, n = c.length := ⟨_, rfl⟩
  have HNC := Lib.hid hnC
  rw [← hnC] at RC0 ⊢
  clear hm ra rb rc na nb nc hnC
  have hcl := Ky.light_len l3.out
  have ha := Ky.light_len l1.out
  have hb := Ky.light_len l2.out
  have FLA := fl
  clear fl
  obtain ⟨ao, acap, rfl⟩ : ∃ ao acap, sa = .slice ao a.length acap := by
    obtain ⟨x, y, he, _⟩ := RA0.out.1
    exact ⟨x, y, he⟩
  obtain ⟨bo, bcap, rfl⟩ : ∃ bo bcap, sb = .slice bo b.length bcap := by
    obtain ⟨x, y, he, _⟩ := RB0.out.1
    exact ⟨x, y, he⟩
  obtain ⟨nA, hnA⟩ : ∃ n, n = a.length := ⟨_, rfl⟩
  obtain ⟨nB, hnB⟩ : ∃ n, n = b.length := ⟨_, rfl⟩
  have HNA := Lib.hid hnA
  have HNB := Lib.hid hnB
  rw [← hnA] at RA0 FLA ha ⊢
  rw [← hnB] at RB0 FLA hb ⊢
  clear hnA hnB
  obtain ⟨i0, hi, hz0, hz1, hz2⟩ : ∃ i, Tryd.prog.info? 25 = some i ∧ i.zero = some (.agg #[.int .i64 0, .int .i64 0, .int .u64 0, .string ⟨#[]⟩]) ∧ i.size = 4 ∧ i.bytes = 40 := by
    have h := infoV
    cases hi : Tryd.prog.info? 25 with
    | none => rw [hi] at h; cases h
    | some i => rw [hi] at h; simp only [Option.map_some, Option.some.injEq, Prod.mk.injEq] at h; exact ⟨i, rfl, h.1, h.2.1, h.2.2⟩
  go_enter Tryd.func8, Tryd.ntmps8
  go_wp2_with fail
  refine (Ky.light_is l1.out NA.out _ RA0.out.1).mono ?_
  rintro e w1 ⟨rfl, hb⟩
  have HM1 := Lib.hid (HM0.out.later hb)
  have RA1 := Lib.hid (RA0.out.later hb)
  have RB1 := Lib.hid (RB0.out.later hb)
  have RC1 := Lib.hid (RC0.out.later hb)
  have HB1 := Lib.hid hb
  clear hb HM0 RA0 RB0 RC0
  go_wp2_with fail
  refine (Ky.light_is l2.out NB.out _ RB1.out.1).mono ?_
  rintro e w2 ⟨rfl, hb⟩
  have HM2 := Lib.hid (HM1.out.later hb)
  have RA2 := Lib.hid (RA1.out.later hb)
  have RB2 := Lib.hid (RB1.out.later hb)
  have RC2 := Lib.hid (RC1.out.later hb)
  have HB2 := Lib.hid (HB1.out.trans (hb.mono HB1.out.size))
  clear hb HM1 RA1 RB1 RC1 HB1
  go_wp2_with fail
  refine (Ky.light_is l3.out NC.out _ RC2.out).mono ?_
  rintro e w3 ⟨rfl, hb⟩
  have HM3 := Lib.hid (HM2.out.later hb)
  have RA3 := Lib.hid (RA2.out.later hb)
  have RB3 := Lib.hid (RB2.out.later hb)
  have RC3 := Lib.hid (RC2.out.later hb)
  have HB3 := Lib.hid (HB2.out.trans (hb.mono HB2.out.size))
  clear hb HM2 RA2 RB2 RC2 HB2
  go_wp2_with fail
  refine (Ky.right_is r1.out l1.out ia.out _ RA3.out.1).mono ?_
  rintro e w4 ⟨rfl, hb⟩
  have HM4 := Lib.hid (HM3.out.later hb)
  have RA4 := Lib.hid (RA3.out.later hb)
  have RB4 := Lib.hid (RB3.out.later hb)
  have RC4 := Lib.hid (RC3.out.later hb)
  have HB4 := Lib.hid (HB3.out.trans (hb.mono HB3.out.size))
  clear hb HM3 RA3 RB3 RC3 HB3
  go_wp2_with fail
  refine (Ky.right_is r2.out l2.out ib.out _ RB4.out.1).mono ?_
  rintro e w5 ⟨rfl, hb⟩
  have HM5 := Lib.hid (HM4.out.later hb)
  have RA5 := Lib.hid (RA4.out.later hb)
  have RB5 := Lib.hid (RB4.out.later hb)
  have RC5 := Lib.hid (RC4.out.later hb)
  have HB5 := Lib.hid (HB4.out.trans (hb.mono HB4.out.size))
  clear hb HM4 RA4 RB4 RC4 HB4
  go_wp2_with fail
  refine (Ky.right_is r3.out l3.out ic.out _ RC5.out).mono ?_
  rintro e w6 ⟨rfl, hb⟩
  have HM6 := Lib.hid (HM5.out.later hb)
  have RA6 := Lib.hid (RA5.out.later hb)
  have RB6 := Lib.hid (RB5.out.later hb)
  have RC6 := Lib.hid (RC5.out.later hb)
  have HB6 := Lib.hid (HB5.out.trans (hb.mono HB5.out.size))
  clear hb HM5 RA5 RB5 RC5 HB5
  have HO6 := Lib.hid (own_empty w6)
  have BA := Lib.hid ((Below.refl w6.heap.size w6).alloc (Nat.le_refl _) (.cells #[] 25))
  have SA := Lib.hid (RA6.out.later BA.out)
  have LA := Lib.hid (show ([] : List V).length + a.length ≤ 1000 by have := HNA.out; simp; omega)
  have LB := Lib.hid (show (([] : List V) ++ a).length + b.length ≤ 1000 by have := HNA.out; have := HNB.out; simp; omega)
  go_wp2_with (at_builtin; refine Ky.append_row rfl _ _ rfl w6.heap.size i0 hi hz0 hz1 hz2 _ [] rfl HO6.out a _ rfl SA.out LA.out (by simp) ?_)
  intro v7 w7 hown7 hgrow7
  have B7 := Lib.hid (BA.out.grown hgrow7 (by simp) (fun k hk => (World.ownsRow.lt HO6.out k hk).1))
  have HO7 := Lib.hid hown7
  have SB := Lib.hid (RB6.out.later B7.out)
  clear hown7 hgrow7
  go_wp2_with (at_builtin; refine Ky.append_row rfl _ _ rfl w6.heap.size i0 hi hz0 hz1 hz2 _ ([] ++ a) rfl HO7.out b _ rfl SB.out LB.out B7.out.size ?_)
  intro v8 w8 hown8 hgrow8
  have B8 := Lib.hid (B7.out.grown hgrow8 B7.out.size (fun k hk => (World.ownsRow.lt HO7.out k hk).1))
  replace hown8 : Ky.Own w6.heap.size (a ++ b) v8 w8 := hown8
  obtain ⟨wo, nW, wcap, rfl, hnW, hwc⟩ := own_shape hown8
  have HWC := Lib.hid hwc
  have HNW := Lib.hid hnW
  have RW8 := Lib.hid (RowAt.of_owns hown8 rfl)
  have hwl : (a ++ b).length ≤ 1000000 := by have := HNA.out; have := HNB.out; simp; omega
  have hal : a.length ≤ 1000000 := by have := HNA.out; omega
  have RA8 := Lib.hid (RA6.out.later B8.out)
  have RC8 := Lib.hid (RC6.out.later B8.out)
  have HM8 := Lib.hid (HM6.out.later B8.out)
  have HB8 := Lib.hid (HB6.out.trans (B8.out.mono HB6.out.size))
  clear hown8 hgrow8 hwc hnW B7 B8 BA SA SB HO6 HO7 LA LB RA6 RB6 RC6 HM6 HB6
  go_wp2_with fail
  refine (Ky.pre_is (v := true) hp1.out HNW.out HWC.out hal hwl _ RA8.out.1 RW8.out).mono ?_
  rintro e w9 ⟨rfl, hb⟩
  have HM9 := Lib.hid (HM8.out.later hb)
  have RA9 := Lib.hid (RA8.out.later hb)
  have RC9 := Lib.hid (RC8.out.later hb)
  have RW9 := Lib.hid (RW8.out.later hb)
  have HB9 := Lib.hid (HB8.out.trans (hb.mono HB8.out.size))
  clear hb HM8 RA8 RC8 RW8 HB8
  go_wp2_with fail
  refine (cmp_len hc0.out hal hwl _ RA9.out.1 RW9.out).mono ?_
  rintro e w10 ⟨rfl, hb⟩
  have HM10 := Lib.hid (HM9.out.later hb)
  have RA10 := Lib.hid (RA9.out.later hb)
  have RC10 := Lib.hid (RC9.out.later hb)
  have RW10 := Lib.hid (RW9.out.later hb)
  have HB10 := Lib.hid (HB9.out.trans (hb.mono HB9.out.size))
  clear hb HM9 RA9 RC9 RW9 HB9
  go_wp2_with fail
  refine (cmp_len hc1.out hal (by omega) _ RA10.out.1 RC10.out).mono ?_
  rintro e w11 ⟨rfl, hb⟩
  have HM11 := Lib.hid (HM10.out.later hb)
  have RA11 := Lib.hid (RA10.out.later hb)
  have RC11 := Lib.hid (RC10.out.later hb)
  have RW11 := Lib.hid (RW10.out.later hb)
  have HB11 := Lib.hid (HB10.out.trans (hb.mono HB10.out.size))
  clear hb HM10 RA10 RC10 RW10 HB10
  go_wp2_with fail
  refine (cmp_len hc2.out (by omega) hwl _ RC11.out RW11.out).mono ?_
  rintro e w12 ⟨rfl, hb⟩
  have HM12 := Lib.hid (HM11.out.later hb)
  have RA12 := Lib.hid (RA11.out.later hb)
  have RC12 := Lib.hid (RC11.out.later hb)
  have RW12 := Lib.hid (RW11.out.later hb)
  have HB12 := Lib.hid (HB11.out.trans (hb.mono HB11.out.size))
  clear hb HM11 RA11 RC11 RW11 HB11
  go_wp2_with fail
  refine (Ky.known_any _ HM12.out).mono ?_
  rintro e w13 ⟨rfl, hb⟩
  have HM13 := Lib.hid (HM12.out.later hb)
  have RA13 := Lib.hid (RA12.out.later hb)
  have RC13 := Lib.hid (RC12.out.later hb)
  have RW13 := Lib.hid (RW12.out.later hb)
  have HB13 := Lib.hid (HB12.out.trans (hb.mono HB12.out.size))
  clear hb HM12 RA12 RC12 RW12 HB12
  go_wp2_with fail
  go_ret
  exact ⟨rfl, HB13.out⟩
set_option maxHeartbeats 4000000 in
set_option maxRecDepth 100000 in
theorem m3 (a b c : List V) (sa sb : Value) (co : Option Addr) (ccap : Nat) (w : World) (hm : Ky.ML w) (ra : Ky.Src a sa w) (rb : Ky.Src b sb w) (rc : RowAt c (.slice co c.length ccap) w) (na : a.length ≤ 9223372036854775807) (nb : b.length ≤ 9223372036854775807) (nc : c.length ≤ 9223372036854775807) (ia : Hid (∀ x ∈ a, x.inn)) (ib : Hid (∀ x ∈ b, x.inn)) (ic : Hid (∀ x ∈ c, x.inn)) (l1 : Hid (Ky.lightB a = true)) (l2 : Hid (Ky.lightB b = true)) (l3 : Hid (Ky.lightB c = true)) (r1 : Hid (Ky.isK a = true)) (r2 : Hid (Ky.isK b = true)) (r3 : Hid (Ky.isK c = true)) (fl : ¬ (8 : Int) < (a.length : Int) + b.length) (c0 c1 c2 : Int) (hp1 : Hid (Ky.preB a (a ++ b) = true)) (hc0 : Hid (Ky.cmpKk a (a ++ b) = c0)) (f0 : ¬ (0 : Int) < c0) (hc1 : Hid (Ky.cmpKk a c = c1)) (f1 : c1 ≤ (0 : Int)) (hc2 : Hid (Ky.cmpKk c (a ++ b) = c2)) (f2 : c2 ≤ (0 : Int)) (hp2 : Hid (Ky.preB a c = true)) (HCC : Hid (c.length ≤ ccap)) : Calls Tryd.prog 8 #[sa, sb, .slice co c.length ccap] w fun e w' => e = .returned (.bool true) ∧ Below w.heap.size w w' := by
  have HM0 := Lib.hid hm
  have RA0 := Lib.hid ra
  have RB0 := Lib.hid rb
  have RC0 := Lib.hid rc
  have NA := Lib.hid na
  have NB := Lib.hid nb
  have NC := Lib.hid nc
  obtain ⟨nC, hnC⟩ : ∃ n, n = c.length := ⟨_, rfl⟩
  have HNC := Lib.hid hnC
  rw [← hnC] at RC0 ⊢
  clear hm ra rb rc na nb nc hnC
  have hcl := Ky.light_len l3.out
  have ha := Ky.light_len l1.out
  have hb := Ky.light_len l2.out
  have FLA := fl
  clear fl
  obtain ⟨ao, acap, rfl⟩ : ∃ ao acap, sa = .slice ao a.length acap := by
    obtain ⟨x, y, he, _⟩ := RA0.out.1
    exact ⟨x, y, he⟩
  obtain ⟨bo, bcap, rfl⟩ : ∃ bo bcap, sb = .slice bo b.length bcap := by
    obtain ⟨x, y, he, _⟩ := RB0.out.1
    exact ⟨x, y, he⟩
  obtain ⟨nA, hnA⟩ : ∃ n, n = a.length := ⟨_, rfl⟩
  obtain ⟨nB, hnB⟩ : ∃ n, n = b.length := ⟨_, rfl⟩
  have HNA := Lib.hid hnA
  have HNB := Lib.hid hnB
  rw [← hnA] at RA0 FLA ha ⊢
  rw [← hnB] at RB0 FLA hb ⊢
  clear hnA hnB
  obtain ⟨i0, hi, hz0, hz1, hz2⟩ : ∃ i, Tryd.prog.info? 25 = some i ∧ i.zero = some (.agg #[.int .i64 0, .int .i64 0, .int .u64 0, .string ⟨#[]⟩]) ∧ i.size = 4 ∧ i.bytes = 40 := by
    have h := infoV
    cases hi : Tryd.prog.info? 25 with
    | none => rw [hi] at h; cases h
    | some i => rw [hi] at h; simp only [Option.map_some, Option.some.injEq, Prod.mk.injEq] at h; exact ⟨i, rfl, h.1, h.2.1, h.2.2⟩
  go_enter Tryd.func8, Tryd.ntmps8
  go_wp2_with fail
  refine (Ky.light_is l1.out NA.out _ RA0.out.1).mono ?_
  rintro e w1 ⟨rfl, hb⟩
  have HM1 := Lib.hid (HM0.out.later hb)
  have RA1 := Lib.hid (RA0.out.later hb)
  have RB1 := Lib.hid (RB0.out.later hb)
  have RC1 := Lib.hid (RC0.out.later hb)
  have HB1 := Lib.hid hb
  clear hb HM0 RA0 RB0 RC0
  go_wp2_with fail
  refine (Ky.light_is l2.out NB.out _ RB1.out.1).mono ?_
  rintro e w2 ⟨rfl, hb⟩
  have HM2 := Lib.hid (HM1.out.later hb)
  have RA2 := Lib.hid (RA1.out.later hb)
  have RB2 := Lib.hid (RB1.out.later hb)
  have RC2 := Lib.hid (RC1.out.later hb)
  have HB2 := Lib.hid (HB1.out.trans (hb.mono HB1.out.size))
  clear hb HM1 RA1 RB1 RC1 HB1
  go_wp2_with fail
  refine (Ky.light_is l3.out NC.out _ RC2.out).mono ?_
  rintro e w3 ⟨rfl, hb⟩
  have HM3 := Lib.hid (HM2.out.later hb)
  have RA3 := Lib.hid (RA2.out.later hb)
  have RB3 := Lib.hid (RB2.out.later hb)
  have RC3 := Lib.hid (RC2.out.later hb)
  have HB3 := Lib.hid (HB2.out.trans (hb.mono HB2.out.size))
  clear hb HM2 RA2 RB2 RC2 HB2
  go_wp2_with fail
  refine (Ky.right_is r1.out l1.out ia.out _ RA3.out.1).mono ?_
  rintro e w4 ⟨rfl, hb⟩
  have HM4 := Lib.hid (HM3.out.later hb)
  have RA4 := Lib.hid (RA3.out.later hb)
  have RB4 := Lib.hid (RB3.out.later hb)
  have RC4 := Lib.hid (RC3.out.later hb)
  have HB4 := Lib.hid (HB3.out.trans (hb.mono HB3.out.size))
  clear hb HM3 RA3 RB3 RC3 HB3
  go_wp2_with fail
  refine (Ky.right_is r2.out l2.out ib.out _ RB4.out.1).mono ?_
  rintro e w5 ⟨rfl, hb⟩
  have HM5 := Lib.hid (HM4.out.later hb)
  have RA5 := Lib.hid (RA4.out.later hb)
  have RB5 := Lib.hid (RB4.out.later hb)
  have RC5 := Lib.hid (RC4.out.later hb)
  have HB5 := Lib.hid (HB4.out.trans (hb.mono HB4.out.size))
  clear hb HM4 RA4 RB4 RC4 HB4
  go_wp2_with fail
  refine (Ky.right_is r3.out l3.out ic.out _ RC5.out).mono ?_
  rintro e w6 ⟨rfl, hb⟩
  have HM6 := Lib.hid (HM5.out.later hb)
  have RA6 := Lib.hid (RA5.out.later hb)
  have RB6 := Lib.hid (RB5.out.later hb)
  have RC6 := Lib.hid (RC5.out.later hb)
  have HB6 := Lib.hid (HB5.out.trans (hb.mono HB5.out.size))
  clear hb HM5 RA5 RB5 RC5 HB5
  have HO6 := Lib.hid (own_empty w6)
  have BA := Lib.hid ((Below.refl w6.heap.size w6).alloc (Nat.le_refl _) (.cells #[] 25))
  have SA := Lib.hid (RA6.out.later BA.out)
  have LA := Lib.hid (show ([] : List V).length + a.length ≤ 1000 by have := HNA.out; simp; omega)
  have LB := Lib.hid (show (([] : List V) ++ a).length + b.length ≤ 1000 by have := HNA.out; have := HNB.out; simp; omega)
  go_wp2_with (at_builtin; refine Ky.append_row rfl _ _ rfl w6.heap.size i0 hi hz0 hz1 hz2 _ [] rfl HO6.out a _ rfl SA.out LA.out (by simp) ?_)
  intro v7 w7 hown7 hgrow7
  have B7 := Lib.hid (BA.out.grown hgrow7 (by simp) (fun k hk => (World.ownsRow.lt HO6.out k hk).1))
  have HO7 := Lib.hid hown7
  have SB := Lib.hid (RB6.out.later B7.out)
  clear hown7 hgrow7
  go_wp2_with (at_builtin; refine Ky.append_row rfl _ _ rfl w6.heap.size i0 hi hz0 hz1 hz2 _ ([] ++ a) rfl HO7.out b _ rfl SB.out LB.out B7.out.size ?_)
  intro v8 w8 hown8 hgrow8
  have B8 := Lib.hid (B7.out.grown hgrow8 B7.out.size (fun k hk => (World.ownsRow.lt HO7.out k hk).1))
  replace hown8 : Ky.Own w6.heap.size (a ++ b) v8 w8 := hown8
  obtain ⟨wo, nW, wcap, rfl, hnW, hwc⟩ := own_shape hown8
  have HWC := Lib.hid hwc
  have HNW := Lib.hid hnW
  have RW8 := Lib.hid (RowAt.of_owns hown8 rfl)
  have hwl : (a ++ b).length ≤ 1000000 := by have := HNA.out; have := HNB.out; simp; omega
  have hal : a.length ≤ 1000000 := by have := HNA.out; omega
  have RA8 := Lib.hid (RA6.out.later B8.out)
  have RC8 := Lib.hid (RC6.out.later B8.out)
  have HM8 := Lib.hid (HM6.out.later B8.out)
  have HB8 := Lib.hid (HB6.out.trans (B8.out.mono HB6.out.size))
  clear hown8 hgrow8 hwc hnW B7 B8 BA SA SB HO6 HO7 LA LB RA6 RB6 RC6 HM6 HB6
  go_wp2_with fail
  refine (Ky.pre_is (v := true) hp1.out HNW.out HWC.out hal hwl _ RA8.out.1 RW8.out).mono ?_
  rintro e w9 ⟨rfl, hb⟩
  have HM9 := Lib.hid (HM8.out.later hb)
  have RA9 := Lib.hid (RA8.out.later hb)
  have RC9 := Lib.hid (RC8.out.later hb)
  have RW9 := Lib.hid (RW8.out.later hb)
  have HB9 := Lib.hid (HB8.out.trans (hb.mono HB8.out.size))
  clear hb HM8 RA8 RC8 RW8 HB8
  go_wp2_with fail
  refine (cmp_len hc0.out hal hwl _ RA9.out.1 RW9.out).mono ?_
  rintro e w10 ⟨rfl, hb⟩
  have HM10 := Lib.hid (HM9.out.later hb)
  have RA10 := Lib.hid (RA9.out.later hb)
  have RC10 := Lib.hid (RC9.out.later hb)
  have RW10 := Lib.hid (RW9.out.later hb)
  have HB10 := Lib.hid (HB9.out.trans (hb.mono HB9.out.size))
  clear hb HM9 RA9 RC9 RW9 HB9
  go_wp2_with fail
  refine (cmp_len hc1.out hal (by omega) _ RA10.out.1 RC10.out).mono ?_
  rintro e w11 ⟨rfl, hb⟩
  have HM11 := Lib.hid (HM10.out.later hb)
  have RA11 := Lib.hid (RA10.out.later hb)
  have RC11 := Lib.hid (RC10.out.later hb)
  have RW11 := Lib.hid (RW10.out.later hb)
  have HB11 := Lib.hid (HB10.out.trans (hb.mono HB10.out.size))
  clear hb HM10 RA10 RC10 RW10 HB10
  go_wp2_with fail
  refine (cmp_len hc2.out (by omega) hwl _ RC11.out RW11.out).mono ?_
  rintro e w12 ⟨rfl, hb⟩
  have HM12 := Lib.hid (HM11.out.later hb)
  have RA12 := Lib.hid (RA11.out.later hb)
  have RC12 := Lib.hid (RC11.out.later hb)
  have RW12 := Lib.hid (RW11.out.later hb)
  have HB12 := Lib.hid (HB11.out.trans (hb.mono HB11.out.size))
  clear hb HM11 RA11 RC11 RW11 HB11
  go_wp2_with fail
  refine (Ky.pre_is (v := true) hp2.out HNC.out (by have := HCC.out; have := HNC.out; omega) hal (by omega) _ RA12.out.1 RC12.out).mono ?_
  rintro e w13 ⟨rfl, hb⟩
  have HM13 := Lib.hid (HM12.out.later hb)
  have RA13 := Lib.hid (RA12.out.later hb)
  have RC13 := Lib.hid (RC12.out.later hb)
  have RW13 := Lib.hid (RW12.out.later hb)
  have HB13 := Lib.hid (HB12.out.trans (hb.mono HB12.out.size))
  clear hb HM12 RA12 RC12 RW12 HB12
  go_wp2_with fail
  refine (Ky.known_any _ HM13.out).mono ?_
  rintro e w14 ⟨rfl, hb⟩
  have HM14 := Lib.hid (HM13.out.later hb)
  have RA14 := Lib.hid (RA13.out.later hb)
  have RC14 := Lib.hid (RC13.out.later hb)
  have RW14 := Lib.hid (RW13.out.later hb)
  have HB14 := Lib.hid (HB13.out.trans (hb.mono HB13.out.size))
  clear hb HM13 RA13 RC13 RW13 HB13
  go_wp2_with fail
  go_ret
  exact ⟨rfl, HB14.out⟩
theorem law_any (a b c : List V) (sa sb : Value) (co : Option Addr) (ccap : Nat) (w : World) (hm : Ky.ML w) (ra : Ky.Src a sa w) (rb : Ky.Src b sb w) (rc : RowAt c (.slice co c.length ccap) w) (hcc : c.length ≤ ccap) (na : a.length ≤ 9223372036854775807) (nb : b.length ≤ 9223372036854775807) (nc : c.length ≤ 9223372036854775807) (ia : ∀ x ∈ a, x.inn) (ib : ∀ x ∈ b, x.inn) (ic : ∀ x ∈ c, x.inn) : Calls Tryd.prog 8 #[sa, sb, .slice co c.length ccap] w fun e w' => e = .returned (.bool true) ∧ Below w.heap.size w w' := by
  rcases l1 : Ky.lightB a with _ | _
  · exact p0 a b c sa sb co ccap w hm ra rb rc na nb nc (Lib.hid ia) (Lib.hid ib) (Lib.hid ic) (Lib.hid l1)
  rcases l2 : Ky.lightB b with _ | _
  · exact p1 a b c sa sb co ccap w hm ra rb rc na nb nc (Lib.hid ia) (Lib.hid ib) (Lib.hid ic) (Lib.hid l1) (Lib.hid l2)
  rcases l3 : Ky.lightB c with _ | _
  · exact p2 a b c sa sb co ccap w hm ra rb rc na nb nc (Lib.hid ia) (Lib.hid ib) (Lib.hid ic) (Lib.hid l1) (Lib.hid l2) (Lib.hid l3)
  by_cases fl : (8 : Int) < (a.length : Int) + b.length
  · exact p3 a b c sa sb co ccap w hm ra rb rc na nb nc (Lib.hid ia) (Lib.hid ib) (Lib.hid ic) (Lib.hid l1) (Lib.hid l2) (Lib.hid l3) fl
  rcases r1 : Ky.isK a with _ | _
  · exact p4 a b c sa sb co ccap w hm ra rb rc na nb nc (Lib.hid ia) (Lib.hid ib) (Lib.hid ic) (Lib.hid l1) (Lib.hid l2) (Lib.hid l3) (Lib.hid r1) fl
  rcases r2 : Ky.isK b with _ | _
  · exact p5 a b c sa sb co ccap w hm ra rb rc na nb nc (Lib.hid ia) (Lib.hid ib) (Lib.hid ic) (Lib.hid l1) (Lib.hid l2) (Lib.hid l3) (Lib.hid r1) (Lib.hid r2) fl
  rcases r3 : Ky.isK c with _ | _
  · exact p6 a b c sa sb co ccap w hm ra rb rc na nb nc (Lib.hid ia) (Lib.hid ib) (Lib.hid ic) (Lib.hid l1) (Lib.hid l2) (Lib.hid l3) (Lib.hid r1) (Lib.hid r2) (Lib.hid r3) fl
  have ga : Ky.Good a := ⟨r1, ia⟩
  have gb : Ky.Good b := ⟨r2, ib⟩
  have gc : Ky.Good c := ⟨r3, ic⟩
  have gw := Ky.good_app ga gb (by omega)
  have e0 : Ky.cmpKk a (a ++ b) = Ky.cmpK a (a ++ b) := by unfold Ky.cmpKk; rw [if_pos ⟨ga.1, gw.1⟩]
  have e1 : Ky.cmpKk a c = Ky.cmpK a c := by unfold Ky.cmpKk; rw [if_pos ⟨ga.1, gc.1⟩]
  have e2 : Ky.cmpKk c (a ++ b) = Ky.cmpK c (a ++ b) := by unfold Ky.cmpKk; rw [if_pos ⟨gc.1, gw.1⟩]
  have k0 := Ky.cmpK_app a b ga.both
  have hall := List.all_eq_true.2 ga.right
  have hp1 : Ky.preB a (a ++ b) = true := by
    unfold Ky.preB
    rw [decide_eq_true (by simp), List.take_left, decide_eq_true rfl, hall]; rfl
  by_cases f1 : Ky.cmpKk a c ≤ 0
  · by_cases f2 : Ky.cmpKk c (a ++ b) ≤ 0
    · have hb := Ky.begins a c b ga.both gc.both (by omega) (by omega)
      have hp2 : Ky.preB a c = true := by
        unfold Ky.preB
        rw [decide_eq_true hb.1, decide_eq_true hb.2, hall]; rfl
      exact m3 a b c sa sb co ccap w hm ra rb rc na nb nc (Lib.hid ia) (Lib.hid ib) (Lib.hid ic) (Lib.hid l1) (Lib.hid l2) (Lib.hid l3) (Lib.hid r1) (Lib.hid r2) (Lib.hid r3) fl _ _ _ (Lib.hid hp1) (Lib.hid rfl) (by omega) (Lib.hid rfl) f1 (Lib.hid rfl) f2 (Lib.hid hp2) (Lib.hid hcc)
    · exact m2 a b c sa sb co ccap w hm ra rb rc na nb nc (Lib.hid ia) (Lib.hid ib) (Lib.hid ic) (Lib.hid l1) (Lib.hid l2) (Lib.hid l3) (Lib.hid r1) (Lib.hid r2) (Lib.hid r3) fl _ _ _ (Lib.hid hp1) (Lib.hid rfl) (by omega) (Lib.hid rfl) f1 (Lib.hid rfl) f2
  · exact m1 a b c sa sb co ccap w hm ra rb rc na nb nc (Lib.hid ia) (Lib.hid ib) (Lib.hid ic) (Lib.hid l1) (Lib.hid l2) (Lib.hid l3) (Lib.hid r1) (Lib.hid r2) (Lib.hid r3) fl _ _ (Lib.hid hp1) (Lib.hid rfl) (by omega) (Lib.hid rfl) f1
open Go.Deep in
set_option maxRecDepth 100000 in
theorem src_of {H : Type} {enc : TypeId × Value → H} {W : World} {base : Nat} {sp : Nat → Bool} {held : Bool} {v : Value} {d : DataW H} {p : List MemPlace} {r : Reach} {b0 : Nat} {vs : List V} (_hok : Value.okWide Tryd.prog W r b0 30 v) (h : DataW.Trod enc Tryd.prog W base sp held 30 v d p) (hr : RowAt vs v W) :
    (vs = [] ∧ v = .slice none 0 0) ∨ ∃ ad cap, v = .slice (some ad) vs.length cap := by
  obtain ⟨ao, cap, rfl, _⟩ := hr
  obtain ⟨fuel, hf⟩ := h
  rcases open_slice Tryd.underlying30 hf with ⟨hcs, _⟩ | ⟨a', len', cap', m, n, D, Pl, hcs, hb, hl2, _⟩
  · have hcs' : [Value.slice ao vs.length cap] = [.slice none 0 0] := hcs
    simp only [List.cons.injEq, Value.slice.injEq, and_true] at hcs'
    obtain ⟨rfl, h0, rfl⟩ := hcs'
    exact .inl ⟨List.eq_nil_of_length_eq_zero h0, by rw [h0]⟩
  · have hcs' : [Value.slice ao vs.length cap] = [.slice (some a') len' cap'] := hcs
    simp only [List.cons.injEq, Value.slice.injEq, and_true] at hcs'
    obtain ⟨rfl, _, rfl⟩ := hcs'
    exact .inr ⟨a', cap, rfl⟩
theorem laidOut : laidOutB Tryd.prog = true := by kernel_rfl
set_option maxRecDepth 100000 in
theorem contract (H : Type) (enc : TypeId × Value → H) (W : World) (base : Nat) (args : Array Value) (ds gs : List (DataW H)) (before : List MemPlace)
    (hval : ∀ (j : Nat) t v, Tryd.f8.params[j]? = some t → args[j]? = some v → Value.okWide Tryd.prog W .any base t v)
    (hW : DataW.Whole enc Tryd.prog Tryd.f8.params.toList Rows.keyBeginsSpec.vars false W args.toList ds gs before) (hml : Ky.ML W) :
    Calls Tryd.prog 8 args W fun e W' => ∃ v, e = .returned v ∧ Rows.keyBeginsSpec.post enc Tryd.prog Tryd.f8 false true false false W args v W' := by
  have hW' := hW
  obtain ⟨p, q, hA0, hV, rfl, hfz, hnd⟩ := hW
  have hA : DataW.TrodAll enc Tryd.prog W 0 (fun _ => true) true Tryd.f8.params.toList args.toList ds p := hA0
  rw [Tryd.params8] at hA hval
  obtain ⟨v0, vs0, d0, ds0, p0, q0, hargs, rfl, rfl, h0, r0⟩ := trodAll_cons hA
  obtain ⟨v1, vs1, d1, ds1, p1, q1, rfl, rfl, rfl, h1, r1⟩ := trodAll_cons r0
  obtain ⟨v2, vs2, d2, ds2, p2, q2, rfl, rfl, rfl, h2, r2⟩ := trodAll_cons r1
  obtain ⟨rfl, rfl, rfl⟩ := trodAll_nil r2
  obtain rfl : args = #[v0, v1, v2] := by cases args; simp_all
  obtain ⟨rfl, rfl⟩ := trodVars_none hV
  obtain ⟨a, hrowa, hina, hla, hca⟩ := Cod.open_vals2 (hval 0 30 v0 rfl rfl) h0
  obtain ⟨b, hrowb, hinb, hlb, hcb⟩ := Cod.open_vals2 (hval 1 30 v1 rfl rfl) h1
  obtain ⟨c, hrowc, hinc, hlc, hcc⟩ := Cod.open_vals2 (hval 2 30 v2 rfl rfl) h2
  clear hA0
  simp only [List.append_nil] at hW'
  have hlt0 : ∀ x ∈ p0, x.block < W.heap.size := fun x hx => hW'.lt x (by simp [hx])
  have hlt1 : ∀ x ∈ p1, x.block < W.heap.size := fun x hx => hW'.lt x (by simp [hx])
  have hlt2 : ∀ x ∈ p2, x.block < W.heap.size := fun x hx => hW'.lt x (by simp [hx])
  obtain ⟨co, ccap, rfl, hcc⟩ := hcc
  have sA : Ky.Src a v0 W := ⟨hrowa, src_of (hval 0 30 v0 rfl rfl) h0 hrowa⟩
  have sB : Ky.Src b v1 W := ⟨hrowb, src_of (hval 1 30 v1 rfl rfl) h1 hrowb⟩
  have walk := law_any a b c v0 v1 co ccap W hml sA sB hrowc hcc hla hlb hlc hina hinb hinc
  refine walk.mono fun e W' ⟨he, hg⟩ => ?_
  subst he
  refine ⟨_, rfl, Fr.post_made (pa := p0 ++ (p1 ++ p2)) (pv := []) hW' (fun _ _ _ => trodAll_cons_mk (shut_bool Tryd.underlying4 _) trodAll_mk0) (fun sp hsp => ?_) (fun _ _ => rfl) (by simp) hg (ok_one (by kernel_rfl) rfl (okWide_bool_mk Tryd.underlying4 _))⟩
  have g0 : DataW.Trod enc Tryd.prog W' 0 sp true 30 v0 d0 p0 := WideElems.Trod_stays laidOut (by kernel_rfl) (of_decide_eq_true (by kernel_rfl)) h0 (fun x hx => hg.same (hlt0 x hx)) (fun x hx => hsp x (by simp [hx]))
  have g1 : DataW.Trod enc Tryd.prog W' 0 sp true 30 v1 d1 p1 := WideElems.Trod_stays laidOut (by kernel_rfl) (of_decide_eq_true (by kernel_rfl)) h1 (fun x hx => hg.same (hlt1 x hx)) (fun x hx => hsp x (by simp [hx]))
  have g2 : DataW.Trod enc Tryd.prog W' 0 sp true 30 (.slice co c.length ccap) d2 p2 := WideElems.Trod_stays laidOut (by kernel_rfl) (of_decide_eq_true (by kernel_rfl)) h2 (fun x hx => hg.same (hlt2 x hx)) (fun x hx => hsp x (by simp [hx]))
  have hT : DataW.TrodAll enc Tryd.prog W' 0 sp true _ _ _ _ := trodAll_cons_mk g0 (trodAll_cons_mk g1 (trodAll_cons_mk g2 trodAll_mk0))
  simp only [List.append_nil] at hT ⊢
  exact hT
set_option maxRecDepth 100000 in
theorem reads (os : Os) {H : Type} (enc : TypeId × Value → H) : ∃ places, DataW.whole enc Tryd.prog ((World.laidAll Tryd.prog os Rows.keyBeginsRow.laid).forCall (fun _ _ => 0) ⟨#[], #[.slice none 0 0, .slice none 0 0, .slice none 0 0], []⟩).memory Tryd.f8.params.toList Rows.keyBeginsSpec.vars false (#[.slice none 0 0, .slice none 0 0, .slice none 0 0] : Array Value).toList 8 = some ([.nil, .nil, .nil], [], places) :=
  ⟨[], by kernel_rfl⟩
set_option maxRecDepth 100000 in
theorem lifted (os : Os) (started : os.Started) (H : Type) (enc : TypeId × Value → H) (F : Stop.Interp) :
    ReturnsInHanded {} Tryd.checked os 8 .any ((OpenSpec.ofChange Rows.keyBeginsSpec).preRow enc Tryd.prog Tryd.f8 Rows.keyBeginsRow.domain false Rows.keyBeginsRow.laid) (((OpenSpec.ofChange Rows.keyBeginsSpec).at F).post enc Tryd.prog Tryd.f8 false true false false) := by
  obtain ⟨places, hx⟩ := reads os enc
  refine returnsInHanded_of_row (C := Tryd.checked) (s := OpenSpec.ofChange Rows.keyBeginsSpec) Fr.own started (by kernel_rfl) Tryd.func8
    (Fr.wit (World.laidAll Tryd.prog os Rows.keyBeginsRow.laid) #[.slice none 0 0, .slice none 0 0, .slice none 0 0] (World.laidAll_os _ _ _) (World.shaped_of_ZipB (by kernel_rfl) (by kernel_rfl)) (by kernel_rfl)
      (OpenSpec.preRow_of_cond 8 hx (by kernel_rfl) (fun k hk => by cases hk) (by kernel_rfl) (laidMet_laidAll _ (by kernel_rfl) (by kernel_rfl)))) ?_
  intro W base args ds gs before hval hW _ _ _ _ hsh _
  exact contract H enc W base args ds gs before hval hW (Tryd.laysM143.s1_3 W hsh)
set_option maxRecDepth 100000 in
theorem said : Rows.KeyBeginsSaid :=
  OpenClaim.holds_of_cond 8 Tryd.f8 rfl rfl rfl rfl rfl rfl rfl ⟨rfl, rfl, rfl, rfl, rfl⟩ rfl rfl rfl rfl rfl (by kernel_rfl) Tryd.func8 (by kernel_rfl)
    (of_decide_eq_true (by kernel_rfl)) (by unfold Func.isWrapper; first | (rw [if_pos (by decide +kernel)]; kernel_rfl) | (rw [if_neg (by decide +kernel)]; exact ⟨rfl, rfl⟩))
    (fun os started H enc _ F => by rw [OpenClaim.pre_eq_preRow]; exact lifted os started H enc F)
set_option maxRecDepth 100000 in
theorem plain (f : FuncId) (fn : Func) (hf : Tryd.pinned.checked.prog.funcNamed "memoir/memoirlaw04.KeyBegins" = some f) (hfn : Tryd.pinned.checked.prog.funcs[f]? = some fn) :
    true = Tryd.pinned.checked.prog.looks [] ∧ ∀ (j : Nat) t, fn.params[j]? = some t → Tryd.pinned.checked.prog.wantsStandIn t = false := by
  obtain rfl : f = 8 := Option.some.inj ((show Tryd.prog.funcNamed "memoir/memoirlaw04.KeyBegins" = some 8 by kernel_rfl).symm.trans hf) |>.symm
  obtain rfl : fn = Tryd.f8 := (Option.some.inj (Tryd.func8.symm.trans hfn)).symm
  refine ⟨by kernel_rfl, fun j t ht => ?_⟩
  rw [Tryd.params8] at ht
  have hm := Array.mem_of_getElem? ht
  simp only [List.mem_toArray, List.mem_cons, List.not_mem_nil, or_false] at hm
  rcases hm with rfl | rfl | rfl
  all_goals first | exact (show Tryd.prog.wantsStandIn 9 = false by kernel_rfl) | exact (show Tryd.prog.wantsStandIn 30 = false by kernel_rfl)
set_option maxRecDepth 100000 in
theorem card : Rows.KeyBeginsCardSaid :=
  Claim7.holds_tied_plain_at .later [] _ _ _ _ said (fun _ h => by cases h) (by kernel_rfl) (fun _ h => by cases h) keyBegins_row_tie rfl ⟨rfl, rfl⟩ (by kernel_rfl) rfl plain (by kernel_rfl)
end LaKeyBegins
end Go.Proofs.YtppdebhcaodcnaaDoor
