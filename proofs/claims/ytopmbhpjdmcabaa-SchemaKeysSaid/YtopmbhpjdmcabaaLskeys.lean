/- SchemaKeys is proved: for every schema and every two rows the law returns true and its arguments read as they did. No other condition. -/
import Derived.Test.YtopmbhpjdmcabaaJx
import Derived.Test.YtopmbhpjdmcabaaJy
import Derived.Test.YtopmbhpjdmcabaaJz
import Derived.Test.YtopmbhpjdmcabaaJl
import Derived.WideKeyPair
namespace Go.Proofs.Ytopmbhpjdmcabaa
open Go.ChangeShapes Go.WideShapes Go.ChangeAt Go.RowKit
open Go.ChangeMaps (open_string shut_string)
namespace LaSchemaKeys
open Cod Sch
theorem lim_of {a : T} {r : List V} (h : lightB a r = true) : Lim a := by
  obtain ⟨h1, h2, _, h4, _⟩ := light_parts h
  exact ⟨by omega, fun c hc => by have := h4 c hc; omega, by omega⟩
theorem light_is {s : T} {r : List V} {b : Bool} (hb : lightB s r = b) (sl rl : Value) (hcn : s.cols.length ≤ 9223372036854775807) (hrn : r.length ≤ 9223372036854775807) (w : World) (h : ColsAt s.cols sl w) (hr : RowAt r rl w) :
    Calls Try.prog 8 #[.agg #[.string (S s.nm), sl, .int .i64 s.keys], rl] w fun e w' => e = .returned (.bool b) ∧ Below w.heap.size w w' := hb ▸ light_any s sl r rl hcn hrn w h hr
theorem key_not_nil {s : T} {r : List V} (h : fitsB s r = 0) {i : Nat} (hi : i < r.length) (hk : (i : Int) < s.keys) : (r[i].k == 0) = false := by
  obtain ⟨h1, h2, h3⟩ := fits_parts h
  have hc : i < s.cols.length := by omega
  have g := h3 i hi
  rw [holdAt_at hc hi] at g
  obtain ⟨c1, _, c3⟩ := right_col h1 hc
  have nd := c3 hk
  obtain ⟨_, k1, _⟩ := col_parts c1
  unfold holdsB at g
  rw [nd] at g
  simp only [Bool.and_eq_true, Bool.not_true, Bool.and_false, Bool.or_false, decide_eq_true_eq] at g
  rw [beq_eq_false_iff_ne]
  omega
theorem key_again {s : T} {r x : List V} {n : Nat} (hk : s.keys = n) (h : fitsB s x = 0) (hx : x.take n = r.take n) : keyB s x = r.take n := by
  unfold keyB; rw [if_pos h, hk]; exact hx
set_option maxHeartbeats 2500000 in
set_option maxRecDepth 100000 in
theorem skip_a (a : T) (ao : Option Addr) (ac : Nat) (r : List V) (ro : Option Addr) (rc : Nat) (o : List V) (oo : Option Addr) (oc : Nat) (na : a.inn) (nr : r.length ≤ 9223372036854775807) (no : o.length ≤ 9223372036854775807) (w : World) (h1 : ColsAt a.cols (.slice ao a.cols.length ac) w) (hr : RowC r (.slice ro r.length rc) w) (ho : RowC o (.slice oo o.length oc) w) (hl : lightB a r = false) : Calls Try.prog 3 #[.agg #[.string (S a.nm), .slice ao a.cols.length ac, .int .i64 a.keys], .slice ro r.length rc, .slice oo o.length oc] w fun e w' => e = .returned (.bool true) ∧ Below w.heap.size w w' := by
  have hla := hidm hl
  clear hl
  have HS0 := hidm (Boxed.start a ao ac w)
  have HA := hidm h1
  have HR := hidm hr
  have HO := hidm ho
  have NA := hidm na
  have NR := hidm nr
  have NO := hidm no
  clear h1 hr ho na nr no
  go_enter Try.func3, Try.ntmps3
  go_wp2_with fail
  refine (light_is hla.out (.slice ao a.cols.length ac) (.slice ro r.length rc) NA.out.n NR.out _ (HA.out.later HS0.out.below) (HR.out.later HS0.out.below).row).mono ?_
  rintro e w1 ⟨rfl, hb⟩
  have HS1 := hidm (HS0.out.then hb)
  clear hb
  go_wp2_with fail
  refine (known_any _).mono ?_
  rintro e wk ⟨rfl, hb⟩
  have HSK := hidm (HS1.out.then hb)
  clear hb
  go_wp2_with fail
  go_ret
  exact ⟨rfl, HSK.out.below⟩
set_option maxHeartbeats 2500000 in
set_option maxRecDepth 100000 in
theorem skip_b (a : T) (ao : Option Addr) (ac : Nat) (r : List V) (ro : Option Addr) (rc : Nat) (o : List V) (oo : Option Addr) (oc : Nat) (na : a.inn) (nr : r.length ≤ 9223372036854775807) (no : o.length ≤ 9223372036854775807) (w : World) (h1 : ColsAt a.cols (.slice ao a.cols.length ac) w) (hr : RowC r (.slice ro r.length rc) w) (ho : RowC o (.slice oo o.length oc) w) (hl : lightB a r = true) (hl2 : lightB a o = false) : Calls Try.prog 3 #[.agg #[.string (S a.nm), .slice ao a.cols.length ac, .int .i64 a.keys], .slice ro r.length rc, .slice oo o.length oc] w fun e w' => e = .returned (.bool true) ∧ Below w.heap.size w w' := by
  have hla := hidm hl
  have hlo := hidm hl2
  clear hl hl2
  have HS0 := hidm (Boxed.start a ao ac w)
  have HA := hidm h1
  have HR := hidm hr
  have HO := hidm ho
  have NA := hidm na
  have NR := hidm nr
  have NO := hidm no
  clear h1 hr ho na nr no
  go_enter Try.func3, Try.ntmps3
  go_wp2_with fail
  refine (light_is hla.out (.slice ao a.cols.length ac) (.slice ro r.length rc) NA.out.n NR.out _ (HA.out.later HS0.out.below) (HR.out.later HS0.out.below).row).mono ?_
  rintro e w1 ⟨rfl, hb⟩
  have HS1 := hidm (HS0.out.then hb)
  clear hb
  have c0 := HS1.out.c0
  have c1 := HS1.out.c1
  have c2 := HS1.out.c2
  go_wp2_with fail
  refine (light_is hlo.out (.slice ao a.cols.length ac) (.slice oo o.length oc) NA.out.n NO.out _ (HA.out.later HS1.out.below) (HO.out.later HS1.out.below).row).mono ?_
  rintro e w2 ⟨rfl, hb⟩
  have HS2 := hidm (HS1.out.then hb)
  clear hb
  clear c0 c1 c2
  go_wp2_with fail
  refine (known_any _).mono ?_
  rintro e wk ⟨rfl, hb⟩
  have HSK := hidm (HS2.out.then hb)
  clear hb
  go_wp2_with fail
  go_ret
  exact ⟨rfl, HSK.out.below⟩
set_option maxHeartbeats 2500000 in
set_option maxRecDepth 100000 in
theorem no_fit (a : T) (ao : Option Addr) (ac : Nat) (r : List V) (ro : Option Addr) (rc : Nat) (o : List V) (oo : Option Addr) (oc : Nat) (na : a.inn) (nr : r.length ≤ 9223372036854775807) (no : o.length ≤ 9223372036854775807) (w : World) (h1 : ColsAt a.cols (.slice ao a.cols.length ac) w) (hr : RowC r (.slice ro r.length rc) w) (ho : RowC o (.slice oo o.length oc) w) (hl : lightB a r = true) (hl2 : lightB a o = true) (hf : fitsB a r ≠ 0) : Calls Try.prog 3 #[.agg #[.string (S a.nm), .slice ao a.cols.length ac, .int .i64 a.keys], .slice ro r.length rc, .slice oo o.length oc] w fun e w' => e = .returned (.bool true) ∧ Below w.heap.size w w' := by
  have hla := hidm hl
  have hlo := hidm hl2
  have LM := hidm (lim_of hl)
  have HRN := hidm (show r.length ≤ 1000000 from by have := (light_parts hl).2.2.1; omega)
  have HRS := hidm (show ∀ v ∈ r, v.s.length ≤ 281474976710656 from fun v hv => by have := (light_parts hl).2.2.2.2 v hv; omega)
  have HON := hidm (show o.length ≤ 1000000 from by have := (light_parts hl2).2.2.1; omega)
  have HOS := hidm (show ∀ v ∈ o, v.s.length ≤ 281474976710656 from fun v hv => by have := (light_parts hl2).2.2.2.2 v hv; omega)
  obtain ⟨fx, hfx⟩ : ∃ q, fitsB a r = q := ⟨_, rfl⟩
  have HF := hidm hfx
  have f0 : (fx != 0) = true := by rw [hfx] at hf; simpa using hf
  have HKS := hidm (show keyB a r = [] from by unfold keyB; rw [if_neg hf])
  clear hl hl2 hf hfx
  have HS0 := hidm (Boxed.start a ao ac w)
  have HA := hidm h1
  have HR := hidm hr
  have HO := hidm ho
  have NA := hidm na
  have NR := hidm nr
  have NO := hidm no
  clear h1 hr ho na nr no
  go_enter Try.func3, Try.ntmps3
  go_wp2_with fail
  refine (light_is hla.out (.slice ao a.cols.length ac) (.slice ro r.length rc) NA.out.n NR.out _ (HA.out.later HS0.out.below) (HR.out.later HS0.out.below).row).mono ?_
  rintro e w1 ⟨rfl, hb⟩
  have HS1 := hidm (HS0.out.then hb)
  clear hb
  have c0 := HS1.out.c0
  have c1 := HS1.out.c1
  have c2 := HS1.out.c2
  go_wp2_with fail
  refine (light_is hlo.out (.slice ao a.cols.length ac) (.slice oo o.length oc) NA.out.n NO.out _ (HA.out.later HS1.out.below) (HO.out.later HS1.out.below).row).mono ?_
  rintro e w2 ⟨rfl, hb⟩
  have HS2 := hidm (HS1.out.then hb)
  clear hb
  clear c0 c1 c2
  have c0 := HS2.out.c0
  have c1 := HS2.out.c1
  have c2 := HS2.out.c2
  go_wp2_with fail
  have W1 := key_any a LM.out (.slice ao a.cols.length ac) r (.slice ro r.length rc) HRN.out HRS.out _ (HA.out.later HS2.out.below) (HR.out.later HS2.out.below)
  rw [HKS.out] at W1
  refine W1.mono ?_
  rintro e w3 ⟨vk, rfl, hv, hb⟩
  have HS3 := hidm (HS2.out.then hb)
  obtain ⟨ko, kc, hk2, _⟩ := hv.2
  simp only [List.length_nil] at hk2
  subst hk2
  clear hb hv W1 c0 c1 c2
  have c0 := HS3.out.c0
  have c1 := HS3.out.c1
  have c2 := HS3.out.c2
  go_wp2_with fail
  refine (fits_is HF.out LM.out (.slice ao a.cols.length ac) (.slice ro r.length rc) HRN.out _ (HA.out.later HS3.out.below) (HR.out.later HS3.out.below).row).mono ?_
  rintro e w4 ⟨rfl, hb⟩
  have HS4 := hidm (HS3.out.then hb)
  clear hb
  clear c0 c1 c2
  go_wp2_with fail
  refine (known_any _).mono ?_
  rintro e wk ⟨rfl, hb⟩
  have HSK := hidm (HS4.out.then hb)
  clear hb
  go_wp2_with fail
  go_ret
  exact ⟨rfl, HSK.out.below⟩
set_option maxHeartbeats 2500000 in
set_option maxRecDepth 100000 in
theorem main_any (a : T) (ao : Option Addr) (ac : Nat) (r : List V) (ro : Option Addr) (rc : Nat) (o : List V) (oo : Option Addr) (oc : Nat) (na : a.inn) (nr : r.length ≤ 9223372036854775807) (no : o.length ≤ 9223372036854775807) (w : World) (h1 : ColsAt a.cols (.slice ao a.cols.length ac) w) (hr : RowC r (.slice ro r.length rc) w) (ho : RowC o (.slice oo o.length oc) w) (hl : lightB a r = true) (hl2 : lightB a o = true) (hf : fitsB a r = 0) : Calls Try.prog 3 #[.agg #[.string (S a.nm), .slice ao a.cols.length ac, .int .i64 a.keys], .slice ro r.length rc, .slice oo o.length oc] w fun e w' => e = .returned (.bool true) ∧ Below w.heap.size w w' := by
  obtain ⟨i0, hi0, hz0, hz1, hz2⟩ := info_parts infoV
  have hla := hidm hl
  have hlo := hidm hl2
  have LM := hidm (lim_of hl)
  have HRN := hidm (show r.length ≤ 1000000 from by have := (light_parts hl).2.2.1; omega)
  have HRS := hidm (show ∀ v ∈ r, v.s.length ≤ 281474976710656 from fun v hv => by have := (light_parts hl).2.2.2.2 v hv; omega)
  have HON := hidm (show o.length ≤ 1000000 from by have := (light_parts hl2).2.2.1; omega)
  have HOS := hidm (show ∀ v ∈ o, v.s.length ≤ 281474976710656 from fun v hv => by have := (light_parts hl2).2.2.2.2 v hv; omega)
  have HF := hidm hf
  obtain ⟨n, hn⟩ : ∃ n : Nat, a.keys = n := ⟨a.keys.toNat, by have := fits_keys hf; omega⟩
  have KN := hidm hn
  have hn1 : 1 ≤ n := by have := fits_keys hf; omega
  have hn8 : n ≤ 8 := by have := fits_keys hf; omega
  have HNR := hidm (show n ≤ r.length from by have := fits_keys hf; omega)
  have HKS := hidm (show keyB a r = r.take n from by unfold keyB; rw [if_pos hf, hn]; rfl)
  have HLK := hidm (show (r.take n).length = n from by rw [List.length_take]; have := HNR.out; omega)
  clear hl hl2 hf hn
  have HS0 := hidm (Boxed.start a ao ac w)
  have HA := hidm h1
  have HR := hidm hr
  have HO := hidm ho
  have NA := hidm na
  have NR := hidm nr
  have NO := hidm no
  clear h1 hr ho na nr no
  go_enter Try.func3, Try.ntmps3
  go_wp2_with fail
  refine (light_is hla.out (.slice ao a.cols.length ac) (.slice ro r.length rc) NA.out.n NR.out _ (HA.out.later HS0.out.below) (HR.out.later HS0.out.below).row).mono ?_
  rintro e w1 ⟨rfl, hb⟩
  have HS1 := hidm (HS0.out.then hb)
  clear hb
  have c0 := HS1.out.c0
  have c1 := HS1.out.c1
  have c2 := HS1.out.c2
  go_wp2_with fail
  refine (light_is hlo.out (.slice ao a.cols.length ac) (.slice oo o.length oc) NA.out.n NO.out _ (HA.out.later HS1.out.below) (HO.out.later HS1.out.below).row).mono ?_
  rintro e w2 ⟨rfl, hb⟩
  have HS2 := hidm (HS1.out.then hb)
  clear hb
  clear c0 c1 c2
  have c0 := HS2.out.c0
  have c1 := HS2.out.c1
  have c2 := HS2.out.c2
  go_wp2_with fail
  have W1 := key_any a LM.out (.slice ao a.cols.length ac) r (.slice ro r.length rc) HRN.out HRS.out _ (HA.out.later HS2.out.below) (HR.out.later HS2.out.below)
  rw [HKS.out] at W1
  refine W1.mono ?_
  rintro e w3 ⟨vk, rfl, hv, hb⟩
  have HS3 := hidm (HS2.out.then hb)
  have HV3 := hidm hv
  obtain ⟨ko, kc, hk2, _⟩ := hv.2
  rw [HLK.out] at hk2
  subst hk2
  clear hb hv W1 c0 c1 c2
  have c0 := HS3.out.c0
  have c1 := HS3.out.c1
  have c2 := HS3.out.c2
  go_wp2_with fail
  refine (fits_is HF.out LM.out (.slice ao a.cols.length ac) (.slice ro r.length rc) HRN.out _ (HA.out.later HS3.out.below) (HR.out.later HS3.out.below).row).mono ?_
  rintro e w4 ⟨rfl, hb⟩
  have HS4 := hidm (HS3.out.then hb)
  have HV4 := hidm (HV3.out.later hb)
  have HR4 := hidm (HR.out.later HS4.out.below)
  have HO4 := hidm (HO.out.later HS4.out.below)
  clear hb c0 c1 c2
  go_wp2_with fail
  go_loopw [8] (fun ii wr => ∃ i : Nat, ii = .int .i64 i ∧ i ≤ n ∧ Hid (Boxed a ao ac w wr) ∧ Hid (Below w4.heap.size w4 wr)) (fun ii _ => (n - (intOf ii).toNat))
  case atStart => exact ⟨0, rfl, by omega, HS4, hidm (Below.refl _ _)⟩
  case round =>
    obtain ⟨i, rfl, hi, HB, HW⟩ := hrel
    rcases Nat.lt_or_ge i n with hlt | hge
    · have f1 : (i : Int) < n := by omega
      have hia : i < (r.take n).length := by rw [HLK.out]; exact hlt
      have hib : i < r.length := by have := HNR.out; omega
      obtain ⟨b1, o1, cp, he1, _, q0, q1, q2, q3⟩ := (HV4.out.later HW.out).1.at i hia
      simp only [Value.slice.injEq] at he1
      obtain ⟨rfl, -, rfl⟩ := he1
      obtain ⟨b2, o2, rp, he2, _, r0, r1, r2, r3⟩ := (HR4.out.later HW.out).1.at i hib
      simp only [Value.slice.injEq] at he2
      obtain ⟨rfl, -, rfl⟩ := he2
      rw [List.getElem_take] at q0 q1 q2 q3
      have f5 := key_not_nil HF.out hib (by rw [KN.out]; omega)
      have f6 : (i : Int) < r.length := by omega
      obtain ⟨x, hx⟩ : ∃ v, v = r[i] := ⟨_, rfl⟩
      rw [← hx] at q0 q1 q2 q3 r0 r1 r2 r3 f5
      have f4 : Val.eqV x.k x.n x.b (S x.s) x.k x.n x.b (S x.s) = true := (V.same_iff x x).2 rfl
      clear hx hia
      go_wp2_with fail
      go_quiet (fail)
      go_wp2_with fail
      go_roundw
      case rel => exact ⟨i + 1, by go_num, by omega, hidm (HB.out.then (below_drewN (Below.refl _ _) _)), hidm (below_drewN HW.out _)⟩
      case measure => simp [intOf]; omega
    · obtain rfl : i = n := by omega
      have f1 : ¬ (i : Int) < i := by omega
      have HV5 := hidm (HV4.out.later HW.out)
      have HLI := hidm (show (r.take i).length ≤ 1000000 from by rw [HLK.out]; omega)
      have HO5 := hidm (HO4.out.later HW.out)
      rcases HV5.out.src with ⟨hn1', hn2⟩ | ⟨ad, c2', hs, hsc, hcell⟩
      · have h := HLK.out
        rw [hn2] at h
        simp at h
        omega
      · rw [HLK.out] at hs
        simp only [Value.slice.injEq, true_and] at hs
        obtain ⟨rfl, rfl⟩ := hs
        have HCL := hidm hcell
        have hfl := hidm (show (flat (r.take i)).length = i * 4 from by rw [flat_len, HLK.out])
        have hsz := HB.out.size
        have hown := World.ownsRow_made (base := wr.heap.size) (e := 33) (size := 4) wr #[] 0 (Nat.le_refl _) (by unfold maxLen; omega) rfl
        have hlt2 := hown.lt
        have hba : Below wr.heap.size wr (wr.alloc (.cells #[] 33)) := (Below.refl _ _).alloc (Nat.le_refl _) _
        clear hcell hsc
        go_wp2_with (at_builtin; refine wpList_append_own _ rfl _ _ 25 rfl wr.heap.size 33 i0 (.agg #[.int .i64 0, .int .i64 0, .int .u64 0, .string ⟨#[]⟩]) 4 40 Try.underlying25 hi0 hz0 hz1 hz2 rfl (by decide) _ _ _ rfl hown ad i _ (flat (r.take i)) rfl hfl.out (fun j u hu => cell_later hba (HCL.out j u hu)) flat_one (by unfold maxLen; omega) (by omega) (by simp) ?_)
        intro v' w5 hown' hgrow _
        have hb5 : Below wr.heap.size wr w5 := hba.grown hgrow (by simp) (fun k hk => (hlt2 k hk).1)
        have HS5 := hidm (HB.out.then hb5)
        have HV6 := hidm (HV5.out.later hb5)
        have HO6 := hidm (HO5.out.later hb5)
        have hown5 : w5.ownsRow wr.heap.size 33 4 v' i (flat (r.take i)) := by simpa using hown'
        obtain ⟨vo, vc, hvv⟩ : ∃ so sc, v' = .slice so i sc := by
          rcases hown5.2 with ⟨hv, h0⟩ | ⟨g, cap, cur, hv, _⟩
          · exact absurd h0 (by omega)
          · exact ⟨_, _, hv⟩
        subst hvv
        have HOW := hidm hown5
        have HB5 := hidm hb5
        have hz5 : wr.heap.size ≤ w5.heap.size := hb5.size
        clear hown hown' hown5 hgrow hlt2 hb5 hba hsz
        rcases Nat.lt_or_ge i o.length with hlo | hlo
        · have f2 : (i : Int) < (o.length : Int) := by omega
          rcases HO6.out.src with ⟨hn1', hn2⟩ | ⟨ad2, c3', hs, hsc, hcell⟩
          · rw [hn2] at hlo
            simp at hlo
          · have hoc : o.length ≤ oc ∧ oc ≤ 9223372036854775807 := by
              obtain ⟨_, _, g1, g2, g3, _⟩ := HO6.out.2
              simp only [Value.slice.injEq, true_and] at g1
              omega
            simp only [Value.slice.injEq, true_and] at hs
            obtain ⟨rfl, _⟩ := hs
            have HOC := hidm hcell
            have hown := HOW.out
            have hlt2 := hown.lt
            have hoc1 := hoc.1
            have hoc2 := hoc.2
            have hon := HON.out
            clear hcell hoc
            have hdl := hidm (show (flat (o.drop i)).length = (o.length - i) * 4 from by rw [flat_len, List.length_drop])
            have hdn := hidm (show ∀ j u, (flat (o.drop i))[j]? = some u → w5.cell? ((ad2.add (i * 4)).add j) = some u from fun j u hu => by
              rw [Go.Deep.add_add]
              exact HOC.out (i * 4 + j) u (by
                have e : flat o = flat (o.take i) ++ flat (o.drop i) := by rw [← flat_app, List.take_append_drop]
                have e2 : (flat (o.take i)).length = i * 4 := by rw [flat_len, List.length_take]; omega
                rw [e, List.getElem?_append_right (by omega), e2, Nat.add_sub_cancel_left]; exact hu))
            have h6 : i + (o.length - i) ≤ maxLen := by unfold maxLen; omega
            have h7 : (i + (o.length - i)) * 40 ≤ 140737488355328 := by omega
            go_wp2_with (at_builtin; refine wpList_append_own _ rfl _ _ 25 rfl wr.heap.size 33 i0 (.agg #[.int .i64 0, .int .i64 0, .int .u64 0, .string ⟨#[]⟩]) 4 40 Try.underlying25 hi0 hz0 hz1 hz2 rfl (by decide) _ _ _ rfl hown (ad2.add (i * 4)) (o.length - i) _ (flat (o.drop i)) rfl hdl.out hdn.out flat_one h6 h7 hz5 ?_)
            intro v6 w6 hown' hgrow _
            have hb6 : Below wr.heap.size w5 w6 := (Below.refl _ _).grown hgrow hz5 (fun k hk => (hlt2 k hk).1)
            have hxl : (r.take i ++ o.drop i).length = i + (o.length - i) := by rw [List.length_append, HLK.out, List.length_drop]
            have hxf : flat (r.take i ++ o.drop i) = flat (r.take i) ++ flat (o.drop i) := by rw [flat_app]
            have hown6 : w6.ownsRow wr.heap.size 33 4 v6 (r.take i ++ o.drop i).length (flat (r.take i ++ o.drop i)) := by rw [hxl, hxf]; exact hown'
            have hx6 := RowC.of_owns (vs := r.take i ++ o.drop i) hown6
            obtain ⟨vo6, vc6, hv6, _, _⟩ := hx6.2
            subst hv6
            have HX := hidm hx6
            have hbW : Below wr.heap.size wr w6 := HB5.out.trans hb6
            have HKX := hidm (HV5.out.later hbW)
            have HSX := hidm (HB.out.then hbW)
            obtain ⟨x, hx⟩ : ∃ x, x = r.take i ++ o.drop i := ⟨_, rfl⟩
            have HT : Hid (x.take i = r.take i) := hidm (by rw [hx, List.take_append_of_le_length (by rw [HLK.out]; omega), List.take_take, Nat.min_self])
            have HXL : Hid (x.length ≤ 1000000) := hidm (by rw [hx, hxl]; omega)
            have HXS : Hid (∀ v ∈ x, v.s.length ≤ 281474976710656) := hidm (fun v hv => by
              rw [hx] at hv
              rcases List.mem_append.1 hv with hv | hv
              · exact HRS.out v (List.mem_of_mem_take hv)
              · exact HOS.out v (List.mem_of_mem_drop hv))
            rw [← hx] at HX
            rw [← hx]
            clear hx hxl hxf hown6 hx6 hown' hgrow hb6 hbW hdl hdn h6 h7 hown hlt2 HOC HOW
            have c0 := HSX.out.c0
            have c1 := HSX.out.c1
            have c2 := HSX.out.c2
            have f7 : ((i : Int) == a.keys) = true := by rw [KN.out]; simp
            obtain ⟨fx, hfx⟩ : ∃ q, fitsB a x = q := ⟨_, rfl⟩
            have HF2 := hidm hfx
            have P2 := fits_is HF2.out LM.out (.slice ao a.cols.length ac) (.slice vo6 x.length vc6) HXL.out _ (HA.out.later HSX.out.below) HX.out.row
            clear hfx
            by_cases hx0 : fx = 0
            · subst hx0
              have HKA := hidm (key_again KN.out HF2.out HT.out)
              go_wp2_with fail
              refine P2.mono ?_
              rintro e w7 ⟨rfl, hb⟩
              have HS7 := hidm (HSX.out.then hb)
              have HX7 := hidm (HX.out.later hb)
              have HK7 := hidm (HKX.out.later hb)
              have c0 := HS7.out.c0
              have c1 := HS7.out.c1
              have c2 := HS7.out.c2
              have W2 := key_any a LM.out (.slice ao a.cols.length ac) x (.slice vo6 x.length vc6) HXL.out HXS.out w7 (HA.out.later HS7.out.below) HX7.out
              rw [HKA.out] at W2
              clear hb P2
              go_wp2_with fail
              refine W2.mono ?_
              rintro e w8 ⟨vk2, rfl, hv2, hb⟩
              have HS8 := hidm (HS7.out.then hb)
              have W3 := rows_same (r.take i) vk2 (.slice (some ad) i kc) HLI.out w8 hv2.row (HK7.out.later hb).row
              clear hb hv2 W2 c0 c1 c2
              go_wp2_with fail
              refine W3.mono ?_
              rintro e w9 ⟨rfl, hb⟩
              have HS9 := hidm (HS8.out.then hb)
              clear hb W3
              go_wp2_with fail
              refine (known_any _).mono ?_
              rintro e wk ⟨rfl, hb⟩
              have HSK := hidm (HS9.out.then hb)
              clear hb
              go_wp2_with fail
              go_ret
              exact ⟨rfl, HSK.out.below⟩
            · have f8 : (fx != 0) = true := by simpa using hx0
              clear hx0
              go_wp2_with fail
              refine P2.mono ?_
              rintro e w7 ⟨rfl, hb⟩
              have HS7 := hidm (HSX.out.then hb)
              clear hb P2 c0 c1 c2
              go_wp2_with fail
              refine (known_any _).mono ?_
              rintro e wk ⟨rfl, hb⟩
              have HSK := hidm (HS7.out.then hb)
              clear hb
              go_wp2_with fail
              go_ret
              exact ⟨rfl, HSK.out.below⟩
        · have f2 : ¬ (i : Int) < (o.length : Int) := by omega
          have HX := hidm (RowC.of_owns (vs := r.take i) (by have h := HOW.out; rw [HLK.out]; exact h))
          have HKX := HV6
          have HSX := HS5
          have HT : Hid ((r.take i).take i = r.take i) := hidm (by rw [List.take_take, Nat.min_self])
          have HXL : Hid ((r.take i).length ≤ 1000000) := hidm (by rw [HLK.out]; omega)
          have HXS : Hid (∀ v ∈ r.take i, v.s.length ≤ 281474976710656) := hidm (fun v hv => HRS.out v (List.mem_of_mem_take hv))
          have c0 := HSX.out.c0
          have c1 := HSX.out.c1
          have c2 := HSX.out.c2
          have f7 : ((i : Int) == a.keys) = true := by rw [KN.out]; simp
          obtain ⟨fx, hfx⟩ : ∃ q, fitsB a (r.take i) = q := ⟨_, rfl⟩
          have HF2 := hidm hfx
          have P2 := fits_is HF2.out LM.out (.slice ao a.cols.length ac) (.slice vo i vc) HXL.out _ (HA.out.later HSX.out.below) HX.out.row
          clear hfx
          by_cases hx0 : fx = 0
          · subst hx0
            have HKA := hidm (key_again KN.out HF2.out HT.out)
            go_wp2_with fail
            refine P2.mono ?_
            rintro e w7 ⟨rfl, hb⟩
            have HS7 := hidm (HSX.out.then hb)
            have HX7 := hidm (HX.out.later hb)
            have HK7 := hidm (HKX.out.later hb)
            have c0 := HS7.out.c0
            have c1 := HS7.out.c1
            have c2 := HS7.out.c2
            have W2 := key_any a LM.out (.slice ao a.cols.length ac) (r.take i) (.slice vo i vc) HXL.out HXS.out w7 (HA.out.later HS7.out.below) HX7.out
            rw [HKA.out] at W2
            clear hb P2
            go_wp2_with fail
            refine W2.mono ?_
            rintro e w8 ⟨vk2, rfl, hv2, hb⟩
            have HS8 := hidm (HS7.out.then hb)
            have W3 := rows_same (r.take i) vk2 (.slice (some ad) i kc) HLI.out w8 hv2.row (HK7.out.later hb).row
            clear hb hv2 W2 c0 c1 c2
            go_wp2_with fail
            refine W3.mono ?_
            rintro e w9 ⟨rfl, hb⟩
            have HS9 := hidm (HS8.out.then hb)
            clear hb W3
            go_wp2_with fail
            refine (known_any _).mono ?_
            rintro e wk ⟨rfl, hb⟩
            have HSK := hidm (HS9.out.then hb)
            clear hb
            go_wp2_with fail
            go_ret
            exact ⟨rfl, HSK.out.below⟩
          · have f8 : (fx != 0) = true := by simpa using hx0
            clear hx0
            go_wp2_with fail
            refine P2.mono ?_
            rintro e w7 ⟨rfl, hb⟩
            have HS7 := hidm (HSX.out.then hb)
            clear hb P2 c0 c1 c2
            go_wp2_with fail
            refine (known_any _).mono ?_
            rintro e wk ⟨rfl, hb⟩
            have HSK := hidm (HS7.out.then hb)
            clear hb
            go_wp2_with fail
            go_ret
            exact ⟨rfl, HSK.out.below⟩
theorem law_any (a : T) (sa : Value) (r : List V) (rl : Value) (o : List V) (ol : Value) (na : a.inn) (nr : r.length ≤ 9223372036854775807) (no : o.length ≤ 9223372036854775807) (w : World) (h1 : ColsAt a.cols sa w) (hr : RowC r rl w) (ho : RowC o ol w) :
    Calls Try.prog 3 #[.agg #[.string (S a.nm), sa, .int .i64 a.keys], rl, ol] w fun e w' => e = .returned (.bool true) ∧ Below w.heap.size w w' := by
  obtain ⟨ao, ac, rfl, _, _⟩ := h1.form
  obtain ⟨ro, rc, hrl, _, _⟩ := hr.2
  subst hrl
  obtain ⟨oo, oc, hol, _, _⟩ := ho.2
  subst hol
  rcases g1 : lightB a r with _ | _
  · exact skip_a a ao ac r ro rc o oo oc na nr no w h1 hr ho g1
  · rcases g2 : lightB a o with _ | _
    · exact skip_b a ao ac r ro rc o oo oc na nr no w h1 hr ho g1 g2
    · rcases Decidable.em (fitsB a r = 0) with g3 | g3
      · exact main_any a ao ac r ro rc o oo oc na nr no w h1 hr ho g1 g2 g3
      · exact no_fit a ao ac r ro rc o oo oc na nr no w h1 hr ho g1 g2 g3
theorem laidOut : laidOutB Try.prog = true := by kernel_rfl
set_option maxRecDepth 100000 in
theorem contract (H : Type) (enc : TypeId × Value → H) (W : World) (base : Nat) (args : Array Value) (ds gs : List (DataW H)) (before : List MemPlace)
    (hval : ∀ (j : Nat) t v, Try.f3.params[j]? = some t → args[j]? = some v → Value.okWide Try.prog W .any base t v)
    (hW : DataW.Whole enc Try.prog Try.f3.params.toList Rows.schemaKeysSpec.vars false W args.toList ds gs before) :
    Calls Try.prog 3 args W fun e W' => ∃ v, e = .returned v ∧ Rows.schemaKeysSpec.post enc Try.prog Try.f3 false true false false W args v W' := by
  have hW' := hW
  obtain ⟨p, q, hA0, hV, rfl, hfz, hnd⟩ := hW
  have hA : DataW.TrodAll enc Try.prog W 0 (fun _ => true) true Try.f3.params.toList args.toList ds p := hA0
  rw [Try.params3] at hA hval
  obtain ⟨v0, vs0, d0, ds0, p0, q0, hargs, rfl, rfl, h0, r0⟩ := trodAll_cons hA
  obtain ⟨v1, vs1, d1, ds1, p1, q1, rfl, rfl, rfl, h1, r1⟩ := trodAll_cons r0
  obtain ⟨v2, vs2, d2, ds2, p2, q2, rfl, rfl, rfl, h2, r2⟩ := trodAll_cons r1
  obtain ⟨rfl, rfl, rfl⟩ := trodAll_nil r2
  obtain rfl : args = #[v0, v1, v2] := by cases args; simp_all
  obtain ⟨rfl, rfl⟩ := trodVars_none hV
  obtain ⟨a, sla, rfl, hca, hna⟩ := open_schema (hval 0 24 v0 rfl rfl) h0
  obtain ⟨r, hcr, hir, hnr⟩ := open_row (hval 1 25 v1 rfl rfl) h1
  obtain ⟨o, hco, hio, hno⟩ := open_row (hval 2 25 v2 rfl rfl) h2
  clear hA0
  simp only [List.append_nil] at hW'
  have hlt : ∀ x ∈ p0 ++ p1 ++ p2, x.block < W.heap.size := fun x hx => hW'.lt x (by simpa using hx)
  have walk := law_any a sla r v1 o v2 hna hnr hno W hca hcr hco
  refine walk.mono fun e W' ⟨he, hg⟩ => ?_
  subst he
  refine ⟨_, rfl, Fr.post_made (pa := p0 ++ (p1 ++ p2)) (pv := []) hW' (fun _ _ _ => trodAll_cons_mk (shut_bool Try.underlying4 _) trodAll_mk0) (fun sp hsp => ?_) (fun _ _ => rfl) (by simp) hg (ok_one (by kernel_rfl) rfl (okWide_bool_mk Try.underlying4 _))⟩
  have g0 : DataW.Trod enc Try.prog W' 0 sp true 24 _ d0 p0 := WideElems.Trod_stays laidOut (by kernel_rfl) (of_decide_eq_true (by kernel_rfl)) h0 (fun x hx => hg.same (hlt x (by simp [hx]))) (fun x hx => hsp x (by simp [hx]))
  have g1 : DataW.Trod enc Try.prog W' 0 sp true 25 _ d1 p1 := WideElems.Trod_stays laidOut (by kernel_rfl) (of_decide_eq_true (by kernel_rfl)) h1 (fun x hx => hg.same (hlt x (by simp [hx]))) (fun x hx => hsp x (by simp [hx]))
  have g2 : DataW.Trod enc Try.prog W' 0 sp true 25 _ d2 p2 := WideElems.Trod_stays laidOut (by kernel_rfl) (of_decide_eq_true (by kernel_rfl)) h2 (fun x hx => hg.same (hlt x (by simp [hx]))) (fun x hx => hsp x (by simp [hx]))
  have hT := (trodAll_cons_mk g0 (trodAll_cons_mk g1 (trodAll_cons_mk g2 trodAll_mk0)))
  simp only [List.append_nil] at hT
  exact hT
set_option maxRecDepth 100000 in
theorem lifted (os : Os) (started : os.Started) (H : Type) (enc : TypeId × Value → H) :
    ReturnsInHanded {} Try.checked os 3 .any (Rows.schemaKeysSpec.pre6 enc Try.prog Try.f3 Rows.schemaKeysRow.domain false) (Rows.schemaKeysSpec.post enc Try.prog Try.f3 false true false false) := by
  refine returnsInHanded_of_change (C := Try.checked) Fr.own started (by kernel_rfl) Try.func3
    (ChangeSpec.witness6 (enc := enc) (C := Try.checked) false ⟨#[], #[.agg #[.string ⟨#[]⟩, .slice none 0 0, .int .i64 0], .slice none 0 0, .slice none 0 0], []⟩ 8 (by kernel_rfl) (by kernel_rfl) (by kernel_rfl) (by kernel_rfl)) ?_
  intro W base args ds gs before hval hW _ _
  exact contract H enc W base args ds gs before hval hW
theorem said : Rows.SchemaKeysSaid :=
  OpenClaim.holds_of_wide 3 Try.f3 rfl rfl rfl rfl rfl rfl rfl ⟨rfl, rfl, rfl, rfl, rfl⟩ rfl rfl rfl rfl rfl (by kernel_rfl) Try.func3 (by kernel_rfl)
    (of_decide_eq_true (by kernel_rfl)) (by unfold Func.isWrapper; first | (rw [if_pos (by decide +kernel)]; kernel_rfl) | (rw [if_neg (by decide +kernel)]; exact ⟨rfl, rfl⟩))
    (fun os started H enc _ => lifted os started H enc)
end LaSchemaKeys
end Go.Proofs.Ytopmbhpjdmcabaa
