/- The document's row, Change and Right (layer 6). Conditions: at most a million columns and values, names of at most 2^48 bytes. -/
import Derived.Test.YtopmbhpjdmcabaaGreatGp
import Derived.Test.YtopmbhpjdmcabaaGreatGd
import Derived.Test.YtopmbhpjdmcabaaGreatKf
import Derived.Test.YtopmbhpjdmcabaaGreatMk
namespace Go.Proofs.YtopmbhpjdmcabaaGreat
open Go.RowKit
namespace Frm
open Cod Sch
set_option maxHeartbeats 4000000 in
set_option maxRecDepth 100000 in
theorem rrow6_is {r : List V} {m : Nat} {b : Bool} (hb : rowOk r m = b) (ro : Option Addr) (rc : Nat) (hrn : r.length ≤ 1000000) (hw : ∀ v ∈ r, v.b < 18446744073709551616) (w : World) (h : RowAt r (.slice ro r.length rc) w) :
    Calls Tryz.prog 31 #[.slice ro r.length rc, .int .i64 m] w fun e w' => e = .returned (.bool b) ∧ Below w.heap.size w w' := by
  have H := hidm h
  have HW := hidm hw
  have HB := hidm hb
  obtain ⟨n, hn⟩ : ∃ n, n = r.length := ⟨_, rfl⟩
  have HN := hidm hn
  rw [← hn] at hrn ⊢
  clear h hw hn hb
  go_enter Tryz.func31, Tryz.ntmps31
  go_wp2_with fail
  go_loopw [5] (fun ii wr => ∃ i : Nat, ii = .int .i64 i ∧ i ≤ n ∧ Hid (∀ j (h : j < r.length), j < i → (r[j]).right = true) ∧ Hid (Below w.heap.size w wr)) (fun ii _ => (n - (intOf ii).toNat))
  case atStart => exact ⟨0, rfl, by omega, hidm (fun j _ hj => absurd hj (Nat.not_lt_zero j)), hidm (Below.refl _ _)⟩
  case round =>
    obtain ⟨i, rfl, hi, HT, HS⟩ := hrel
    rcases Nat.lt_or_ge i n with hlt | hge
    · have f1 : (i : Int) < n := by omega
      have hia : i < r.length := by have := HN.out; omega
      obtain ⟨b1, o1, c1, he1, _, q0, q1, q2, q3⟩ := (H.out.later HS.out).at i hia
      simp only [Value.slice.injEq] at he1
      obtain ⟨rfl, -, rfl⟩ := he1
      have HV := hidm (HW.out _ (List.getElem_mem hia))
      have HXT := hidm (show (r[i]).right = true → ∀ j (h : j < r.length), j < i + 1 → (r[j]).right = true from fun hr j hj hji => by
        rcases Nat.lt_or_ge j i with h | h
        · exact HT.out j hj h
        · obtain rfl : j = i := by omega
          exact hr)
      have HXF := hidm (show (r[i]).right = false → b = false from fun hr => by
        rw [← HB.out]; unfold rowOk
        have : r.all V.right = false := by
          rw [List.all_eq_false]; exact ⟨r[i], List.getElem_mem hia, by rw [hr]; simp⟩
        rw [this]; simp)
      obtain ⟨x, hx⟩ : ∃ x, x = r[i] := ⟨_, rfl⟩
      rw [← hx] at q0 q1 q2 q3 HV HXT HXF
      clear hx
      obtain ⟨t, ht⟩ : ∃ t, x.right = t := ⟨_, rfl⟩
      rw [ht] at HXT HXF
      have R := hidm (fun w => rref_any x HV.out w)
      rw [ht] at R
      clear ht
      go_wp2_with fail
      refine (R.out _).mono ?_
      rintro e w1 ⟨rfl, hb⟩
      have HS1 := hidm (HS.out.trans (hb.mono HS.out.size))
      clear hb q0 q1 q2 q3
      cases t
      · have HBF := hidm (HXF.out rfl)
        clear HXF HXT
        go_wp2_with fail
        go_ret
        exact ⟨Val.ret_bool HBF.out.symm, HS1.out⟩
      · have HNT := hidm (HXT.out rfl)
        clear HXF HXT
        go_wp2_with fail
        go_roundw
        case rel => exact ⟨i + 1, by go_num, by omega, HNT, HS1⟩
        case measure => simp [intOf]; omega
    · obtain rfl : i = n := by omega
      have f1 : ¬ (i : Int) < i := by omega
      have HF := hidm (show (decide (1 ≤ (i : Int)) && decide ((i : Int) ≤ (m : Int))) = b from by
        have ha : r.all V.right = true := by
          rw [List.all_eq_true]; intro v hv
          obtain ⟨j, hj, rfl⟩ := List.getElem_of_mem hv
          exact HT.out j hj (by have := HN.out; omega)
        rw [← HB.out]; unfold rowOk
        rw [ha, ← HN.out, Bool.and_true, Bool.eq_iff_iff]; simp
        omega)
      by_cases h1 : (1 : Int) ≤ (i : Int)
      · by_cases h2 : (i : Int) ≤ (m : Int)
        · have HBF := hidm (show b = true from by rw [← HF.out]; (try (first | rw [decide_eq_true h1] | rw [decide_eq_false h1])); (try (first | rw [decide_eq_true h2] | rw [decide_eq_false h2])); (try rfl))
          go_wp2_with fail
          go_ret
          exact ⟨Val.ret_bool HBF.out.symm, HS.out⟩
        · have HBF := hidm (show b = false from by rw [← HF.out]; (try (first | rw [decide_eq_true h1] | rw [decide_eq_false h1])); (try (first | rw [decide_eq_true h2] | rw [decide_eq_false h2])); (try rfl))
          go_wp2_with fail
          go_ret
          exact ⟨Val.ret_bool HBF.out.symm, HS.out⟩
      · have HBF := hidm (show b = false from by rw [← HF.out]; (try (first | rw [decide_eq_true h1] | rw [decide_eq_false h1])); (try rfl))
        go_wp2_with fail
        go_ret
        exact ⟨Val.ret_bool HBF.out.symm, HS.out⟩
theorem cols_none (w : World) : ColsAt zT.cols (.slice none 0 0) w := (ColsAt.nil w)
set_option maxHeartbeats 4000000 in
set_option maxRecDepth 100000 in
theorem rchange_is {x : M} {b : Bool} (hb : chB x.c = b) (hl : ChLim x.c) (hd : Lim x.c.df) (hw : ∀ v ∈ x.c.row, v.b < 18446744073709551616) (w : World) (hin : x.In w) :
    Calls Tryz.prog 10 #[.agg #[.int .i64 x.c.op, .string (S x.c.tb), .slice x.ro x.c.row.length x.rc, .int .i64 x.c.a, .int .i64 x.c.z, .string (S x.c.df.nm), .slice x.qo x.c.df.cols.length x.qc, .int .i64 x.c.df.keys]] w fun e w' => e = .returned (.bool b) ∧ Below w.heap.size w w' := by
  have HIN := hidm hin
  have HL := hidm hl
  have HD := hidm hd
  have HW := hidm hw
  have HS0 := hidm (BoxM.start x w)
  unfold chB at hb
  clear hin hl hd hw
  by_cases h3 : x.c.op = 3
  · have f3 : (x.c.op == 3) = true := by simpa using h3
    rw [if_neg (by omega), if_neg (by omega), if_pos h3] at hb
    unfold tabCh at hb
    obtain ⟨p, hp⟩ : ∃ p, rightB x.c.df = p := ⟨_, rfl⟩
    obtain ⟨q, hq⟩ : ∃ p, (x.c.tb == x.c.df.nm) = p := ⟨_, rfl⟩
    obtain ⟨r, hr⟩ : ∃ p, ((x.c.row.length : Int) == 0) = p := ⟨_, rfl⟩
    obtain ⟨s, hs⟩ : ∃ p, eqS x.c.a x.c.z 0 0 = p := ⟨_, rfl⟩
    have e1 : decide (x.c.tb = x.c.df.nm) = q := by rw [← hq, Bool.eq_iff_iff]; simp
    have e2 : decide (x.c.row.length = 0) = r := by rw [← hr, Bool.eq_iff_iff]; simp
    have e3 : (decide (x.c.a = 0) && decide (x.c.z = 0)) = s := by rw [← hs, Bool.eq_iff_iff]; unfold eqS; simp
    rw [hp, e1, e2, e3] at hb
    have HP := hidm hp
    clear hp h3 e1 e2 e3
    subst hb
    have C := fun w1 (hw : Below w.heap.size w w1) => rright_is HP.out HD.out _ w1 (HIN.out.q.later hw)
    have CC := hidm C
    clear C
    cases p
    · go_enter Tryz.func10, Tryz.ntmps10
      go_wp2_with fail
      refine (CC.out _ HS0.out.below).mono ?_
      rintro e w1 ⟨rfl, hb1⟩
      have HS1 := hidm (HS0.out.then hb1)
      clear hb1
      go_wp2_with fail
      go_ret
      exact ⟨rfl, HS1.out.below⟩
    · cases q
      rotate_left
      cases r
      rotate_left
      all_goals
        go_enter Tryz.func10, Tryz.ntmps10
        go_wp2_with fail
        refine (CC.out _ HS0.out.below).mono ?_
        rintro e w1 ⟨rfl, hb1⟩
        have HS1 := hidm (HS0.out.then hb1)
        clear hb1
        have c1 := HS1.out.c1
        have c2 := HS1.out.c2
        have c3 := HS1.out.c3
        have c4 := HS1.out.c4
        have c5 := HS1.out.c5
        go_wp2_with fail
        go_ret
        exact ⟨Val.ret_bool (by simp), HS1.out.below⟩
  · have f3 : (x.c.op == 3) = false := by simpa using h3
    by_cases h1 : x.c.op = 1
    · have f1 : (x.c.op != 1) = false := by simpa using h1
      have f2 : (x.c.op == 2) = false := by simp; omega
      have f4 : (x.c.op != 2) = true := by simp; omega
      rw [if_pos h1] at hb
      clear h1 h3
      unfold rowCh at hb
      obtain ⟨p, hp⟩ : ∃ p, nameB x.c.tb = p := ⟨_, rfl⟩
      obtain ⟨q, hq⟩ : ∃ p, rowOk x.c.row 16 = p := ⟨_, rfl⟩
      obtain ⟨r, hr⟩ : ∃ p, spanOk x.c.a x.c.z = p := ⟨_, rfl⟩
      obtain ⟨s, hs⟩ : ∃ p, sameB x.c.df zT = p := ⟨_, rfl⟩
      rw [hp, hq, hr, hs] at hb
      have HP := hidm hp
      have HQ := hidm hq
      have HR := hidm hr
      have HS := hidm hs
      clear hp hq hr hs
      have N := hidm (fun w => rname_is (s := S x.c.tb) (b := p) HP.out (by rw [S_size]; exact HL.out.tb) w)
      cases p
      · subst hb
        go_enter Tryz.func10, Tryz.ntmps10
        go_wp2_with fail
        refine (N.out _).mono ?_
        rintro e w1 ⟨rfl, hb1⟩
        have HS1 := hidm (HS0.out.then hb1)
        clear hb1
        go_wp2_with fail
        go_ret
        exact ⟨rfl, HS1.out.below⟩
      · have HBB := hidm hb
        clear hb
        go_enter Tryz.func10, Tryz.ntmps10
        go_wp2_with fail
        refine (N.out _).mono ?_
        rintro e w1 ⟨rfl, hb1⟩
        have HS1 := hidm (HS0.out.then hb1)
        clear hb1
        have c2 := HS1.out.c2
        go_wp2_with fail
        refine (rrow6_is (m := 16) HQ.out _ _ HL.out.rn HW.out _ (HIN.out.r.later HS1.out.below).1).mono ?_
        rintro e w2 ⟨rfl, hb1⟩
        have HS2 := hidm (HS1.out.then hb1)
        clear hb1 c2
        cases q
        · go_wp2_with fail
          go_ret
          exact ⟨Val.ret_bool (by rw [← HBB.out]; rfl), HS2.out.below⟩
        · have c5 := HS2.out.c5
          have c6 := HS2.out.c6
          have c7 := HS2.out.c7
          go_wp2_with fail
          refine (rsame5_is (b := zT) HS.out (.slice x.qo x.c.df.cols.length x.qc) (.slice none 0 0) HL.out.n (by simp [zT]) _ (HIN.out.q.later HS2.out.below) (cols_none _)).mono ?_
          rintro e w3 ⟨rfl, hb1⟩
          have HS3 := hidm (HS2.out.then hb1)
          clear hb1 c5 c6 c7
          cases s
          · go_wp2_with fail
            go_ret
            exact ⟨Val.ret_bool (by rw [← HBB.out]; simp), HS3.out.below⟩
          · have HRR := hidm (show (decide (0 ≤ x.c.a) && (decide (x.c.a < x.c.z) && decide (x.c.z ≤ 1099511627776))) = b from by
              rw [← HBB.out, ← HR.out]; unfold spanOk; simp)
            have c3 := HS3.out.c3
            have c4 := HS3.out.c4
            by_cases g1 : 0 ≤ x.c.a
            · by_cases g2 : x.c.a < x.c.z
              · by_cases g3 : x.c.z ≤ 1099511627776
                · have HBF := hidm (show b = true from by rw [← HRR.out]; (try (first | rw [decide_eq_true g1] | rw [decide_eq_false g1])); (try (first | rw [decide_eq_true g2] | rw [decide_eq_false g2])); (try (first | rw [decide_eq_true g3] | rw [decide_eq_false g3])); (try rfl))
                  go_wp2_with fail
                  go_ret
                  exact ⟨Val.ret_bool HBF.out.symm, HS3.out.below⟩
                · have HG3 := hidm (show decide (x.c.z ≤ 1099511627776) = false from decide_eq_false g3)
                  have HBF := hidm (show b = false from by rw [← HRR.out]; (try (first | rw [decide_eq_true g1] | rw [decide_eq_false g1])); (try (first | rw [decide_eq_true g2] | rw [decide_eq_false g2])); (try (first | rw [decide_eq_true g3] | rw [decide_eq_false g3])); (try rfl))
                  go_wp2_with fail
                  go_ret
                  exact ⟨Val.ret_bool (HG3.out.trans HBF.out.symm), HS3.out.below⟩
              · have HBF := hidm (show b = false from by rw [← HRR.out]; (try (first | rw [decide_eq_true g1] | rw [decide_eq_false g1])); (try (first | rw [decide_eq_true g2] | rw [decide_eq_false g2])); (try rfl))
                go_wp2_with fail
                go_ret
                exact ⟨Val.ret_bool HBF.out.symm, HS3.out.below⟩
            · have HBF := hidm (show b = false from by rw [← HRR.out]; (try (first | rw [decide_eq_true g1] | rw [decide_eq_false g1])); (try rfl))
              go_wp2_with fail
              go_ret
              exact ⟨Val.ret_bool HBF.out.symm, HS3.out.below⟩
    · by_cases h2 : x.c.op = 2
      · have f1 : (x.c.op != 1) = true := by simpa using h1
        have f2 : (x.c.op == 2) = true := by simpa using h2
        have f4 : (x.c.op != 2) = false := by simpa using h2
        rw [if_neg h1, if_pos h2] at hb
        clear h1 h2 h3
        unfold rowCh at hb
        obtain ⟨p, hp⟩ : ∃ p, nameB x.c.tb = p := ⟨_, rfl⟩
        obtain ⟨q, hq⟩ : ∃ p, rowOk x.c.row 8 = p := ⟨_, rfl⟩
        obtain ⟨r, hr⟩ : ∃ p, spanOk x.c.a x.c.z = p := ⟨_, rfl⟩
        obtain ⟨s, hs⟩ : ∃ p, sameB x.c.df zT = p := ⟨_, rfl⟩
        rw [hp, hq, hr, hs] at hb
        have HP := hidm hp
        have HQ := hidm hq
        have HR := hidm hr
        have HS := hidm hs
        clear hp hq hr hs
        have N := hidm (fun w => rname_is (s := S x.c.tb) (b := p) HP.out (by rw [S_size]; exact HL.out.tb) w)
        cases p
        · subst hb
          go_enter Tryz.func10, Tryz.ntmps10
          go_wp2_with fail
          refine (N.out _).mono ?_
          rintro e w1 ⟨rfl, hb1⟩
          have HS1 := hidm (HS0.out.then hb1)
          clear hb1
          go_wp2_with fail
          go_ret
          exact ⟨rfl, HS1.out.below⟩
        · have HBB := hidm hb
          clear hb
          go_enter Tryz.func10, Tryz.ntmps10
          go_wp2_with fail
          refine (N.out _).mono ?_
          rintro e w1 ⟨rfl, hb1⟩
          have HS1 := hidm (HS0.out.then hb1)
          clear hb1
          have c2 := HS1.out.c2
          go_wp2_with fail
          refine (rrow6_is (m := 8) HQ.out _ _ HL.out.rn HW.out _ (HIN.out.r.later HS1.out.below).1).mono ?_
          rintro e w2 ⟨rfl, hb1⟩
          have HS2 := hidm (HS1.out.then hb1)
          clear hb1 c2
          cases q
          · go_wp2_with fail
            go_ret
            exact ⟨Val.ret_bool (by rw [← HBB.out]; rfl), HS2.out.below⟩
          · have c5 := HS2.out.c5
            have c6 := HS2.out.c6
            have c7 := HS2.out.c7
            go_wp2_with fail
            refine (rsame5_is (b := zT) HS.out (.slice x.qo x.c.df.cols.length x.qc) (.slice none 0 0) HL.out.n (by simp [zT]) _ (HIN.out.q.later HS2.out.below) (cols_none _)).mono ?_
            rintro e w3 ⟨rfl, hb1⟩
            have HS3 := hidm (HS2.out.then hb1)
            clear hb1 c5 c6 c7
            cases s
            · go_wp2_with fail
              go_ret
              exact ⟨Val.ret_bool (by rw [← HBB.out]; simp), HS3.out.below⟩
            · have HRR := hidm (show (decide (0 ≤ x.c.a) && (decide (x.c.a < x.c.z) && decide (x.c.z ≤ 1099511627776))) = b from by
                rw [← HBB.out, ← HR.out]; unfold spanOk; simp)
              have c3 := HS3.out.c3
              have c4 := HS3.out.c4
              by_cases g1 : 0 ≤ x.c.a
              · by_cases g2 : x.c.a < x.c.z
                · by_cases g3 : x.c.z ≤ 1099511627776
                  · have HBF := hidm (show b = true from by rw [← HRR.out]; (try (first | rw [decide_eq_true g1] | rw [decide_eq_false g1])); (try (first | rw [decide_eq_true g2] | rw [decide_eq_false g2])); (try (first | rw [decide_eq_true g3] | rw [decide_eq_false g3])); (try rfl))
                    go_wp2_with fail
                    go_ret
                    exact ⟨Val.ret_bool HBF.out.symm, HS3.out.below⟩
                  · have HG3 := hidm (show decide (x.c.z ≤ 1099511627776) = false from decide_eq_false g3)
                    have HBF := hidm (show b = false from by rw [← HRR.out]; (try (first | rw [decide_eq_true g1] | rw [decide_eq_false g1])); (try (first | rw [decide_eq_true g2] | rw [decide_eq_false g2])); (try (first | rw [decide_eq_true g3] | rw [decide_eq_false g3])); (try rfl))
                    go_wp2_with fail
                    go_ret
                    exact ⟨Val.ret_bool (HG3.out.trans HBF.out.symm), HS3.out.below⟩
                · have HBF := hidm (show b = false from by rw [← HRR.out]; (try (first | rw [decide_eq_true g1] | rw [decide_eq_false g1])); (try (first | rw [decide_eq_true g2] | rw [decide_eq_false g2])); (try rfl))
                  go_wp2_with fail
                  go_ret
                  exact ⟨Val.ret_bool HBF.out.symm, HS3.out.below⟩
              · have HBF := hidm (show b = false from by rw [← HRR.out]; (try (first | rw [decide_eq_true g1] | rw [decide_eq_false g1])); (try rfl))
                go_wp2_with fail
                go_ret
                exact ⟨Val.ret_bool HBF.out.symm, HS3.out.below⟩
      · have f1 : (x.c.op != 1) = true := by simpa using h1
        have f2 : (x.c.op == 2) = false := by simpa using h2
        have f4 : (x.c.op != 2) = true := by simpa using h2
        rw [if_neg h1, if_neg h2, if_neg h3] at hb
        subst hb
        clear h1 h2 h3
        go_enter Tryz.func10, Tryz.ntmps10
        go_wp2_with fail
        go_ret
        exact ⟨rfl, HS0.out.below⟩
set_option maxHeartbeats 4000000 in
set_option maxRecDepth 100000 in
theorem rtxright_is {x : X} {b : Bool} (hb : txB x.tx = b) (hl : ∀ c ∈ x.l, ChLim c.c) (hd : ∀ c ∈ x.l, Lim c.c.df) (hw : ∀ c ∈ x.l, ∀ v ∈ c.c.row, v.b < 18446744073709551616) (w : World) (hin : x.In w) :
    Calls Tryz.prog 8 #[.agg #[.int .i64 x.seq, .int .i64 x.tm, .slice x.co x.l.length x.cc]] w fun e w' => e = .returned (.bool b) ∧ Below w.heap.size w w' := by
  have HIN := hidm hin
  have HL := hidm hl
  have HD := hidm hd
  have HW := hidm hw
  have HS0 := hidm (BoxX.start x w)
  have HB := hidm hb
  obtain ⟨n, hn⟩ : ∃ n, n = x.l.length := ⟨_, rfl⟩
  have HN := hidm hn
  have hnb : n ≤ 9223372036854775807 := by
    obtain ⟨_, _, _, h1, h2⟩ := MsAt.form hin
    omega
  clear hin hl hd hw hb hn
  go_enter Tryz.func8, Tryz.ntmps8
  go_wp2_with fail
  go_loopw [3] (fun ii wr => ∃ i : Nat, ii = .int .i64 i ∧ i ≤ n ∧ Hid (∀ j (h : j < x.l.length), j < i → chB (x.l[j]).c = true) ∧ Hid (BoxX x w wr)) (fun ii _ => (n - (intOf ii).toNat))
  case atStart => exact ⟨0, rfl, by omega, hidm (fun j _ hj => absurd hj (Nat.not_lt_zero j)), HS0⟩
  case round =>
    obtain ⟨i, rfl, hi, HT, HS⟩ := hrel
    have c2 := HS.out.c2
    rcases Nat.lt_or_ge i n with hlt | hge
    · have hia : i < x.l.length := by have := HN.out; omega
      have f1 : (i : Int) < (x.l.length : Int) := by omega
      have hrow := HIN.out.later HS.out.below
      obtain ⟨b1, o1, c1, he1, _, q0, q1, q2, q3, q4, q5, q6, q7⟩ := MsAt.at hrow i hia
      have hyin := MsAt.in hrow i hia
      simp only [Value.slice.injEq, true_and] at he1
      obtain ⟨he1a, he1b⟩ := he1
      rw [he1a, he1b] at c2
      have HLY := hidm (HL.out _ (List.getElem_mem hia))
      have HDY := hidm (HD.out _ (List.getElem_mem hia))
      have HWY := hidm (HW.out _ (List.getElem_mem hia))
      have HXT := hidm (show chB (x.l[i]).c = true → ∀ j (h : j < x.l.length), j < i + 1 → chB (x.l[j]).c = true from fun hr j hj hji => by
        rcases Nat.lt_or_ge j i with h | h
        · exact HT.out j hj h
        · obtain rfl : j = i := by omega
          exact hr)
      have HXF := hidm (show chB (x.l[i]).c = false → b = false from fun hr => by
        rw [← HB.out]; unfold txB
        have : x.tx.chs.all chB = false := by
          rw [List.all_eq_false]; exact ⟨(x.l[i]).c, List.mem_map.2 ⟨x.l[i], List.getElem_mem hia, rfl⟩, by rw [hr]; simp⟩
        rw [this]; simp)
      obtain ⟨y, hy⟩ : ∃ y, y = x.l[i] := ⟨_, rfl⟩
      rw [← hy] at q0 q1 q2 q3 q4 q5 q6 q7 hyin HLY HDY HWY HXT HXF
      have HYN := hidm hyin
      obtain ⟨t, ht⟩ : ∃ t, chB y.c = t := ⟨_, rfl⟩
      rw [ht] at HXT HXF
      have HTT := hidm ht
      clear hy hyin hrow he1a he1b ht
      go_wp2_with fail
      refine (rchange_is HTT.out HLY.out HDY.out HWY.out _ HYN.out).mono ?_
      rintro e w1 ⟨rfl, hb⟩
      have HS1 := hidm (HS.out.then hb)
      clear hb q0 q1 q2 q3 q4 q5 q6 q7 c2
      cases t
      · have HBF := hidm (HXF.out rfl)
        clear HXF HXT
        go_wp2_with fail
        go_ret
        exact ⟨Val.ret_bool HBF.out.symm, HS1.out.below⟩
      · have HNT := hidm (HXT.out rfl)
        clear HXF HXT
        go_wp2_with fail
        go_roundw
        case rel => exact ⟨i + 1, by go_num, by omega, HNT, HS1⟩
        case measure => simp [intOf]; omega
    · obtain rfl : i = n := by omega
      have f1 : ¬ (i : Int) < (x.l.length : Int) := by have := HN.out; omega
      have c0 := HS.out.c0
      have c1 := HS.out.c1
      have HF := hidm (show (decide (1 ≤ x.seq) && (decide (x.seq ≤ 1099511627776) && (decide (0 ≤ x.tm) && (decide (x.tm < 1099511627776) && decide ((x.l.length : Int) ≤ 100))))) = b from by
        have ha : x.tx.chs.all chB = true := by
          rw [List.all_eq_true]; intro c hc
          obtain ⟨m, hm, rfl⟩ := List.mem_map.1 hc
          obtain ⟨j, hj, rfl⟩ := List.getElem_of_mem hm
          exact HT.out j hj (by have := HN.out; omega)
        rw [← HB.out]; unfold txB headT X.tx at *
        simp only [List.length_map]
        rw [ha, Bool.and_true, Bool.eq_iff_iff]; simp
        omega)
      by_cases g1 : 1 ≤ x.seq
      · by_cases g2 : x.seq ≤ 1099511627776
        · by_cases g3 : 0 ≤ x.tm
          · by_cases g4 : x.tm < 1099511627776
            · by_cases g5 : (x.l.length : Int) ≤ 100
              · have HBF := hidm (show b = true from by rw [← HF.out]; (try (first | rw [decide_eq_true g1] | rw [decide_eq_false g1])); (try (first | rw [decide_eq_true g2] | rw [decide_eq_false g2])); (try (first | rw [decide_eq_true g3] | rw [decide_eq_false g3])); (try (first | rw [decide_eq_true g4] | rw [decide_eq_false g4])); (try (first | rw [decide_eq_true g5] | rw [decide_eq_false g5])); (try rfl))
                go_wp2_with fail
                go_ret
                exact ⟨Val.ret_bool HBF.out.symm, HS.out.below⟩
              · have HBF := hidm (show b = false from by rw [← HF.out]; (try (first | rw [decide_eq_true g1] | rw [decide_eq_false g1])); (try (first | rw [decide_eq_true g2] | rw [decide_eq_false g2])); (try (first | rw [decide_eq_true g3] | rw [decide_eq_false g3])); (try (first | rw [decide_eq_true g4] | rw [decide_eq_false g4])); (try (first | rw [decide_eq_true g5] | rw [decide_eq_false g5])); (try rfl))
                go_wp2_with fail
                go_ret
                exact ⟨Val.ret_bool HBF.out.symm, HS.out.below⟩
            · have HBF := hidm (show b = false from by rw [← HF.out]; (try (first | rw [decide_eq_true g1] | rw [decide_eq_false g1])); (try (first | rw [decide_eq_true g2] | rw [decide_eq_false g2])); (try (first | rw [decide_eq_true g3] | rw [decide_eq_false g3])); (try (first | rw [decide_eq_true g4] | rw [decide_eq_false g4])); (try rfl))
              go_wp2_with fail
              go_ret
              exact ⟨Val.ret_bool HBF.out.symm, HS.out.below⟩
          · have HBF := hidm (show b = false from by rw [← HF.out]; (try (first | rw [decide_eq_true g1] | rw [decide_eq_false g1])); (try (first | rw [decide_eq_true g2] | rw [decide_eq_false g2])); (try (first | rw [decide_eq_true g3] | rw [decide_eq_false g3])); (try rfl))
            go_wp2_with fail
            go_ret
            exact ⟨Val.ret_bool HBF.out.symm, HS.out.below⟩
        · have HBF := hidm (show b = false from by rw [← HF.out]; (try (first | rw [decide_eq_true g1] | rw [decide_eq_false g1])); (try (first | rw [decide_eq_true g2] | rw [decide_eq_false g2])); (try rfl))
          go_wp2_with fail
          go_ret
          exact ⟨Val.ret_bool HBF.out.symm, HS.out.below⟩
      · have HBF := hidm (show b = false from by rw [← HF.out]; (try (first | rw [decide_eq_true g1] | rw [decide_eq_false g1])); (try rfl))
        go_wp2_with fail
        go_ret
        exact ⟨Val.ret_bool HBF.out.symm, HS.out.below⟩
end Frm
end Go.Proofs.YtopmbhpjdmcabaaGreat
