/- The law's light: does a transaction ask little? Conditions: the lengths are below 2^63. -/
import Derived.Test.YtopmbhpjdmcabaaGreatGd
import Derived.Test.YtopmbhpjdmcabaaGreatMl
namespace Go.Proofs.YtopmbhpjdmcabaaGreat
open Go.RowKit
namespace Frm
open Cod Sch
def rs (r : List V) (k : Nat) : Nat := ((r.take k).map (fun v => v.s.length)).sum
def ns (q : List C) (k : Nat) : Nat := ((q.take k).map (fun c => c.nm.length)).sum
def fs (c : Ch) : Nat := c.tb.length + c.df.nm.length + c.row.length + 10 * c.df.cols.length
def wt (c : Ch) : Nat := fs c + rs c.row 300 + ns c.df.cols 300
def ws (l : List M) (k : Nat) : Nat := ((l.take k).map (fun x => wt x.c)).sum
theorem sum_take {α : Type} (f : α → Nat) {l : List α} {i : Nat} (hi : i < l.length) : ((l.take (i + 1)).map f).sum = ((l.take i).map f).sum + f l[i] := by
  rw [List.take_succ_eq_append_getElem hi, List.map_append, List.sum_append]; simp
theorem sum_le {α : Type} (f : α → Nat) (l : List α) : ∀ i j, i ≤ j → ((l.take i).map f).sum ≤ ((l.take j).map f).sum := by
  intro i j h
  induction j with
  | zero => have : i = 0 := by omega
            subst this; exact Nat.le_refl _
  | succ j ih =>
    rcases Nat.lt_or_ge j i with h1 | h1
    · have : i = j + 1 := by omega
      subst this; exact Nat.le_refl _
    · refine Nat.le_trans (ih h1) ?_
      rcases Nat.lt_or_ge j l.length with h2 | h2
      · rw [sum_take f h2]; omega
      · rw [List.take_of_length_le h2, List.take_of_length_le (by omega)]; exact Nat.le_refl _
theorem sum_mem {α : Type} (f : α → Nat) {l : List α} {i k : Nat} (hi : i < l.length) (hk : i < k) : f l[i] ≤ ((l.take k).map f).sum := by
  have h1 := sum_le f l (i + 1) k (by omega)
  rw [sum_take f hi] at h1; omega
theorem sum_all {α : Type} (f : α → Nat) {l : List α} {k : Nat} (hk : l.length ≤ k) (x : α) (hx : x ∈ l) : f x ≤ ((l.take k).map f).sum := by
  obtain ⟨i, hi, rfl⟩ := List.getElem_of_mem hx
  exact sum_mem f hi (by omega)
def litB (l : List M) : Bool := decide (l.length ≤ 110) && decide (ws l l.length ≤ 20000)
/-- What little means. -/
structure Lit (c : Ch) : Prop where
  tb : c.tb.length ≤ 20000
  nm : c.df.nm.length ≤ 20000
  rn : c.row.length ≤ 20000
  n : c.df.cols.length ≤ 2000
  rv : c.row.length ≤ 300 → ∀ v ∈ c.row, v.s.length ≤ 20000
  cn : c.df.cols.length ≤ 300 → ∀ d ∈ c.df.cols, d.nm.length ≤ 20000
theorem lit_parts {l : List M} (h : litB l = true) : l.length ≤ 110 ∧ ∀ x ∈ l, Lit x.c := by
  unfold litB at h
  simp only [Bool.and_eq_true, decide_eq_true_eq] at h
  refine ⟨h.1, fun x hx => ?_⟩
  have h1 : wt x.c ≤ ws l l.length := sum_all (fun x => wt x.c) (Nat.le_refl _) x hx
  have h2 : wt x.c ≤ 20000 := by omega
  unfold wt fs at h2
  refine ⟨by omega, by omega, by omega, by omega, fun hr v hv => ?_, fun hr v hv => ?_⟩
  · have : v.s.length ≤ rs x.c.row 300 := sum_all (fun v => v.s.length) hr v hv
    omega
  · have : v.nm.length ≤ ns x.c.df.cols 300 := sum_all (fun c => c.nm.length) hr v hv
    omega
theorem Lit.lim {c : Ch} (h : Lit c) : ChLim c := ⟨by have := h.tb; omega, by have := h.nm; omega, fun hc d hd => by have := h.cn (by omega) d hd; omega, by have := h.n; omega, by have := h.rn; omega⟩
theorem Lit.wf {c : Ch} (h : Lit c) (hc : chB c = true) (hv : ∀ v ∈ c.row, InnV v) : c.wf := by
  have h16 : c.row.length ≤ 300 := by
    rcases ch_cases hc with ⟨_, h2⟩ | ⟨_, h2⟩
    · have := (row_parts h2).2.2.1; omega
    · rw [(tab_parts h2).2.2.1]; simp
  refine ⟨fun v hm => ?_, by have := h.tb; omega, by have := h.rn; omega⟩
  have hi := (hv v hm).i
  exact ⟨hi.k0, hi.k1, hi.n0, hi.n1, hi.b, by have := h.rv h16 v hm; omega⟩
theorem wsm {n : Int} (h0 : 0 ≤ n) (h1 : n < 9223372036854775808) : wrap64 n = n := by unfold wrap64; omega
theorem addw {a b c : Nat} (h : c = a + b) (hc : c < 9223372036854775808) : wrap64 ((a : Int) + b) = c := by rw [wsm (by omega) (by omega)]; omega
theorem tenw {a c : Nat} (h : c = 10 * a) (hc : c < 9223372036854775808) : wrap64 (10 * (a : Int)) = c := by rw [wsm (by omega) (by omega)]; omega
/-- What the weight comes to. -/
def WtP (l : List M) (w : World) (e : Ending) (w' : World) : Prop := ∃ k : Int, e = .returned (.int .i64 k) ∧ decide (k ≤ 20000) = litB l ∧ Below w.heap.size w w'
theorem ws_succ {l : List M} {i : Nat} (hi : i < l.length) : ws l (i + 1) = ws l i + wt l[i].c := sum_take (fun x : M => wt x.c) hi
theorem ws_le (l : List M) (i : Nat) (h : i ≤ l.length) : ws l i ≤ ws l l.length := sum_le _ l _ _ h
theorem rs_succ {r : List V} {k : Nat} (hk : k < r.length) : rs r (k + 1) = rs r k + r[k].s.length := sum_take (fun v : V => v.s.length) hk
theorem ns_succ {q : List C} {k : Nat} (hk : k < q.length) : ns q (k + 1) = ns q k + q[k].nm.length := sum_take (fun c : C => c.nm.length) hk
theorem rs_end {r : List V} {k : Nat} (hk : k ≤ 300) (h : k = 300 ∨ r.length ≤ k) : rs r k = rs r 300 := by
  rcases h with h | h
  · rw [h]
  · unfold rs; rw [List.take_of_length_le h, List.take_of_length_le (by omega)]
theorem ns_end {r : List C} {k : Nat} (hk : k ≤ 300) (h : k = 300 ∨ r.length ≤ k) : ns r k = ns r 300 := by
  rcases h with h | h
  · rw [h]
  · unfold ns; rw [List.take_of_length_le h, List.take_of_length_le (by omega)]
set_option maxHeartbeats 2000000 in
set_option maxRecDepth 100000 in
theorem weight_any (x : X) (w : World) (hin : x.In w) (hi : InnX x) :
    Calls Tryz.prog 24 #[.agg #[.int .i64 x.seq, .int .i64 x.tm, .slice x.co x.l.length x.cc]] w fun e w' => WtP x.l w e w' := by
  have HIN := hidm hin
  have HI := hidm hi
  have HS0 := hidm (BoxX.start x w)
  obtain ⟨n, hn⟩ : ∃ n, n = x.l.length := ⟨_, rfl⟩
  have HN := hidm hn
  have hnb : n ≤ 140737488351232 := by rw [hn]; exact hi.n
  clear hin hi
  by_cases hg : n ≤ 110
  rotate_left
  · have f1 : (110 : Int) < x.l.length := by omega
    have HF := hidm (show litB x.l = false from by unfold litB; rw [← HN.out, decide_eq_false hg]; rfl)
    clear hn hg
    go_enter Tryz.func24, Tryz.ntmps24
    go_wp2_with fail
    go_ret
    exact ⟨1000000, rfl, by rw [HF.out]; rfl, HS0.out.below⟩
  · have f1 : ¬ (110 : Int) < x.l.length := by omega
    clear hn
    go_enter Tryz.func24, Tryz.ntmps24
    go_wp2_with fail
    go_loopw [3, 4] (fun aa ii wr => ∃ (i A : Nat), aa = .int .i64 A ∧ ii = .int .i64 i ∧ i ≤ n ∧ A ≤ 20000 ∧ Hid (A = ws x.l i) ∧ Hid (BoxX x w wr)) (fun _ ii _ => n - (intOf ii).toNat)
    case atStart => exact ⟨0, 0, rfl, rfl, by omega, by omega, hidm rfl, HS0⟩
    case round =>
      rename World => wa
      obtain ⟨i, A, rfl, rfl, hin, hA, HA, HB⟩ := hrel
      have c2 := HB.out.c2
      rcases Nat.lt_or_ge i n with hlt | hge
      · have hia : i < x.l.length := by have := HN.out; omega
        have f2 : (i : Int) < (x.l.length : Int) := by omega
        have hrow := HIN.out.later HB.out.below
        obtain ⟨b1, o1, cp, he1, _, q0, q1, q2, q3, q4, q5, q6, q7⟩ := MsAt.at hrow i hia
        have hyin := MsAt.in hrow i hia
        simp only [Value.slice.injEq, true_and] at he1
        obtain ⟨he1a, he1b⟩ := he1
        rw [he1a, he1b] at c2
        obtain ⟨y, hy⟩ : ∃ y, y = x.l[i] := ⟨_, rfl⟩
        rw [← hy] at q0 q1 q2 q3 q4 q5 q6 q7 hyin
        have HY := hidm hy
        have HYI := hidm (show InnM y from by rw [hy]; exact HI.out.l _ (List.getElem_mem hia))
        have HYN := hidm hyin
        obtain ⟨tl, htl⟩ : ∃ t, t = y.c.tb.length := ⟨_, rfl⟩
        obtain ⟨nl, hnl⟩ : ∃ t, t = y.c.df.nm.length := ⟨_, rfl⟩
        have htl2 : tl ≤ 140737488351232 := by rw [htl]; exact HYI.out.tb
        have hnl2 : nl ≤ 140737488351232 := by rw [hnl]; exact HYI.out.df.nm
        have hrl2 : y.c.row.length ≤ 140737488351232 := HYI.out.rn
        have hcl2 : y.c.df.cols.length ≤ 140737488351232 := HYI.out.df.n
        have HFS := hidm (show tl + nl + y.c.row.length + 10 * y.c.df.cols.length = fs y.c from by rw [htl, hnl]; rfl)
        obtain ⟨B1, hB1⟩ : ∃ B : Nat, B = A + tl := ⟨_, rfl⟩
        obtain ⟨B2, hB2⟩ : ∃ B : Nat, B = B1 + nl := ⟨_, rfl⟩
        obtain ⟨B3, hB3⟩ : ∃ B : Nat, B = B2 + y.c.row.length := ⟨_, rfl⟩
        obtain ⟨B4, hB4⟩ : ∃ B : Nat, B = 10 * y.c.df.cols.length := ⟨_, rfl⟩
        obtain ⟨B5, hB5⟩ : ∃ B : Nat, B = B3 + B4 := ⟨_, rfl⟩
        have p1 : B1 < 9223372036854775808 := by omega
        have p2 : B2 < 9223372036854775808 := by omega
        have p3 : B3 < 9223372036854775808 := by omega
        have p4 : B4 < 9223372036854775808 := by omega
        have p5 : B5 < 9223372036854775808 := by omega
        have hb5 : B5 ≤ 2533274790322176 := by omega
        have HB5 := hidm (show B5 = A + fs y.c from by have := HFS.out; omega)
        have HG5 := hidm (show wrap64 ((B3 : Int) + 10 * (y.c.df.cols.length : Int)) = (B5 : Int) from by rw [wsm (by omega) (by omega)]; omega)
        have g1 := addw hB1 p1
        have g2 := addw hB2 p2
        have g3 := addw hB3 p3
        have g4 := tenw hB4 p4
        have g5 := addw hB5 p5
        have HM := hidm (BoxM.start y wa)
        have e1 : y.c.tb.toArray.size = tl := by simp [htl]
        have e2 : y.c.df.nm.toArray.size = nl := by simp [hnl]
        clear hyin hy htl hnl hrow hB1 hB2 hB3 hB4 hB5 HFS htl2 hnl2 he1a he1b
        clear p1 p2 p3 p4 p5
        go_wp2_with fail
        clear g1 g2 g3 g4 g5 e1 e2 q0 q1 q2 q3 q4 q5 q6 q7 c2
        go_loopw [3, 6] (fun aa kk w2 => ∃ (k D : Nat), aa = .int .i64 D ∧ kk = .int .i64 k ∧ k ≤ 300 ∧ k ≤ y.c.row.length ∧ D ≤ 2533274790322176 + k * 140737488351232 ∧ Hid (D = B5 + rs y.c.row k) ∧ Hid (BoxM y wa w2)) (fun _ kk _ => 300 - (intOf kk).toNat)
        case atStart => exact ⟨0, B5, congrArg (Value.int .i64) HG5.out, rfl, by omega, by omega, by omega, hidm rfl, HM⟩
        case round =>
          clear HM
          rename World => wb
          obtain ⟨k, D, rfl, rfl, h300, hk, hD, HD, HQ⟩ := hrel
          have d2 := HQ.out.c2
          have d6 := HQ.out.c6
          by_cases hcond : k < y.c.row.length ∧ k < 300
          · obtain ⟨hk1, hk2⟩ := hcond
            have f3 : (k : Int) < (y.c.row.length : Int) := by omega
            have f4 : (k : Int) < 300 := by omega
            obtain ⟨b2, o2, cp2, he2, _, _, _, _, r3⟩ := (HYN.out.r.later HQ.out.below).1.at k hk1
            simp only [Value.slice.injEq, true_and] at he2
            obtain ⟨he2a, he2b⟩ := he2
            rw [he2a, he2b] at d2
            have hsz : (y.c.row[k]).s.length ≤ 140737488351232 := (HYI.out.row _ (List.getElem_mem hk1)).s
            have HRS := hidm (rs_succ hk1)
            obtain ⟨sl, hsl⟩ : ∃ t, t = (y.c.row[k]).s.length := ⟨_, rfl⟩
            rw [← hsl] at hsz
            obtain ⟨D1, hD1⟩ : ∃ B : Nat, B = D + sl := ⟨_, rfl⟩
            have p1 : D1 < 9223372036854775808 := by omega
            have HD1 := hidm (show D1 = B5 + rs y.c.row (k + 1) from by have := HD.out; have := HRS.out; omega)
            have hD1b : D1 ≤ 2533274790322176 + (k + 1) * 140737488351232 := by omega
            have e3 : (y.c.row[k]).s.toArray.size = sl := by simp [hsl]
            have g1 := addw hD1 p1
            have HG1 := hidm g1
            clear hsl he2a he2b HRS p1
            go_wp2_with fail
            clear e3 g1
            go_roundw
            case rel => exact ⟨k + 1, D1, congrArg (Value.int .i64) HG1.out, by go_num, by omega, by omega, hD1b, HD1, HQ⟩
            case measure => simp [intOf]; omega
          · have HEND := hidm (show D = B5 + rs y.c.row 300 from by rw [HD.out, rs_end h300 (by omega)])
            have hD2 : D ≤ 44754521295691776 := by omega
            have fsp : (¬ (k : Int) < (y.c.row.length : Int)) ∨ ((k : Int) < (y.c.row.length : Int) ∧ ¬ (k : Int) < 300) := by omega
            clear hcond HD hD
            rcases fsp with f3 | ⟨f3, f4⟩
            all_goals
              go_wp2_with fail
              go_loopw [3, 7] (fun aa kk w2 => ∃ (k E : Nat), aa = .int .i64 E ∧ kk = .int .i64 k ∧ k ≤ 300 ∧ k ≤ y.c.df.cols.length ∧ E ≤ 44754521295691776 + k * 140737488351232 ∧ Hid (E = D + ns y.c.df.cols k) ∧ Hid (BoxM y wa w2)) (fun _ kk _ => 300 - (intOf kk).toNat)
              case atStart => exact ⟨0, D, rfl, rfl, by omega, by omega, by omega, hidm rfl, HQ⟩
              case round =>
                clear d2 d6 HQ f3
                obtain ⟨k, E, rfl, rfl, h300, hk, hE, HE, HQ⟩ := hrel
                have d2 := HQ.out.c2
                have d6 := HQ.out.c6
                by_cases hcond : k < y.c.df.cols.length ∧ k < 300
                · obtain ⟨hk1, hk2⟩ := hcond
                  have f3 : (k : Int) < (y.c.df.cols.length : Int) := by omega
                  have f4 : (k : Int) < 300 := by omega
                  obtain ⟨b2, o2, cp2, he2, _, r0, _, _⟩ := (HYN.out.q.later HQ.out.below).at k hk1
                  simp only [Value.slice.injEq, true_and] at he2
                  obtain ⟨he2a, he2b⟩ := he2
                  rw [he2a, he2b] at d6
                  have hsz : (y.c.df.cols[k]).nm.length ≤ 140737488351232 := (HYI.out.df.cs _ (List.getElem_mem hk1)).nm
                  have HNS := hidm (ns_succ hk1)
                  obtain ⟨sl, hsl⟩ : ∃ t, t = (y.c.df.cols[k]).nm.length := ⟨_, rfl⟩
                  rw [← hsl] at hsz
                  obtain ⟨E1, hE1⟩ : ∃ B : Nat, B = E + sl := ⟨_, rfl⟩
                  have p1 : E1 < 9223372036854775808 := by omega
                  have HE1 := hidm (show E1 = D + ns y.c.df.cols (k + 1) from by have := HE.out; have := HNS.out; omega)
                  have hE1b : E1 ≤ 44754521295691776 + (k + 1) * 140737488351232 := by omega
                  have e3 : (y.c.df.cols[k]).nm.toArray.size = sl := by simp [hsl]
                  have g1 := addw hE1 p1
                  have HG1 := hidm g1
                  clear hsl he2a he2b HNS p1
                  go_wp2_with fail
                  clear e3 g1
                  go_roundw
                  case rel => exact ⟨k + 1, E1, congrArg (Value.int .i64) HG1.out, by go_num, by omega, by omega, hE1b, HE1, HQ⟩
                  case measure => simp [intOf]; omega
                · have HTOT := hidm (show E = ws x.l (i + 1) from by
                    rw [HE.out, ns_end h300 (by omega), HEND.out, HB5.out, HA.out, ws_succ hia, ← HY.out]; unfold wt; omega)
                  have fsp : (¬ (k : Int) < (y.c.df.cols.length : Int)) ∨ ((k : Int) < (y.c.df.cols.length : Int) ∧ ¬ (k : Int) < 300) := by omega
                  have hBX := hidm (HB.out.then (HQ.out.below))
                  clear hcond HE hE
                  rcases Nat.lt_or_ge 20000 E with h20 | h20
                  · have f5 : (20000 : Int) < E := by omega
                    have HF := hidm (show litB x.l = false from by
                      have := ws_le x.l (i + 1) hia
                      have := HTOT.out
                      unfold litB; rw [decide_eq_false (show ¬ ws x.l x.l.length ≤ 20000 by omega), Bool.and_false])
                    rcases fsp with f3 | ⟨f3, f4⟩
                    all_goals
                      go_wp2_with fail
                      go_ret
                      exact ⟨1000000, rfl, by rw [HF.out]; rfl, hBX.out.below⟩
                  · have f5 : ¬ (20000 : Int) < E := by omega
                    rcases fsp with f3 | ⟨f3, f4⟩
                    all_goals
                      go_wp2_with fail
                      go_roundw
                      case rel => exact ⟨i + 1, E, rfl, by go_num, by omega, h20, HTOT, hBX⟩
                      case measure => simp [intOf]; omega
      · obtain rfl : i = n := by omega
        have f2 : ¬ (i : Int) < (x.l.length : Int) := by have := HN.out; omega
        have HF := hidm (show litB x.l = true from by
          unfold litB; rw [← HN.out, decide_eq_true hg, ← HA.out, decide_eq_true hA]; rfl)
        go_wp2_with fail
        go_ret
        exact ⟨A, rfl, by rw [HF.out]; exact decide_eq_true (by omega), HB.out.below⟩
end Frm
end Go.Proofs.YtopmbhpjdmcabaaGreat
