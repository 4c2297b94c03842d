/- Package frame's Same. Condition: at most a million columns and values. -/
import Derived.Test.YtopmbhpjdmcabaaGreatGp
import Derived.Test.YtopmbhpjdmcabaaGreatGd
namespace Go.Proofs.YtopmbhpjdmcabaaGreat
open Go.RowKit
namespace Cod
set_option maxHeartbeats 4000000 in
set_option maxRecDepth 100000 in
theorem equalv_any (xs ys : List V) (sa sb : Value) (ha : xs.length ≤ 1000000) (hb : ys.length ≤ 1000000) (w : World) (h1 : RowAt xs sa w) (h2 : RowAt ys sb w) :
    Calls Tryz.prog 71 #[sa, sb] w fun e w' => e = .returned (.bool (decide (xs = ys))) ∧ Below w.heap.size w w' := by
  obtain ⟨ao, acap, rfl, hra⟩ := h1
  obtain ⟨bo, bcap, rfl, hrb⟩ := h2
  have HA : Hid (RowAt xs (.slice ao xs.length acap) w) := hidm ⟨ao, acap, rfl, hra⟩
  have HB : Hid (RowAt ys (.slice bo ys.length bcap) w) := hidm ⟨bo, bcap, rfl, hrb⟩
  clear hra hrb
  obtain ⟨n, hn⟩ : ∃ n, n = xs.length := ⟨_, rfl⟩
  obtain ⟨m, hm⟩ : ∃ m, m = ys.length := ⟨_, rfl⟩
  obtain ⟨F, hF⟩ : ∃ F, F = decide (xs = ys) := ⟨_, rfl⟩
  rw [← hn, ← hm, ← hF]
  have HN := hidm hn
  have HM := hidm hm
  have HF := hidm hF
  have hn' : n ≤ 1000000 := by omega
  have hm' : m ≤ 1000000 := by omega
  clear hn hm hF
  by_cases hnm : n = m
  · have HNM := hidm hnm
    have f0 : ((n : Int) != (m : Int)) = false := by simp; omega
    clear hnm
    go_enter Tryz.func71, Tryz.ntmps71
    go_wp2_with fail
    go_loopw [13] (fun ii wr => ∃ i : Nat, ii = .int .i64 i ∧ i ≤ n ∧ Hid (xs.take i = ys.take i) ∧ Hid (Below w.heap.size w wr)) (fun ii _ => (n - (intOf ii).toNat))
    case atStart => exact ⟨0, rfl, by omega, hidm rfl, hidm (Below.refl _ _)⟩
    case round =>
      obtain ⟨i, rfl, hi, HT, HBr⟩ := hrel
      rcases Nat.eq_or_lt_of_le hi with hie | hie
      · have f1 : ¬ (i : Int) < n := by omega
        have HE := hidm hie
        clear hie
        go_wp2_with fail
        go_ret
        refine ⟨congrArg (fun q => Ending.returned (.bool q)) ?_, HBr.out⟩
        rw [HF.out]
        have h := HT.out
        rw [List.take_of_length_le (by have := HE.out; have := HN.out; omega), List.take_of_length_le (by have := HE.out; have := HM.out; have := HNM.out; omega)] at h
        simp [h]
      · have f1 : (i : Int) < n := by omega
        have f2 : (i : Int) < m := by have := HNM.out; omega
        have hia : i < xs.length := by have := HN.out; omega
        have hib : i < ys.length := by have := HM.out; have := HNM.out; omega
        obtain ⟨b1, o1, c1, he1, _, q0, q1, q2, q3⟩ := (HA.out.later HBr.out).at i hia
        obtain ⟨b2, o2, c2, he2, _, r0, r1, r2, r3⟩ := (HB.out.later HBr.out).at i hib
        simp only [Value.slice.injEq, true_and] at he1 he2
        obtain ⟨rfl, rfl⟩ := he1
        obtain ⟨rfl, rfl⟩ := he2
        obtain ⟨x, hx⟩ : ∃ x, x = xs[i] := ⟨_, rfl⟩
        obtain ⟨y, hy⟩ : ∃ y, y = ys[i] := ⟨_, rfl⟩
        rw [← hx] at q0 q1 q2 q3
        rw [← hy] at r0 r1 r2 r3
        have HX := hidm hx
        have HY := hidm hy
        have f3 : (i : Int) < (n : Int) := f1
        clear hx hy
        have heq : Val.eqV x.k x.n x.b (S x.s) y.k y.n y.b (S y.s) = x.same y := rfl
        rcases hsame : x.same y with _ | _
        · have f4 : Val.eqV x.k x.n x.b (S x.s) y.k y.n y.b (S y.s) = false := heq.trans hsame
          clear heq
          go_wp2_with fail
          go_quiet (fail)
          go_wp2_with fail
          go_ret
          refine ⟨congrArg (fun q => Ending.returned (.bool q)) ?_, below_drewN HBr.out _⟩
          rw [HF.out]
          symm
          rw [decide_eq_false_iff_not]
          intro he
          have : x = y := by rw [HX.out, HY.out]; subst he; rfl
          rw [(V.same_iff x y).2 this] at hsame
          cases hsame
        · have f4 : Val.eqV x.k x.n x.b (S x.s) y.k y.n y.b (S y.s) = true := heq.trans hsame
          have hxy := (V.same_iff x y).1 hsame
          have HT2 : Hid (xs.take (i + 1) = ys.take (i + 1)) := by
            refine hidm ?_
            rw [List.take_succ_eq_append_getElem hia, List.take_succ_eq_append_getElem hib, HT.out, ← HX.out, ← HY.out, hxy]
          have HXY := hidm hxy
          clear heq hxy
          go_wp2_with fail
          go_quiet (fail)
          go_wp2_with fail
          go_roundw
          case rel => exact ⟨i + 1, by go_num, by omega, HT2, hidm (below_drewN HBr.out _)⟩
          case measure => simp [intOf]; omega
  · have HNM := hidm hnm
    have f0 : ((n : Int) != (m : Int)) = true := by simp; omega
    clear hnm
    go_enter Tryz.func71, Tryz.ntmps71
    go_wp2_with fail
    go_ret
    refine ⟨congrArg (fun q => Ending.returned (.bool q)) ?_, Below.refl _ _⟩
    rw [HF.out]
    symm
    rw [decide_eq_false_iff_not]
    intro he
    have h1 := HN.out
    rw [he, ← HM.out] at h1
    exact HNM.out h1
end Cod
namespace Frm
open Cod Sch
theorem equalv_is {xs ys : List V} {x : Bool} (hx : decide (xs = ys) = x) (sa sb : Value) (ha : xs.length ≤ 1000000) (hb : ys.length ≤ 1000000) (w : World) (h1 : RowAt xs sa w) (h2 : RowAt ys sb w) :
    Calls Tryz.prog 71 #[sa, sb] w fun e w' => e = .returned (.bool x) ∧ Below w.heap.size w w' := by
  have h := equalv_any xs ys sa sb ha hb w h1 h2
  refine h.mono fun e w' hh => ⟨hh.1.trans ?_, hh.2⟩
  rw [← hx]
set_option maxHeartbeats 4000000 in
set_option maxRecDepth 100000 in
theorem samech_is {x y : M} {F : Bool} (hF : decide (x.c = y.c) = F) (lx : ChLim x.c) (ly : ChLim y.c) (w : World) (hx : x.In w) (hy : y.In w) :
    Calls Tryz.prog 43 #[.agg #[.int .i64 x.c.op, .string (S x.c.tb), .slice x.ro x.c.row.length x.rc, .int .i64 x.c.a, .int .i64 x.c.z, .string (S x.c.df.nm), .slice x.qo x.c.df.cols.length x.qc, .int .i64 x.c.df.keys], .agg #[.int .i64 y.c.op, .string (S y.c.tb), .slice y.ro y.c.row.length y.rc, .int .i64 y.c.a, .int .i64 y.c.z, .string (S y.c.df.nm), .slice y.qo y.c.df.cols.length y.qc, .int .i64 y.c.df.keys]] w fun e w' => e = .returned (.bool F) ∧ Below w.heap.size w w' := by
  have HF := hidm hF
  have LX := hidm lx
  have LY := hidm ly
  have HXI := hidm hx
  have HYI := hidm hy
  have HM := hidm (BoxM2.start x y w)
  clear hF lx ly hx hy
  by_cases h1 : x.c.op = y.c.op
  rotate_left
  · have HFF := hidm (show F = false from by rw [← HF.out]; exact decide_eq_false (fun e => h1 (congrArg Ch.op e)))
    have f6 : (x.c.op == y.c.op) = false := by simpa using h1
    clear h1
    go_enter Tryz.func43, Tryz.ntmps43
    go_wp2_with fail
    go_ret
    exact ⟨Val.ret_bool HFF.out.symm, HM.out.below⟩
  have E1 := hidm h1
  have f6 : (x.c.op == y.c.op) = true := by simpa using h1
  clear h1
  by_cases h1 : x.c.tb = y.c.tb
  rotate_left
  · have HFF := hidm (show F = false from by rw [← HF.out]; exact decide_eq_false (fun e => h1 (congrArg Ch.tb e)))
    have f8 : (x.c.tb == y.c.tb) = false := by simpa using h1
    clear h1
    go_enter Tryz.func43, Tryz.ntmps43
    go_wp2_with fail
    go_ret
    exact ⟨Val.ret_bool HFF.out.symm, HM.out.below⟩
  have E2 := hidm h1
  have f8 : (x.c.tb == y.c.tb) = true := by simpa using h1
  clear h1
  obtain ⟨p, hp⟩ : ∃ p, decide (x.c.row = y.c.row) = p := ⟨_, rfl⟩
  have HP := hidm hp
  obtain ⟨q, hq⟩ : ∃ q, sameB x.c.df y.c.df = q := ⟨_, rfl⟩
  have HQ := hidm hq
  clear hp hq
  go_enter Tryz.func43, Tryz.ntmps43
  go_wp2_with fail
  refine (equalv_is HP.out _ _ LX.out.rn LY.out.rn _ (HXI.out.r.later HM.out.below).1 (HYI.out.r.later HM.out.below).1).mono ?_
  rintro e wb ⟨rfl, hb⟩
  have HM1 := hidm (HM.out.then hb)
  clear hb f6 f8
  cases p
  · have HFF := hidm (show F = false from by rw [← HF.out]; exact decide_eq_false (fun e => of_decide_eq_false HP.out (congrArg Ch.row e)))
    go_wp2_with fail
    go_ret
    exact ⟨Val.ret_bool HFF.out.symm, HM1.out.below⟩
  have m4 := HM1.out.a3
  have m5 := HM1.out.a4
  have k4 := HM1.out.b3
  have k5 := HM1.out.b4
  rcases h1 : eqS x.c.a x.c.z y.c.a y.c.z with _ | _
  · have HFF := hidm (show F = false from by rw [← HF.out]; exact decide_eq_false (fun e => by rw [e] at h1; unfold eqS at h1; simp at h1))
    go_wp2_with fail
    go_ret
    exact ⟨Val.ret_bool HFF.out.symm, HM1.out.below⟩
  have E3 := hidm (show x.c.a = y.c.a ∧ x.c.z = y.c.z from by unfold eqS at h1; simpa using h1)
  have m6 := HM1.out.a5
  have m7 := HM1.out.a6
  have m8 := HM1.out.a7
  have k6 := HM1.out.b5
  have k7 := HM1.out.b6
  have k8 := HM1.out.b7
  go_wp2_with fail
  refine (ssame_is HQ.out _ _ LX.out.n LY.out.n _ (HXI.out.q.later HM1.out.below) (HYI.out.q.later HM1.out.below)).mono ?_
  rintro e wc ⟨rfl, hb⟩
  have HM2 := hidm (HM1.out.then hb)
  clear hb m4 m5 m6 m7 m8 k4 k5 k6 k7 k8 h1
  have HFQ := hidm (show F = q from by
    rw [← HF.out, ← HQ.out]
    unfold sameB
    refine decide_eq_decide.2 ⟨fun e => congrArg Ch.df e, fun e5 => ?_⟩
    have e4 := of_decide_eq_true HP.out
    have e1 := E1.out
    have e2 := E2.out
    have e3 := E3.out
    cases hx : x.c
    cases hy : y.c
    simp only [hx, hy] at e1 e2 e3 e4 e5
    rw [e1, e2, e3.1, e3.2, e4, e5])
  go_wp2_with fail
  go_ret
  exact ⟨Val.ret_bool HFQ.out.symm, HM2.out.below⟩
set_option maxHeartbeats 4000000 in
set_option maxRecDepth 100000 in
theorem eqfunc_is (l m : List M) (so to : Option Addr) (sc tc : Nat) (ll : ∀ c ∈ l, ChLim c.c) (lm : ∀ c ∈ m, ChLim c.c) (w : World) (hl : MsAt l (.slice so l.length sc) w) (hm : MsAt m (.slice to m.length tc) w) :
    Calls Tryz.prog 42 #[.slice so l.length sc, .slice to m.length tc, .func (.func 43) #[] #[]] w fun e w' => e = .returned (.bool (decide (l.map M.c = m.map M.c))) ∧ Below w.heap.size w w' := by
  obtain ⟨F, hF⟩ : ∃ F, F = decide (l.map M.c = m.map M.c) := ⟨_, rfl⟩
  have HF := hidm hF
  rw [← hF]
  have HL := hidm hl
  have HM := hidm hm
  have LL := hidm ll
  have LM := hidm lm
  obtain ⟨n, hn⟩ : ∃ n, n = l.length := ⟨_, rfl⟩
  have HN := hidm hn
  have hnb : n ≤ 9223372036854775807 := by
    obtain ⟨_, _, _, h1, h2⟩ := MsAt.form hl
    omega
  clear hF hl hm ll lm
  by_cases h1 : l.length = m.length
  rotate_left
  · have HFF := hidm (show F = false from by
      rw [HF.out]; exact decide_eq_false (fun e => h1 (by have := congrArg List.length e; simpa using this)))
    have f3 : ((l.length : Int) != (m.length : Int)) = true := by simp; omega
    clear h1 hn
    go_enter Tryz.func42, Tryz.ntmps42
    go_wp2_with fail
    go_ret
    exact ⟨Val.ret_bool HFF.out.symm, Below.refl _ _⟩
  have H3 := hidm h1
  have f3 : ((l.length : Int) != (m.length : Int)) = false := by simp; omega
  clear h1 hn
  go_enter Tryz.func42, Tryz.ntmps42
  go_wp2_with fail
  clear f3
  go_loopw [17] (fun ii wr => ∃ i : Nat, ii = .int .i64 i ∧ i ≤ n ∧ Hid (∀ j, j < i → (l.map M.c)[j]? = (m.map M.c)[j]?) ∧ Hid (Below w.heap.size w wr)) (fun ii _ => (n - (intOf ii).toNat))
  case atStart => exact ⟨0, rfl, by omega, hidm (fun j hj => absurd hj (Nat.not_lt_zero j)), hidm (Below.refl _ _)⟩
  case round =>
    rename World => wa
    obtain ⟨i, rfl, hi, HT, HB⟩ := hrel
    rcases Nat.lt_or_ge i n with hlt | hge
    · have hia : i < l.length := by have := HN.out; omega
      have hib : i < m.length := by have := HN.out; have := H3.out; omega
      have f4 : (i : Int) < (l.length : Int) := by omega
      have f5 : (i : Int) < (m.length : Int) := by omega
      have hra := HL.out.later HB.out
      have hrb := HM.out.later HB.out
      obtain ⟨g1, o1, cp1, he1, hg1, q0, q1, q2, q3, q4, q5, q6, q7⟩ := MsAt.at hra i hia
      obtain ⟨g2, o2, cp2, he2, hg2, r0, r1, r2, r3, r4, r5, r6, r7⟩ := MsAt.at hrb i hib
      have hxin := MsAt.in hra i hia
      have hyin := MsAt.in hrb i hib
      simp only [Value.slice.injEq, true_and] at he1 he2
      obtain ⟨he1a, he1b⟩ := he1
      obtain ⟨he2a, he2b⟩ := he2
      have LX := hidm (LL.out _ (List.getElem_mem hia))
      have LY := hidm (LM.out _ (List.getElem_mem hib))
      have HNE := hidm (show decide (l[i].c = m[i].c) = false → F = false from fun hne => by
        rw [HF.out]; exact decide_eq_false (fun e => of_decide_eq_false hne (by
          have h2 : (l.map M.c)[i]? = (m.map M.c)[i]? := by rw [e]
          simpa [hia, hib] using h2)))
      have HEQ := hidm (show decide (l[i].c = m[i].c) = true → ∀ j, j < i + 1 → (l.map M.c)[j]? = (m.map M.c)[j]? from fun he j hj => by
        rcases Nat.lt_or_ge j i with h | h
        · exact HT.out j h
        · obtain rfl : j = i := by omega
          simp [hia, hib, of_decide_eq_true he])
      obtain ⟨x, hx⟩ : ∃ x, x = l[i] := ⟨_, rfl⟩
      obtain ⟨y, hy⟩ : ∃ y, y = m[i] := ⟨_, rfl⟩
      rw [← hx] at q0 q1 q2 q3 q4 q5 q6 q7 hxin LX
      rw [← hy] at r0 r1 r2 r3 r4 r5 r6 r7 hyin LY
      rw [← hx, ← hy] at HNE HEQ
      have HXI := hidm hxin
      have HYI := hidm hyin
      have HMM := hidm (BoxM2.start x y wa)
      have hax : Below wa.heap.size wa (wa.alloc (.cells #[.int .i64 x.c.op, .string (S x.c.tb), .slice x.ro x.c.row.length x.rc, .int .i64 x.c.a, .int .i64 x.c.z, .string (S x.c.df.nm), .slice x.qo x.c.df.cols.length x.qc, .int .i64 x.c.df.keys] 32)) := (Below.refl _ _).alloc (Nat.le_refl _) _
      have r0' := cell_later hax r0
      have r1' := cell_later hax r1
      have r2' := cell_later hax r2
      have r3' := cell_later hax r3
      have r4' := cell_later hax r4
      have r5' := cell_later hax r5
      have r6' := cell_later hax r6
      have r7' := cell_later hax r7
      obtain ⟨t, ht⟩ : ∃ t, decide (x.c = y.c) = t := ⟨_, rfl⟩
      rw [ht] at HNE HEQ
      have HTT := hidm ht
      clear hx hy hxin hyin hra hrb hax r0 r1 r2 r3 r4 r5 r6 r7 ht
      rw [he1a, he1b, he2a, he2b]
      clear he1a he1b he2a he2b
      go_wp2_with fail
      refine (samech_is HTT.out LX.out LY.out _ (HXI.out.later HMM.out.below) (HYI.out.later HMM.out.below)).mono ?_
      rintro e wb ⟨rfl, hb⟩
      have HB2 := hidm (HB.out.trans ((HMM.out.then hb).below.mono HB.out.size))
      clear hb q0 q1 q2 q3 q4 q5 q6 q7 r0' r1' r2' r3' r4' r5' r6' r7'
      cases t
      · have HFF := hidm (HNE.out rfl)
        clear HNE HEQ
        go_wp2_with fail
        go_ret
        exact ⟨Val.ret_bool HFF.out.symm, HB2.out⟩
      · have HNT := hidm (HEQ.out rfl)
        clear HNE HEQ
        go_wp2_with fail
        go_roundw
        case rel => exact ⟨i + 1, by go_num, by omega, HNT, HB2⟩
        case measure => simp [intOf]; omega
    · obtain rfl : i = n := by omega
      have f4 : ¬ (i : Int) < (l.length : Int) := by have := HN.out; omega
      have HTR := hidm (show F = true from by
        rw [HF.out]
        refine decide_eq_true (List.ext_getElem? fun j => ?_)
        rcases Nat.lt_or_ge j i with h | h
        · exact HT.out j h
        · rw [List.getElem?_eq_none (by have := HN.out; simp; omega), List.getElem?_eq_none (by have := HN.out; have := H3.out; simp; omega)])
      go_wp2_with fail
      go_ret
      exact ⟨Val.ret_bool HTR.out.symm, HB.out⟩
set_option maxHeartbeats 4000000 in
set_option maxRecDepth 100000 in
theorem fsame_is {a b : X} {F : Bool} (hF : decide (a.tx = b.tx) = F) (la : ∀ c ∈ a.l, ChLim c.c) (lb : ∀ c ∈ b.l, ChLim c.c) (w : World) (ha : a.In w) (hb : b.In w) :
    Calls Tryz.prog 15 #[.agg #[.int .i64 a.seq, .int .i64 a.tm, .slice a.co a.l.length a.cc], .agg #[.int .i64 b.seq, .int .i64 b.tm, .slice b.co b.l.length b.cc]] w fun e w' => e = .returned (.bool F) ∧ Below w.heap.size w w' := by
  have HF := hidm hF
  have HS0 := hidm (BoxX2.start a b w)
  have C := hidm (eqfunc_is a.l b.l a.co b.co a.cc b.cc la lb _ (ha.later HS0.out.below) (hb.later HS0.out.below))
  clear hF ha hb la lb
  by_cases h1 : a.seq = b.seq
  rotate_left
  · have HFF := hidm (show F = false from by rw [← HF.out]; exact decide_eq_false (fun e => h1 (congrArg Tx.seq e)))
    have f1 : (a.seq == b.seq) = false := by simpa using h1
    clear h1
    go_enter Tryz.func15, Tryz.ntmps15
    go_wp2_with fail
    go_ret
    exact ⟨Val.ret_bool HFF.out.symm, HS0.out.below⟩
  have H1 := hidm h1
  have f1 : (a.seq == b.seq) = true := by simpa using h1
  clear h1
  by_cases h1 : a.tm = b.tm
  rotate_left
  · have HFF := hidm (show F = false from by rw [← HF.out]; exact decide_eq_false (fun e => h1 (congrArg Tx.tm e)))
    have f2 : (a.tm == b.tm) = false := by simpa using h1
    clear h1
    go_enter Tryz.func15, Tryz.ntmps15
    go_wp2_with fail
    go_ret
    exact ⟨Val.ret_bool HFF.out.symm, HS0.out.below⟩
  have H2 := hidm h1
  have f2 : (a.tm == b.tm) = true := by simpa using h1
  clear h1
  have HFQ := hidm (show decide (a.l.map M.c = b.l.map M.c) = F from by
    rw [← HF.out]
    refine decide_eq_decide.2 ⟨fun e => ?_, fun e => congrArg Tx.chs e⟩
    unfold X.tx
    rw [H1.out, H2.out, e])
  go_enter Tryz.func15, Tryz.ntmps15
  go_wp2_with fail
  refine C.out.mono ?_
  rintro e w1 ⟨rfl, hb⟩
  rw [HFQ.out]
  have HS1 := hidm (HS0.out.then hb)
  clear hb
  go_wp2_with fail
  go_ret
  exact ⟨rfl, HS1.out.below⟩
end Frm
end Go.Proofs.YtopmbhpjdmcabaaGreat
