/- Rows of values, of the program's package period: slices.Equal, slices.Clone, copied. Condition: at most a million values, of at most 2^48 bytes each. -/
import Derived.Test.YtoacombaddknfaaVr
import Derived.Test.YtoacombaddknfaaId
import Derived.Test.YtoacombaddknfaaR0
namespace Go.Proofs.Ytoacombaddknfaa
open Go.RowKit
namespace Cod
set_option maxHeartbeats 4000000 in
set_option maxRecDepth 100000 in
theorem equal_any (xs ys : List V) (sa sb : Value) (ha : xs.length ≤ 1000000) (hb : ys.length ≤ 1000000) (w : World) (h1 : RowAt xs sa w) (h2 : RowAt ys sb w) :
    Calls Try.prog 46 #[sa, sb] w fun e w' => e = .returned (.bool (decide (xs = ys))) ∧ Below w.heap.size w w' := by
  obtain ⟨ao, acap, rfl, hra⟩ := h1
  obtain ⟨bo, bcap, rfl, hrb⟩ := h2
  have HA : Hid (RowAt xs (.slice ao xs.length acap) w) := hidm ⟨ao, acap, rfl, hra⟩
  have HB : Hid (RowAt ys (.slice bo ys.length bcap) w) := hidm ⟨bo, bcap, rfl, hrb⟩
  clear hra hrb
  obtain ⟨n, hn⟩ : ∃ n, n = xs.length := ⟨_, rfl⟩
  obtain ⟨m, hm⟩ : ∃ m, m = ys.length := ⟨_, rfl⟩
  obtain ⟨F, hF⟩ : ∃ F, F = decide (xs = ys) := ⟨_, rfl⟩
  rw [← hn, ← hm, ← hF]
  have HN := hidm hn
  have HM := hidm hm
  have HF := hidm hF
  have hn' : n ≤ 1000000 := by omega
  have hm' : m ≤ 1000000 := by omega
  clear hn hm hF
  by_cases hnm : n = m
  · have HNM := hidm hnm
    have f0 : ((n : Int) != (m : Int)) = false := by simp; omega
    clear hnm
    go_enter Try.func46, Try.ntmps46
    go_wp2_with fail
    go_loopw [13] (fun ii wr => ∃ i : Nat, ii = .int .i64 i ∧ i ≤ n ∧ Hid (xs.take i = ys.take i) ∧ Hid (Below w.heap.size w wr)) (fun ii _ => (n - (intOf ii).toNat))
    case atStart => exact ⟨0, rfl, by omega, hidm rfl, hidm (Below.refl _ _)⟩
    case round =>
      obtain ⟨i, rfl, hi, HT, HBr⟩ := hrel
      rcases Nat.eq_or_lt_of_le hi with hie | hie
      · have f1 : ¬ (i : Int) < n := by omega
        have HE := hidm hie
        clear hie
        go_wp2_with fail
        go_ret
        refine ⟨congrArg (fun q => Ending.returned (.bool q)) ?_, HBr.out⟩
        rw [HF.out]
        have h := HT.out
        rw [List.take_of_length_le (by have := HE.out; have := HN.out; omega), List.take_of_length_le (by have := HE.out; have := HM.out; have := HNM.out; omega)] at h
        simp [h]
      · have f1 : (i : Int) < n := by omega
        have f2 : (i : Int) < m := by have := HNM.out; omega
        have hia : i < xs.length := by have := HN.out; omega
        have hib : i < ys.length := by have := HM.out; have := HNM.out; omega
        obtain ⟨b1, o1, c1, he1, _, q0, q1, q2, q3⟩ := (HA.out.later HBr.out).at i hia
        obtain ⟨b2, o2, c2, he2, _, r0, r1, r2, r3⟩ := (HB.out.later HBr.out).at i hib
        simp only [Value.slice.injEq, true_and] at he1 he2
        obtain ⟨rfl, rfl⟩ := he1
        obtain ⟨rfl, rfl⟩ := he2
        obtain ⟨x, hx⟩ : ∃ x, x = xs[i] := ⟨_, rfl⟩
        obtain ⟨y, hy⟩ : ∃ y, y = ys[i] := ⟨_, rfl⟩
        rw [← hx] at q0 q1 q2 q3
        rw [← hy] at r0 r1 r2 r3
        have HX := hidm hx
        have HY := hidm hy
        have f3 : (i : Int) < (n : Int) := f1
        clear hx hy
        have heq : Val.eqV x.k x.n x.b (S x.s) y.k y.n y.b (S y.s) = x.same y := rfl
        rcases hsame : x.same y with _ | _
        · have f4 : Val.eqV x.k x.n x.b (S x.s) y.k y.n y.b (S y.s) = false := heq.trans hsame
          clear heq
          go_wp2_with fail
          go_quiet (fail)
          go_wp2_with fail
          go_ret
          refine ⟨congrArg (fun q => Ending.returned (.bool q)) ?_, below_drewN HBr.out _⟩
          rw [HF.out]
          symm
          rw [decide_eq_false_iff_not]
          intro he
          have : x = y := by rw [HX.out, HY.out]; subst he; rfl
          rw [(V.same_iff x y).2 this] at hsame
          cases hsame
        · have f4 : Val.eqV x.k x.n x.b (S x.s) y.k y.n y.b (S y.s) = true := heq.trans hsame
          have hxy := (V.same_iff x y).1 hsame
          have HT2 : Hid (xs.take (i + 1) = ys.take (i + 1)) := by
            refine hidm ?_
            rw [List.take_succ_eq_append_getElem hia, List.take_succ_eq_append_getElem hib, HT.out, ← HX.out, ← HY.out, hxy]
          have HXY := hidm hxy
          clear heq hxy
          go_wp2_with fail
          go_quiet (fail)
          go_wp2_with fail
          go_roundw
          case rel => exact ⟨i + 1, by go_num, by omega, HT2, hidm (below_drewN HBr.out _)⟩
          case measure => simp [intOf]; omega
  · have HNM := hidm hnm
    have f0 : ((n : Int) != (m : Int)) = true := by simp; omega
    clear hnm
    go_enter Try.func46, Try.ntmps46
    go_wp2_with fail
    go_ret
    refine ⟨congrArg (fun q => Ending.returned (.bool q)) ?_, Below.refl _ _⟩
    rw [HF.out]
    symm
    rw [decide_eq_false_iff_not]
    intro he
    have h1 := HN.out
    rw [he, ← HM.out] at h1
    exact HNM.out h1
theorem flat_one (l : List V) : ∀ u, u ∈ flat l → u.oneCell' = true := by
  intro u hu
  simp only [flat, List.mem_flatMap] at hu
  obtain ⟨v, _, hv⟩ := hu
  simp only [V.cells, List.mem_cons, List.not_mem_nil, or_false] at hv
  rcases hv with rfl | rfl | rfl | rfl <;> rfl
theorem RowAt.cells {r : List V} {ad : Addr} {cap : Nat} {w : World} (h : RowAt r (.slice (some ad) r.length cap) w) : ∀ j u, (flat r)[j]? = some u → w.cell? (ad.add j) = some u := by
  intro j u hu
  obtain ⟨ao, c, he, h2⟩ := h
  have hj : j < r.length * 4 := by rw [← flat_len]; exact (List.getElem?_eq_some_iff.1 hu).1
  obtain ⟨b, off, h3, h4, h5⟩ := h2 (fun e => by rw [e] at hj; simp at hj)
  simp only [Value.slice.injEq] at he
  obtain ⟨rfl, _, _⟩ := he
  have e := Option.some.inj h3
  subst e
  have e2 : (⟨b, off, none⟩ : Addr).add j = ⟨b, off + j, none⟩ := by unfold Addr.add; split <;> simp_all
  rw [e2, h5 j hj, hu]
theorem infoV4 : (Try.prog.info? 64).map (fun i => (i.zero, i.size, i.bytes)) = some (some (.agg #[.int .i64 0, .int .i64 0, .int .u64 0, .string ⟨#[]⟩]), 4, 40) := by kernel_rfl
set_option maxHeartbeats 2000000 in
set_option maxRecDepth 100000 in
theorem vclone_any (r : List V) (ao : Option Addr) (c : Nat) (w : World) (hr : RowAt r (.slice ao r.length c) w) (hn : r.length ≤ 1000000) :
    Calls Try.prog 51 #[.slice ao r.length c] w fun e w' => ∃ ao' c', e = .returned (.slice ao' r.length c') ∧ w'.ownsRow w.heap.size 64 4 (.slice ao' r.length c') r.length (flat r) ∧ Below w.heap.size w w' := by
  have hq : ∀ (w : World) (a : Option Addr) (n c n' c' : Nat), (binOp .eql 25 (.slice a n c) (.slice none n' c')).run Try.prog w = .ok (.bool a.isNone) w := fun w a n c n' c' => Lib.run_eql_slice_nil w _ _ a n c n' c' Try.underlying25
  cases ao with
  | none =>
    have h0 : r = [] := by
      obtain ⟨ao, c2, he, h2⟩ := hr
      by_cases hne : r = []
      · exact hne
      · obtain ⟨b, off, h3, _⟩ := h2 hne
        simp only [Value.slice.injEq] at he
        rw [← he.1] at h3
        cases h3
    subst h0
    clear hr hn
    simp only [List.length_nil]
    go_enter Try.func51, Try.ntmps51
    go_wp2_with fail
    go_ret
    exact ⟨none, 0, rfl, World.ownsRow_nil _ _ _ _, Below.refl _ _⟩
  | some ad =>
    obtain ⟨i0, hi0, hz0, hz1, hz2⟩ := Spn.info_parts infoV4
    have hzW : (Value.agg #[.int .i64 0, .int .i64 0, .int .u64 0, .string ⟨#[]⟩]).cells.size = 4 := rfl
    have HO := hidm (show ∀ T, RowAt r (.slice (some ad) r.length c) (w.alloc (.cells #[] T)) from fun T => hr.later (Spn.below_alloc _ _))
    have HL := hidm (flat_len r)
    obtain ⟨n, hn9⟩ : ∃ n, n = r.length := ⟨_, rfl⟩
    obtain ⟨xs, hxs⟩ : ∃ xs, xs = flat r := ⟨_, rfl⟩
    have H1 := hidm (show ∀ v ∈ xs, v.oneCell' = true from by rw [hxs]; exact flat_one r)
    have HC := hidm (show ∀ T j u, xs[j]? = some u → (w.alloc (.cells #[] T)).cell? (ad.add j) = some u from by rw [hxs]; exact fun T => (HO.out T).cells)
    rw [← hn9] at hn ⊢
    rw [← hxs]
    rw [← hxs, ← hn9] at HL
    clear hr HO hn9 hxs
    go_enter Try.func51, Try.ntmps51
    go_wp2_with (at_builtin; refine wpList_append_own _ rfl _ _ 25 rfl w.heap.size 64 i0 (.agg #[.int .i64 0, .int .i64 0, .int .u64 0, .string ⟨#[]⟩]) 4 40 Try.underlying25 hi0 hz0 hz1 hz2 hzW (by decide) _ _ _ rfl (World.ownsRow_made w #[] 0 (Nat.le_refl _) (Nat.zero_le _) rfl) ad n c xs rfl ?qc1 ?qc2 ?qc3 ?qc4 ?qc5 ?qc6 ?_)
    case qc1 => exact HL.out
    case qc2 => exact HC.out _
    case qc3 => exact H1.out
    case qc4 => unfold maxLen; omega
    case qc5 => omega
    case qc6 => simp
    intro v' w1 hown hgrow hnil
    have HOW := hidm (show w1.ownsRow w.heap.size 64 4 v' n xs from by simpa using hown)
    have HGR := hidm (((Below.refl _ w).alloc (Nat.le_refl _) _).grown hgrow (by simp) (by intro k hk; simp [Value.ownBlock] at hk; omega))
    clear hown hgrow hnil
    go_wp2_with fail
    go_ret
    have hf : ∃ ao' c', v' = .slice ao' n c' := by
      rcases HOW.out.2 with ⟨hv, h0⟩ | ⟨g', c2, cur2, hv, _⟩
      · exact ⟨none, 0, by rw [hv, h0]⟩
      · exact ⟨_, _, hv⟩
    obtain ⟨ao', c', rfl⟩ := hf
    exact ⟨ao', c', rfl, HOW.out, HGR.out⟩
/-- What is laid where it lies already changes nothing. -/
theorem set_same {w : World} {g k : Nat} {cur : Array Value} {T : TypeId} {v : Value} (h : w.heap[g]? = some (.cells cur T (0, 0))) (hv : cur[k]? = some v) : w.setCell ⟨g, k, none⟩ v = w := by
  rw [setCell_eq_setRow w g k cur T (0, 0) v h]
  have e : cur.setIfInBounds k v = cur := by
    apply Array.ext_getElem?
    intro j
    rw [Array.getElem?_setIfInBounds]
    by_cases hj : k = j
    · subst hj
      have hk := (Array.getElem?_eq_some_iff.1 hv).1
      simp [hk]
      exact ((Array.getElem?_eq_some_iff.1 hv).2).symm
    · simp [hj]
  rw [e]
  exact setRow_self w g cur T (0, 0) h
set_option maxHeartbeats 4000000 in
set_option maxRecDepth 100000 in
theorem copied_any (r : List V) (ao : Option Addr) (c : Nat) (w : World) (hr : RowAt r (.slice ao r.length c) w) (hn : r.length ≤ 1000000) (hs : ∀ v ∈ r, v.s.length ≤ 281474976710656) :
    Calls Try.prog 34 #[.slice ao r.length c] w fun e w' => ∃ ao' c', e = .returned (.slice ao' r.length c') ∧ w'.ownsRow w.heap.size 64 4 (.slice ao' r.length c') r.length (flat r) ∧ Below w.heap.size w w' := by
  have C1 := hidm (vclone_any r ao c w hr hn)
  have HS := hidm hs
  obtain ⟨n, hn9⟩ : ∃ n, n = r.length := ⟨_, rfl⟩
  rw [← hn9] at C1 hn ⊢
  have HN := hidm hn9
  clear hr hs hn9
  go_enter Try.func34, Try.ntmps34
  go_wp2_with fail
  refine C1.out.mono ?_
  rintro e w1 ⟨ao', c', rfl, ho, hb⟩
  have HO1 := hidm ho
  have HB1 := hidm hb
  clear ho hb C1
  go_wp2_with fail
  go_loopw [9] (fun ii wr => ∃ i : Nat, ii = .int .i64 i ∧ i ≤ n ∧ Hid (wr.ownsRow w.heap.size 64 4 (.slice ao' n c') n (flat r)) ∧ Hid (Below w.heap.size w wr)) (fun ii _ => (n - (intOf ii).toNat))
  case atStart => exact ⟨0, rfl, by omega, HO1, HB1⟩
  case round =>
    rename World => wr
    obtain ⟨i, rfl, hi, HO, HB⟩ := hrel
    clear HO1 HB1
    rcases Nat.lt_or_ge i n with hlt | hge
    · have f1 : (i : Int) < n := by omega
      have hib : i < r.length := by have := HN.out; omega
      obtain ⟨x, hx⟩ : ∃ v, v = r[i] := ⟨_, rfl⟩
      have HXS := hidm (show x.s.length ≤ 281474976710656 from by rw [hx]; exact HS.out _ (List.getElem_mem hib))
      obtain ⟨g, cur, ha, hg, hh, hcz, hc4, htk⟩ : ∃ g cur, ao' = some ⟨g, 0, none⟩ ∧ w.heap.size ≤ g ∧ wr.heap[g]? = some (.cells cur 64 (0, 0)) ∧ i * 4 + 3 < cur.size ∧ cur[i * 4 + 3]? = some (.string (S x.s)) ∧ n ≤ c' := by
        rcases HO.out.2 with ⟨_, h0⟩ | ⟨g, cap, cur, hv, hg, hh, hnc, _, hsz, htk⟩
        · omega
        · simp only [Value.slice.injEq, true_and] at hv
          obtain ⟨rfl, rfl⟩ := hv
          have h4 : (flat r)[i * 4 + 3]? = some (.string (S x.s)) := by rw [flat_at r i hib 3 (by omega), ← hx]; rfl
          have hlt9 : i * 4 + 3 < n * 4 := by omega
          refine ⟨g, cur, rfl, hg, hh, ?_, ?_, hnc⟩
          · rw [hsz]
            have := Nat.mul_le_mul_right 4 hnc
            omega
          · rw [← htk, List.getElem?_take_of_lt hlt9] at h4
            simpa using h4
      subst ha
      have r3 : wr.cell? ⟨g, i * 4 + 3, none⟩ = some (.string (S x.s)) := by rw [cell_of_row _ _ _ _ _ (0, 0) hh]; exact hc4
      have HH := hidm hh
      have HC4 := hidm hc4
      clear hx hh hc4
      go_wp2_with fail
      refine (strclone_of x.s HXS.out _).mono ?_
      rintro e w2 ⟨rfl, hb⟩
      have HH2 := hidm (below_keeps hb HH.out)
      have HSET := hidm (set_same HH2.out HC4.out)
      have hlt2 : g < w2.heap.size := lt_of_block HH2.out
      have HO2 := hidm (show w2.ownsRow w.heap.size 64 4 (.slice (some ⟨g, 0, none⟩) n c') n (flat r) from Spn.own_of HO.out (fun k hk => by
        simp only [Value.ownBlock, Option.some.injEq] at hk
        subst hk
        rw [HH2.out, HH.out]))
      have HB2 := hidm (HB.out.trans (hb.mono HB.out.size))
      have z3 : w2.frozen? ⟨g, i * 4 + 3, none⟩ = false := by simp [World.frozen?, HH2.out]
      have q3 : w2.cell? ⟨g, i * 4 + 3, none⟩ = some (.string (S x.s)) := by rw [cell_of_row _ _ _ _ _ (0, 0) HH2.out]; exact HC4.out
      clear hb
      go_wp2_with fail
      go_roundw
      case rel => exact ⟨i + 1, by go_num, by omega, by rw [HSET.out]; exact HO2, by rw [HSET.out]; exact HB2⟩
      case measure => simp [intOf]; omega
    · obtain rfl : i = n := by omega
      go_wp2_with fail
      go_ret
      exact ⟨ao', c', rfl, HO.out, HB.out⟩
end Cod
end Go.Proofs.Ytoacombaddknfaa
