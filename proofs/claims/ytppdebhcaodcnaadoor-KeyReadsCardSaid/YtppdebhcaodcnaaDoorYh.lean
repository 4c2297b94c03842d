/- Next, Compare and Prefix of package key, with the library's CompareFunc and EqualFunc at its own types. Conditions: the slices hold at most a million values each. -/
import Derived.Test.YtppdebhcaodcnaaDoorYg
namespace Go.Proofs.YtppdebhcaodcnaaDoor
open Go.RowKit Cod
namespace Ky
theorem lt_of_cell {b o : Nat} {u : Value} {w : World} (h : w.cell? ⟨b, o, none⟩ = some u) : b < w.heap.size := World.block_lt_of_cell? w _ h
theorem next_any (s : ByteArray) (hs : s.size ≤ 1000000) (w : World) :
    Calls Tryd.prog 22 #[.string s] w fun e w' => e = .returned (.string (S (s.data.toList ++ [0]))) ∧ w = w' := by
  have hs' : ¬ 9223372036854775807 < s.size + 1 := by omega
  go_enter Tryd.func22, Tryd.ntmps22
  go_wp2_with fail
  go_ret
  refine ⟨congrArg (fun q => Ending.returned (.string q)) ?_, rfl⟩
  conv => lhs; lhs; rw [← S_of s]
  exact S_append _ [0]
theorem cmpK_drop {xs ys : List V} (i : Nat) (h1 : i < xs.length) (h2 : i < ys.length) : cmpK (xs.drop i) (ys.drop i) = if cmp xs[i] ys[i] = 0 then cmpK (xs.drop (i + 1)) (ys.drop (i + 1)) else cmp xs[i] ys[i] := by
  rw [List.drop_eq_getElem_cons h1, List.drop_eq_getElem_cons h2]; rfl
theorem cmpK_end1 {xs ys : List V} (i : Nat) (h1 : i < xs.length) (h2 : ys.length ≤ i) : cmpK (xs.drop i) (ys.drop i) = 1 := by
  rw [List.drop_eq_getElem_cons h1, List.drop_of_length_le h2]; rfl
theorem cmpK_end2 {xs ys : List V} (i : Nat) (h1 : xs.length ≤ i) (h2 : i < ys.length) : cmpK (xs.drop i) (ys.drop i) = -1 := by
  rw [List.drop_of_length_le h1, List.drop_eq_getElem_cons h2]; rfl
theorem cmpK_end3 {xs ys : List V} (i : Nat) (h1 : xs.length ≤ i) (h2 : ys.length ≤ i) : cmpK (xs.drop i) (ys.drop i) = 0 := by
  rw [List.drop_of_length_le h1, List.drop_of_length_le h2]; rfl
set_option maxHeartbeats 4000000 in
set_option maxRecDepth 100000 in
theorem cmpfunc_any (xs ys : List V) (sa sb : Value) (ha : xs.length ≤ 1000000) (hb : ys.length ≤ 1000000) (w : World) (h1 : RowAt xs sa w) (h2 : RowAt ys sb w) :
    Calls Tryd.prog 44 #[sa, sb, .func (.func 32) #[] #[]] w fun e w' => e = .returned (.int .i64 (cmpK xs ys)) ∧ Below w.heap.size w w' := by
  obtain ⟨ao, acap, rfl, hra⟩ := h1
  obtain ⟨bo, bcap, rfl, hrb⟩ := h2
  have HA : Hid (RowAt xs (.slice ao xs.length acap) w) := hidm ⟨ao, acap, rfl, hra⟩
  have HB : Hid (RowAt ys (.slice bo ys.length bcap) w) := hidm ⟨bo, bcap, rfl, hrb⟩
  clear hra hrb
  obtain ⟨n, hn⟩ : ∃ n, n = xs.length := ⟨_, rfl⟩
  obtain ⟨m, hm⟩ : ∃ m, m = ys.length := ⟨_, rfl⟩
  obtain ⟨F, hF⟩ : ∃ F, F = cmpK xs ys := ⟨_, rfl⟩
  rw [← hn, ← hm, ← hF]
  have HN := hidm hn
  have HM := hidm hm
  have HF := hidm hF
  have hn' : n ≤ 1000000 := by omega
  have hm' : m ≤ 1000000 := by omega
  clear hn hm hF ha hb
  go_enter Tryd.func44, Tryd.ntmps44
  go_wp2_with fail
  go_loopw [13] (fun ii wr => ∃ i : Nat, ii = .int .i64 i ∧ i ≤ n ∧ i ≤ m ∧ Hid (F = cmpK (xs.drop i) (ys.drop i)) ∧ Hid (Below w.heap.size w wr)) (fun ii _ => (n - (intOf ii).toNat))
  case atStart => exact ⟨0, rfl, by omega, by omega, hidm (by simpa using HF.out), hidm (Below.refl _ _)⟩
  case round =>
    obtain ⟨i, rfl, hi, hi2, HT, HBr⟩ := hrel
    rcases Nat.eq_or_lt_of_le hi with hie | hie
    · have f1 : ¬ (i : Int) < n := by omega
      have HE := hidm hie
      clear hie
      rcases Nat.lt_or_ge n m with hnm | hnm
      · have f2 : (n : Int) < m := by omega
        go_wp2_with fail
        go_ret
        refine ⟨congrArg (fun q => Ending.returned (.int .i64 q)) ?_, HBr.out⟩
        rw [HT.out, cmpK_end2 i (by have := HE.out; have := HN.out; omega) (by have := HE.out; have := HM.out; omega)]
      · have f2 : ¬ (n : Int) < m := by omega
        go_wp2_with fail
        go_ret
        refine ⟨congrArg (fun q => Ending.returned (.int .i64 q)) ?_, HBr.out⟩
        rw [HT.out, cmpK_end3 i (by have := HE.out; have := HN.out; omega) (by have := HE.out; have := HM.out; omega)]
    · have f1 : (i : Int) < n := by omega
      have hia : i < xs.length := by have := HN.out; omega
      rcases Nat.lt_or_ge i m with him | him
      · have f2 : (i : Int) < m := by omega
        have f3 : ¬ (m : Int) ≤ i := by omega
        have hib : i < ys.length := by have := HM.out; omega
        obtain ⟨b1, o1, c1, he1, _, q0, q1, q2, q3⟩ := (HA.out.later HBr.out).at i hia
        obtain ⟨b2, o2, c2, he2, _, r0, r1, r2, r3⟩ := (HB.out.later HBr.out).at i hib
        simp only [Value.slice.injEq, true_and] at he1 he2
        obtain ⟨rfl, rfl⟩ := he1
        obtain ⟨rfl, rfl⟩ := he2
        obtain ⟨x, hx⟩ : ∃ x, x = xs[i] := ⟨_, rfl⟩
        obtain ⟨y, hy⟩ : ∃ y, y = ys[i] := ⟨_, rfl⟩
        rw [← hx] at q0 q1 q2 q3
        rw [← hy] at r0 r1 r2 r3
        have HX := hidm hx
        have HY := hidm hy
        have hsz := HBr.out.size
        have t0 := lt_of_cell q0
        have t1 := lt_of_cell r0
        clear hx hy
        obtain ⟨c, hc⟩ : ∃ c, c = cmp x y := ⟨_, rfl⟩
        have hcx := Val.compare_any x.k x.n x.b (S x.s) y.k y.n y.b (S y.s) ((wr.alloc (.cells #[.int .i64 x.k, .int .i64 x.n, .int .u64 x.b, .string (S x.s)] 25)).alloc (.cells #[.int .i64 y.k, .int .i64 y.n, .int .u64 y.b, .string (S y.s)] 25))
        have hcc : Val.cmpV x.k x.n x.b (S x.s) y.k y.n y.b (S y.s) = c := hc.symm
        rw [hcc] at hcx
        have HC := hidm hc
        have B1 : Hid (Below w.heap.size w ((wr.alloc (.cells #[.int .i64 x.k, .int .i64 x.n, .int .u64 x.b, .string (S x.s)] 25)).alloc (.cells #[.int .i64 y.k, .int .i64 y.n, .int .u64 y.b, .string (S y.s)] 25))) := hidm ((HBr.out.alloc hsz _).alloc (by simp; omega) _)
        clear hc hcc
        rcases Decidable.em (c = 0) with hz | hz
        · have HZ := hidm hz
          have f4 : (c != 0) = false := by rw [hz]; rfl
          have HT2 : Hid (F = cmpK (xs.drop (i + 1)) (ys.drop (i + 1))) := hidm (by rw [HT.out, cmpK_drop i hia hib, ← HX.out, ← HY.out, ← HC.out, if_pos hz])
          clear hz
          go_wp2_with fail
          refine hcx.mono ?_
          rintro e w3 ⟨rfl, hb3⟩
          have HB3 := hidm (B1.out.trans (hb3.mono B1.out.size))
          clear hb3 hcx
          go_wp2_with fail
          go_roundw
          case rel => exact ⟨i + 1, by go_num, by omega, by omega, HT2, HB3⟩
          case measure => simp [intOf]; omega
        · have f4 : (c != 0) = true := by simpa using hz
          have HT2 : Hid (F = c) := hidm (by rw [HT.out, cmpK_drop i hia hib, ← HX.out, ← HY.out, ← HC.out, if_neg hz])
          clear hz
          go_wp2_with fail
          refine hcx.mono ?_
          rintro e w3 ⟨rfl, hb3⟩
          have HB3 := hidm (B1.out.trans (hb3.mono B1.out.size))
          clear hb3 hcx
          go_wp2_with fail
          go_ret
          exact ⟨congrArg (fun q => Ending.returned (.int .i64 q)) HT2.out.symm, HB3.out⟩
      · have f3 : (m : Int) ≤ i := by omega
        obtain ⟨b1, o1, c1, he1, _, q0, q1, q2, q3⟩ := (HA.out.later HBr.out).at i hia
        simp only [Value.slice.injEq, true_and] at he1
        obtain ⟨rfl, rfl⟩ := he1
        have hsz := HBr.out.size
        have B1 : Hid (Below w.heap.size w (wr.alloc (.cells #[.int .i64 xs[i].k, .int .i64 xs[i].n, .int .u64 xs[i].b, .string (S xs[i].s)] 25))) := hidm (HBr.out.alloc hsz _)
        go_wp2_with fail
        go_ret
        refine ⟨congrArg (fun q => Ending.returned (.int .i64 q)) ?_, B1.out⟩
        rw [HT.out, cmpK_end1 i hia (by have := HM.out; omega)]
/-- What Compare of keys tells. -/
def cmpKk (xs ys : List V) : Int := if isK xs = true ∧ isK ys = true then cmpK xs ys else 0
set_option maxHeartbeats 4000000 in
set_option maxRecDepth 100000 in
theorem compare_any (xs ys : List V) (sa sb : Value) (ha : xs.length ≤ 1000000) (hb : ys.length ≤ 1000000) (w : World) (h1 : RowAt xs sa w) (h2 : RowAt ys sb w) :
    Calls Tryd.prog 18 #[sa, sb] w fun e w' => e = .returned (.int .i64 (cmpKk xs ys)) ∧ Below w.heap.size w w' := by
  have H1 := hidm h1
  have H2 := hidm h2
  have P1 := iskey_any xs sa ha w h1
  clear h1 h2
  rcases k1 : isK xs with _ | _
  · rw [k1] at P1
    have e : cmpKk xs ys = 0 := by unfold cmpKk; rw [if_neg (by simp [k1])]
    rw [e]; clear e k1
    go_enter Tryd.func18, Tryd.ntmps18
    go_wp2_with fail
    refine P1.mono ?_
    rintro e w1 ⟨rfl, hb1⟩
    go_wp2_with fail
    go_ret
    exact ⟨rfl, hb1⟩
  · rw [k1] at P1
    rcases k2 : isK ys with _ | _
    · have e : cmpKk xs ys = 0 := by unfold cmpKk; rw [if_neg (by simp [k2])]
      have K2 := hidm k2
      rw [e]; clear e k1 k2
      go_enter Tryd.func18, Tryd.ntmps18
      go_wp2_with fail
      refine P1.mono ?_
      rintro e w1 ⟨rfl, hb1⟩
      have HB1 := hidm hb1
      have P2 := iskey_any ys sb hb w1 (H2.out.later hb1)
      rw [K2.out] at P2
      clear hb1 P1
      go_wp2_with fail
      refine P2.mono ?_
      rintro e w2 ⟨rfl, hb2⟩
      have HB2 := hidm (HB1.out.trans (hb2.mono HB1.out.size))
      clear hb2 P2
      go_wp2_with fail
      go_ret
      exact ⟨rfl, HB2.out⟩
    · have e : cmpKk xs ys = cmpK xs ys := by unfold cmpKk; rw [if_pos ⟨k1, k2⟩]
      have K2 := hidm k2
      rw [e]; clear e k1 k2
      go_enter Tryd.func18, Tryd.ntmps18
      go_wp2_with fail
      refine P1.mono ?_
      rintro e w1 ⟨rfl, hb1⟩
      have HB1 := hidm hb1
      have P2 := iskey_any ys sb hb w1 (H2.out.later hb1)
      rw [K2.out] at P2
      clear hb1 P1
      go_wp2_with fail
      refine P2.mono ?_
      rintro e w2 ⟨rfl, hb2⟩
      have HB2 := hidm (HB1.out.trans (hb2.mono HB1.out.size))
      have P3 := cmpfunc_any xs ys sa sb ha hb w2 (H1.out.later HB2.out) (H2.out.later HB2.out)
      clear hb2 P2
      go_wp2_with fail
      refine P3.mono ?_
      rintro e w3 ⟨rfl, hb3⟩
      have HB3 := hidm (HB2.out.trans (hb3.mono HB2.out.size))
      clear hb3 P3
      go_wp2_with fail
      go_ret
      exact ⟨rfl, HB3.out⟩
set_option maxHeartbeats 4000000 in
set_option maxRecDepth 100000 in
theorem eqfunc_any (xs ys : List V) (sa sb : Value) (ha : xs.length ≤ 1000000) (hl : xs.length = ys.length) (w : World) (h1 : RowAt xs sa w) (h2 : RowAt ys sb w) :
    Calls Tryd.prog 47 #[sa, sb, .func (.func 33) #[] #[]] w fun e w' => e = .returned (.bool (decide (xs = ys) && xs.all V.right)) ∧ Below w.heap.size w w' := by
  obtain ⟨ao, acap, rfl, hra⟩ := h1
  obtain ⟨bo, bcap, rfl, hrb⟩ := h2
  have HA : Hid (RowAt xs (.slice ao xs.length acap) w) := hidm ⟨ao, acap, rfl, hra⟩
  have HB : Hid (RowAt ys (.slice bo ys.length bcap) w) := hidm ⟨bo, bcap, rfl, hrb⟩
  clear hra hrb
  obtain ⟨n, hn⟩ : ∃ n, n = xs.length := ⟨_, rfl⟩
  obtain ⟨m, hm⟩ : ∃ m, m = ys.length := ⟨_, rfl⟩
  obtain ⟨F, hF⟩ : ∃ F, F = (decide (xs = ys) && xs.all V.right) := ⟨_, rfl⟩
  rw [← hn, ← hm, ← hF]
  have HN := hidm hn
  have HM := hidm hm
  have HF := hidm hF
  have hn' : n ≤ 1000000 := by omega
  have hm' : m ≤ 1000000 := by omega
  clear hn hm hF ha
  have hnm : n = m := by have := HN.out; have := HM.out; omega
  subst hnm
  have f0 : ((n : Int) != (n : Int)) = false := by simp
  clear hl
  go_enter Tryd.func47, Tryd.ntmps47
  go_wp2_with fail
  go_loopw [17] (fun ii wr => ∃ i : Nat, ii = .int .i64 i ∧ i ≤ n ∧ Hid (xs.take i = ys.take i ∧ (xs.take i).all V.right = true) ∧ Hid (Below w.heap.size w wr)) (fun ii _ => (n - (intOf ii).toNat))
  case atStart => exact ⟨0, rfl, by omega, hidm (by simp), hidm (Below.refl _ _)⟩
  case round =>
    obtain ⟨i, rfl, hi, HT, HBr⟩ := hrel
    rcases Nat.eq_or_lt_of_le hi with hie | hie
    · have f1 : ¬ (i : Int) < n := by omega
      have HE := hidm hie
      clear hie
      go_wp2_with fail
      go_ret
      refine ⟨congrArg (fun q => Ending.returned (.bool q)) ?_, HBr.out⟩
      rw [HF.out]
      obtain ⟨h3, h4⟩ := HT.out
      rw [List.take_of_length_le (by have := HE.out; have := HN.out; omega), List.take_of_length_le (by have := HE.out; have := HM.out; omega)] at h3
      rw [List.take_of_length_le (by have := HE.out; have := HN.out; omega)] at h4
      rw [h4, decide_eq_true h3]; rfl
    · have f1 : (i : Int) < n := by omega
      have hia : i < xs.length := by have := HN.out; omega
      have hib : i < ys.length := by have := HM.out; omega
      obtain ⟨b1, o1, c1, he1, _, q0, q1, q2, q3⟩ := (HA.out.later HBr.out).at i hia
      obtain ⟨b2, o2, c2, he2, _, r0, r1, r2, r3⟩ := (HB.out.later HBr.out).at i hib
      simp only [Value.slice.injEq, true_and] at he1 he2
      obtain ⟨rfl, rfl⟩ := he1
      obtain ⟨rfl, rfl⟩ := he2
      obtain ⟨x, hx⟩ : ∃ x, x = xs[i] := ⟨_, rfl⟩
      obtain ⟨y, hy⟩ : ∃ y, y = ys[i] := ⟨_, rfl⟩
      rw [← hx] at q0 q1 q2 q3
      rw [← hy] at r0 r1 r2 r3
      have HX := hidm hx
      have HY := hidm hy
      have hsz := HBr.out.size
      have t0 := lt_of_cell q0
      have t1 := lt_of_cell r0
      clear hx hy
      obtain ⟨c, hc⟩ : ∃ c, c = Val.sameB x.k x.n x.b (S x.s) y.k y.n y.b (S y.s) := ⟨_, rfl⟩
      have hcx := Val.same_any x.k x.n x.b (S x.s) y.k y.n y.b (S y.s) ((wr.alloc (.cells #[.int .i64 x.k, .int .i64 x.n, .int .u64 x.b, .string (S x.s)] 25)).alloc (.cells #[.int .i64 y.k, .int .i64 y.n, .int .u64 y.b, .string (S y.s)] 25))
      rw [← hc] at hcx
      have hs : c = (x.same y && x.right) := hc
      have HC := hidm hs
      have B1 : Hid (Below w.heap.size w ((wr.alloc (.cells #[.int .i64 x.k, .int .i64 x.n, .int .u64 x.b, .string (S x.s)] 25)).alloc (.cells #[.int .i64 y.k, .int .i64 y.n, .int .u64 y.b, .string (S y.s)] 25))) := hidm ((HBr.out.alloc hsz _).alloc (by simp; omega) _)
      clear hc hs
      rcases c with _ | _
      · have HT2 : Hid (F = false) := hidm (by
          rw [HF.out, Bool.and_eq_false_iff]
          have hcf := HC.out
          symm at hcf
          rw [Bool.and_eq_false_iff] at hcf
          rcases hcf with q | q
          · left
            rw [decide_eq_false_iff_not]
            intro he
            have : x = y := by rw [HX.out, HY.out]; subst he; rfl
            rw [(V.same_iff x y).2 this] at q
            cases q
          · right
            rw [Bool.eq_false_iff]
            intro hall
            have := List.all_eq_true.1 hall x (by rw [HX.out]; exact List.getElem_mem hia)
            rw [q] at this; cases this)
        go_wp2_with fail
        refine hcx.mono ?_
        rintro e w3 ⟨rfl, hb3⟩
        have HB3 := hidm (B1.out.trans (hb3.mono B1.out.size))
        clear hb3 hcx
        go_wp2_with fail
        go_ret
        exact ⟨congrArg (fun q => Ending.returned (.bool q)) HT2.out.symm, HB3.out⟩
      · have HT2 : Hid (xs.take (i + 1) = ys.take (i + 1) ∧ (xs.take (i + 1)).all V.right = true) := hidm (by
          have hcf := HC.out
          symm at hcf
          rw [Bool.and_eq_true] at hcf
          have hxy := (V.same_iff x y).1 hcf.1
          obtain ⟨h3, h4⟩ := HT.out
          rw [List.take_succ_eq_append_getElem hia, List.take_succ_eq_append_getElem hib, ← HX.out, ← HY.out, List.all_append, h4]
          exact ⟨by rw [h3, hxy], by simp [hcf.2]⟩)
        go_wp2_with fail
        refine hcx.mono ?_
        rintro e w3 ⟨rfl, hb3⟩
        have HB3 := hidm (B1.out.trans (hb3.mono B1.out.size))
        clear hb3 hcx
        go_wp2_with fail
        go_roundw
        case rel => exact ⟨i + 1, by go_num, by omega, HT2, HB3⟩
        case measure => simp [intOf]; omega
def preB (xs ys : List V) : Bool := decide (xs.length ≤ ys.length) && (decide (xs = ys.take xs.length) && xs.all V.right)
theorem RowAt.cut {ys : List V} {bo : Option Addr} {m cap k : Nat} {w : World} (h : RowAt ys (.slice bo m cap) w) (hk : k ≤ ys.length) : RowAt (ys.take k) (.slice bo k cap) w := by
  obtain ⟨ao, c, he, h2⟩ := h
  simp only [Value.slice.injEq] at he
  obtain ⟨rfl, rfl, rfl⟩ := he
  have hl : (ys.take k).length = k := by rw [List.length_take]; omega
  refine ⟨bo, cap, by rw [hl], fun hne => ?_⟩
  obtain ⟨b, off, h3, h4, h5⟩ := h2 (fun e => hne (by rw [e]; simp))
  refine ⟨b, off, h3, h4, fun j hj => ?_⟩
  rw [hl] at hj
  rw [h5 j (by omega)]
  have e : flat ys = flat (ys.take k) ++ flat (ys.drop k) := by unfold flat; rw [← List.flatMap_append, List.take_append_drop]
  rw [e, List.getElem?_append_left (by rw [flat_len, hl]; exact hj)]
set_option maxHeartbeats 4000000 in
set_option maxRecDepth 100000 in
theorem prefix_any (xs ys : List V) (sa : Value) (bo : Option Addr) (bcap : Nat) (hcap : ys.length ≤ bcap) (ha : xs.length ≤ 1000000) (hb : ys.length ≤ 1000000) (w : World) (h1 : RowAt xs sa w) (h2 : RowAt ys (.slice bo ys.length bcap) w) :
    Calls Tryd.prog 20 #[sa, .slice bo ys.length bcap] w fun e w' => e = .returned (.bool (preB xs ys)) ∧ Below w.heap.size w w' := by
  have P := fun hle : xs.length ≤ ys.length => eqfunc_any xs (ys.take xs.length) sa (.slice bo xs.length bcap) ha (by rw [List.length_take]; omega) w h1 (RowAt.cut h2 hle)
  obtain ⟨ao, acap, rfl, hra⟩ := h1
  clear hra h2
  obtain ⟨n, hn⟩ : ∃ n, n = xs.length := ⟨_, rfl⟩
  obtain ⟨m, hm⟩ : ∃ m, m = ys.length := ⟨_, rfl⟩
  rcases Nat.lt_or_ge m n with hlt | hge
  · have e : preB xs ys = false := by unfold preB; rw [decide_eq_false (by omega)]; rfl
    rw [e, ← hn, ← hm]
    have f0 : ¬ (n : Int) ≤ m := by omega
    have hn' : n ≤ 1000000 := by omega
    have hm' : m ≤ 1000000 := by omega
    clear e hn hm P ha hb hcap
    go_enter Tryd.func20, Tryd.ntmps20
    go_wp2_with fail
    go_ret
    exact ⟨rfl, Below.refl _ _⟩
  · have hP := P (by omega)
    obtain ⟨F, hF⟩ : ∃ F, F = (decide (xs = ys.take xs.length) && xs.all V.right) := ⟨_, rfl⟩
    have e : preB xs ys = F := by unfold preB; rw [decide_eq_true (by omega), hF]; rfl
    rw [← hF] at hP
    rw [e, ← hn, ← hm]
    rw [← hn] at hP
    have f0 : (n : Int) ≤ m := by omega
    have hn' : n ≤ 1000000 := by omega
    have hm' : m ≤ 1000000 := by omega
    have f1 : n ≤ bcap := by omega
    have f2 : (n : Int) ≤ bcap := by omega
    clear e hn hm P ha hb hcap hF
    go_enter Tryd.func20, Tryd.ntmps20
    go_wp2_with fail
    refine hP.mono ?_
    rintro e w3 ⟨rfl, hb3⟩
    go_wp2_with fail
    go_ret
    exact ⟨rfl, hb3⟩
end Ky
end Go.Proofs.YtppdebhcaodcnaaDoor
