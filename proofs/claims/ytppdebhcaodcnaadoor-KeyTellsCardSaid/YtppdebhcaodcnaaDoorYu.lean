/- The document's Compare and Prefix of keys (layer 4). Conditions: the slices hold at most a million values each, whose numbers fit their kinds. -/
import Derived.Test.YtppdebhcaodcnaaDoorYt
import Derived.Test.YtppdebhcaodcnaaDoorYh
import Derived.Test.YtppdebhcaodcnaaDoorMan
import Derived.Test.YtppdebhcaodcnaaDoorTc
namespace Go.Proofs.YtppdebhcaodcnaaDoor
open Go.RowKit Cod
namespace Ky
theorem cell_later {w w' : World} {a : Addr} {v : Value} (h : Below w.heap.size w w') (hc : w.cell? a = some v) : w'.cell? a = some v := by
  rw [h.cell (World.block_lt_of_cell? w _ hc)]; exact hc
theorem right_len {v : V} (h : v.right = true) : (S v.s).size ≤ 35184372088832 := by
  rw [S_size]
  rcases right_form h with rfl | ⟨n, rfl, hn⟩ | ⟨n, rfl⟩ | ⟨x, rfl⟩ | ⟨s, rfl, hs⟩ | ⟨s, rfl, hs⟩
  · simp
  · simp
  · simp
  · simp
  · show s.length ≤ _; omega
  · show s.length ≤ _; omega
theorem rcmp_is (x y : V) (c : Int) (h : cmp x y = c) (hx : x.b < 18446744073709551616) (hy : y.b < 18446744073709551616) (lx : (S x.s).size ≤ 35184372088832) (ly : (S y.s).size ≤ 35184372088832) (w : World) :
    Calls Tryd.prog 45 #[.agg #[.int .i64 x.k, .int .i64 x.n, .int .u64 x.b, .string (S x.s)], .agg #[.int .i64 y.k, .int .i64 y.n, .int .u64 y.b, .string (S y.s)]] w fun e w' => e = .returned (.int .i64 c) ∧ Below w.heap.size w w' := by
  have g := Ref.compare_any x.k x.n x.b (S x.s) y.k y.n y.b (S y.s) hx hy w lx ly
  rw [show Val.cmpV x.k x.n x.b (S x.s) y.k y.n y.b (S y.s) = c from h] at g
  exact g
theorem rright_is (x : V) (c : Bool) (h : x.right = c) (hx : x.b < 18446744073709551616) (w : World) :
    Calls Tryd.prog 48 #[.agg #[.int .i64 x.k, .int .i64 x.n, .int .u64 x.b, .string (S x.s)]] w fun e w' => e = .returned (.bool c) ∧ Below w.heap.size w w' := by
  have g := rright_v x hx w
  rw [h] at g
  exact g
theorem two_step {wr w1 w' : World} {b1 o1 b2 o2 i : Nat} {x y : V} (h : w1.cell? ⟨b1, o1 + i * 4, none⟩ = some (.int .i64 x.k) ∧ w1.cell? ⟨b1, o1 + i * 4 + 1, none⟩ = some (.int .i64 x.n) ∧ w1.cell? ⟨b1, o1 + i * 4 + 2, none⟩ = some (.int .u64 x.b) ∧ w1.cell? ⟨b1, o1 + i * 4 + 3, none⟩ = some (.string (S x.s)) ∧ w1.cell? ⟨b2, o2 + i * 4, none⟩ = some (.int .i64 y.k) ∧ w1.cell? ⟨b2, o2 + i * 4 + 1, none⟩ = some (.int .i64 y.n) ∧ w1.cell? ⟨b2, o2 + i * 4 + 2, none⟩ = some (.int .u64 y.b) ∧ w1.cell? ⟨b2, o2 + i * 4 + 3, none⟩ = some (.string (S y.s)) ∧ Below wr.heap.size wr w1 ∧ wr.heap.size ≤ w1.heap.size) (hb : Below w1.heap.size w1 w') : w'.cell? ⟨b1, o1 + i * 4, none⟩ = some (.int .i64 x.k) ∧ w'.cell? ⟨b1, o1 + i * 4 + 1, none⟩ = some (.int .i64 x.n) ∧ w'.cell? ⟨b1, o1 + i * 4 + 2, none⟩ = some (.int .u64 x.b) ∧ w'.cell? ⟨b1, o1 + i * 4 + 3, none⟩ = some (.string (S x.s)) ∧ w'.cell? ⟨b2, o2 + i * 4, none⟩ = some (.int .i64 y.k) ∧ w'.cell? ⟨b2, o2 + i * 4 + 1, none⟩ = some (.int .i64 y.n) ∧ w'.cell? ⟨b2, o2 + i * 4 + 2, none⟩ = some (.int .u64 y.b) ∧ w'.cell? ⟨b2, o2 + i * 4 + 3, none⟩ = some (.string (S y.s)) ∧ Below wr.heap.size wr w' ∧ wr.heap.size ≤ w'.heap.size := by
  obtain ⟨c0, c1, c2, c3, d0, d1, d2, d3, hB, hz⟩ := h
  exact ⟨cell_later hb c0, cell_later hb c1, cell_later hb c2, cell_later hb c3, cell_later hb d0, cell_later hb d1, cell_later hb d2, cell_later hb d3, hB.trans (hb.mono hz), Nat.le_trans hz hb.size⟩
theorem isk_all {vs : List V} (h : isK vs = true) : ∀ v ∈ vs, v.right = true := by
  unfold isK at h
  rw [Bool.and_eq_true] at h
  exact fun v hv => List.all_eq_true.1 h.2 v hv
set_option maxHeartbeats 4000000 in
set_option maxRecDepth 100000 in
theorem rloop_any (xs ys : List V) (sa sb : Value) (ha : xs.length ≤ 1000000) (hb : ys.length ≤ 1000000) (ia : ∀ v ∈ xs, v.inn) (ib : ∀ v ∈ ys, v.inn) (w : World) (h1 : RowAt xs sa w) (h2 : RowAt ys sb w) :
    Calls Tryd.prog 19 #[sa, sb] w fun e w' => e = .returned (.int .i64 (cmpKk xs ys)) ∧ Below w.heap.size w w' := by
  have H1 := hidm h1
  have H2 := hidm h2
  have P1 := rright_any xs sa ha ia w h1
  have IB := hidm ib
  have IA := hidm ia
  rcases k1 : isK xs with _ | _
  · clear h1 h2 ia ib
    rw [k1] at P1
    have e : cmpKk xs ys = 0 := by unfold cmpKk; rw [if_neg (by simp [k1])]
    rw [e]; clear e k1
    go_enter Tryd.func19, Tryd.ntmps19
    go_wp2_with fail
    refine P1.mono ?_
    rintro e w1 ⟨rfl, hb1⟩
    go_wp2_with fail
    go_ret
    exact ⟨rfl, hb1⟩
  · rw [k1] at P1
    rcases k2 : isK ys with _ | _
    · clear h1 h2 ia ib
      have e : cmpKk xs ys = 0 := by unfold cmpKk; rw [if_neg (by simp [k2])]
      have K2 := hidm k2
      rw [e]; clear e k1 k2
      go_enter Tryd.func19, Tryd.ntmps19
      go_wp2_with fail
      refine P1.mono ?_
      rintro e w1 ⟨rfl, hb1⟩
      have HB1 := hidm hb1
      have P2 := rright_any ys sb hb IB.out w1 (H2.out.later hb1)
      rw [K2.out] at P2
      clear hb1 P1
      go_wp2_with fail
      refine P2.mono ?_
      rintro e w2 ⟨rfl, hb2⟩
      have HB2 := hidm (HB1.out.trans (hb2.mono HB1.out.size))
      clear hb2 P2
      go_wp2_with fail
      go_ret
      exact ⟨rfl, HB2.out⟩
    · have e : cmpKk xs ys = cmpK xs ys := by unfold cmpKk; rw [if_pos ⟨k1, k2⟩]
      have K2 := hidm k2
      have RX := hidm (isk_all k1)
      have RY := hidm (isk_all k2)
      rw [e]; clear e k1 k2
      have P2 := fun w1 hb1 => rright_any ys sb hb IB.out w1 (H2.out.later (w' := w1) hb1)
      obtain ⟨ao, acap, rfl, hra⟩ := h1
      obtain ⟨bo, bcap, rfl, hrb⟩ := h2
      have HA := H1
      have HB := H2
      clear hra hrb H1 H2 ia ib
      obtain ⟨n, hn⟩ : ∃ n, n = xs.length := ⟨_, rfl⟩
      obtain ⟨m, hm⟩ : ∃ m, m = ys.length := ⟨_, rfl⟩
      obtain ⟨F, hF⟩ : ∃ F, F = cmpK xs ys := ⟨_, rfl⟩
      rw [← hm] at P2
      rw [← hn] at P1
      rw [← hn, ← hm, ← hF]
      have HN := hidm hn
      have HM := hidm hm
      have HF := hidm hF
      have hn' : n ≤ 1000000 := by omega
      have hm' : m ≤ 1000000 := by omega
      clear hn hm hF ha hb
      go_enter Tryd.func19, Tryd.ntmps19
      go_wp2_with fail
      refine P1.mono ?_
      rintro e w1 ⟨rfl, hb1⟩
      have HB1 := hidm hb1
      have P3 := P2 w1 hb1
      rw [K2.out] at P3
      clear hb1 P1 P2
      go_wp2_with fail
      refine P3.mono ?_
      rintro e w2 ⟨rfl, hb2⟩
      have HB2 := hidm (HB1.out.trans (hb2.mono HB1.out.size))
      clear hb2 P3
      go_wp2_with fail
      go_loopw [5] (fun ii wr => ∃ i : Nat, ii = .int .i64 i ∧ i ≤ n ∧ i ≤ m ∧ Hid (F = cmpK (xs.drop i) (ys.drop i)) ∧ Hid (Below w.heap.size w wr)) (fun ii _ => (n - (intOf ii).toNat))
      case atStart => exact ⟨0, rfl, by omega, by omega, hidm (by simpa using HF.out), HB2⟩
      case round =>
        obtain ⟨i, rfl, hi, hi2, HT, HBr⟩ := hrel
        by_cases hex : i < n ∧ i < m
        · obtain ⟨h1, h2⟩ := hex
          have f1 : (i : Int) < n := by omega
          have f2 : (i : Int) < m := by omega
          have hia : i < xs.length := by have := HN.out; omega
          have hib : i < ys.length := by have := HM.out; omega
          obtain ⟨b1, o1, c1, he1, _, q0, q1, q2, q3⟩ := (HA.out.later HBr.out).at i hia
          obtain ⟨b2, o2, c2, he2, _, r0, r1, r2, r3⟩ := (HB.out.later HBr.out).at i hib
          simp only [Value.slice.injEq, true_and] at he1 he2
          obtain ⟨rfl, rfl⟩ := he1
          obtain ⟨rfl, rfl⟩ := he2
          obtain ⟨x, hx⟩ : ∃ x, x = xs[i] := ⟨_, rfl⟩
          obtain ⟨y, hy⟩ : ∃ y, y = ys[i] := ⟨_, rfl⟩
          rw [← hx] at q0 q1 q2 q3
          rw [← hy] at r0 r1 r2 r3
          have HX := hidm hx
          have HY := hidm hy
          have hxm : x ∈ xs := by rw [hx]; exact List.getElem_mem hia
          have hym : y ∈ ys := by rw [hy]; exact List.getElem_mem hib
          have hsz := HBr.out.size
          have SS0 := hidm (show wr.cell? ⟨b1, o1 + i * 4, none⟩ = some (.int .i64 x.k) ∧ wr.cell? ⟨b1, o1 + i * 4 + 1, none⟩ = some (.int .i64 x.n) ∧ wr.cell? ⟨b1, o1 + i * 4 + 2, none⟩ = some (.int .u64 x.b) ∧ wr.cell? ⟨b1, o1 + i * 4 + 3, none⟩ = some (.string (S x.s)) ∧ wr.cell? ⟨b2, o2 + i * 4, none⟩ = some (.int .i64 y.k) ∧ wr.cell? ⟨b2, o2 + i * 4 + 1, none⟩ = some (.int .i64 y.n) ∧ wr.cell? ⟨b2, o2 + i * 4 + 2, none⟩ = some (.int .u64 y.b) ∧ wr.cell? ⟨b2, o2 + i * 4 + 3, none⟩ = some (.string (S y.s)) ∧ Below wr.heap.size wr wr ∧ wr.heap.size ≤ wr.heap.size from ⟨q0, q1, q2, q3, r0, r1, r2, r3, Below.refl _ _, Nat.le_refl _⟩)
          clear hx hy q0 q1 q2 q3 r0 r1 r2 r3
          have XB := hidm (IA.out x hxm).b
          have YB := hidm (IB.out y hym).b
          have XL := hidm (right_len (RX.out x hxm))
          have YL := hidm (right_len (RY.out y hym))
          obtain ⟨c, hc⟩ : ∃ c, c = cmp x y := ⟨_, rfl⟩
          have HC := hidm hc.symm
          clear hxm hym hc h1 h2
          go_wp2_with fail
          refine wp_region_held_drew (S := fun u => u.cell? ⟨b1, o1 + i * 4, none⟩ = some (.int .i64 x.k) ∧ u.cell? ⟨b1, o1 + i * 4 + 1, none⟩ = some (.int .i64 x.n) ∧ u.cell? ⟨b1, o1 + i * 4 + 2, none⟩ = some (.int .u64 x.b) ∧ u.cell? ⟨b1, o1 + i * 4 + 3, none⟩ = some (.string (S x.s)) ∧ u.cell? ⟨b2, o2 + i * 4, none⟩ = some (.int .i64 y.k) ∧ u.cell? ⟨b2, o2 + i * 4 + 1, none⟩ = some (.int .i64 y.n) ∧ u.cell? ⟨b2, o2 + i * 4 + 2, none⟩ = some (.int .u64 y.b) ∧ u.cell? ⟨b2, o2 + i * 4 + 3, none⟩ = some (.string (S y.s)) ∧ Below wr.heap.size wr u ∧ wr.heap.size ≤ u.heap.size) (by kernel_rfl) ?_ (fun hHeld => ?_)
          · exact two_step SS0.out ((Below.refl _ _).drew)
          refine Man.take1 (i := 0) (v := ?_) rfl (by kernel_rfl) (by kernel_rfl) (by kernel_rfl) (fun _ _ _ h => h) (by rfl) ?_ (by assumption) ?_
          rotate_left
          · (intro u hSu; (try dsimp only at hSu); go_simp; (try with_reducible rfl))
          (try simp only [Act.put, List.setIfInBounds_toArray, List.set_cons_zero, List.set_cons_succ])
          refine Man.take1 (i := 1) (v := ?_) rfl (by kernel_rfl) (by kernel_rfl) (by kernel_rfl) (fun _ _ _ h => h) (by rfl) ?_ (by assumption) ?_
          rotate_left
          · (intro u hSu; (try dsimp only at hSu); go_simp; (try with_reducible rfl))
          (try simp only [Act.put, List.setIfInBounds_toArray, List.set_cons_zero, List.set_cons_succ])
          refine Man.take1 (i := 2) (v := ?_) rfl (by kernel_rfl) (by kernel_rfl) (by kernel_rfl) (fun _ _ _ h => h) (by rfl) ?_ (by assumption) ?_
          rotate_left
          · (intro u hSu; (try dsimp only at hSu); go_simp; (try with_reducible rfl))
          (try simp only [Act.put, List.setIfInBounds_toArray, List.set_cons_zero, List.set_cons_succ])
          refine Man.take1 (i := 3) (v := ?_) rfl (by kernel_rfl) (by kernel_rfl) (by kernel_rfl) (fun _ _ _ h => h) (by rfl) ?_ (by assumption) ?_
          rotate_left
          · (intro u hSu; (try dsimp only at hSu); go_simp; (try with_reducible rfl))
          (try simp only [Act.put, List.setIfInBounds_toArray, List.set_cons_zero, List.set_cons_succ])
          refine Man.take1 (i := 4) (v := ?_) rfl (by kernel_rfl) (by kernel_rfl) (by kernel_rfl) (fun _ _ _ h => h) (by rfl) ?_ (by assumption) ?_
          rotate_left
          · (intro u hSu; (try dsimp only at hSu); go_simp; (try with_reducible rfl))
          (try simp only [Act.put, List.setIfInBounds_toArray, List.set_cons_zero, List.set_cons_succ])
          refine Man.take1 (i := 5) (v := ?_) rfl (by kernel_rfl) (by kernel_rfl) (by kernel_rfl) (fun _ _ _ h => h) (by rfl) ?_ (by assumption) ?_
          rotate_left
          · (intro u hSu; (try dsimp only at hSu); go_simp; (try with_reducible rfl))
          (try simp only [Act.put, List.setIfInBounds_toArray, List.set_cons_zero, List.set_cons_succ])
          refine Man.take1 (i := 6) (v := ?_) rfl (by kernel_rfl) (by kernel_rfl) (by kernel_rfl) (fun _ _ _ h => h) (by rfl) ?_ (by assumption) ?_
          rotate_left
          · (intro u hSu; (try dsimp only at hSu); go_simp; (try with_reducible rfl))
          (try simp only [Act.put, List.setIfInBounds_toArray, List.set_cons_zero, List.set_cons_succ])
          refine Man.take1 (i := 7) (v := ?_) rfl (by kernel_rfl) (by kernel_rfl) (by kernel_rfl) (fun _ _ _ h => h) (by rfl) ?_ (by assumption) ?_
          rotate_left
          · (intro u hSu; (try dsimp only at hSu); go_simp; (try with_reducible rfl))
          (try simp only [Act.put, List.setIfInBounds_toArray, List.set_cons_zero, List.set_cons_succ])
          refine Man.one (i := 8) rfl (by kernel_rfl) (fun K hK => ?_)
          go_simp
          (go_at_call 45; (with_reducible refine (rcmp_is x y c HC.out XB.out YB.out XL.out YL.out _).mono ?_); rintro e w' ⟨rfl, hb⟩)
          refine hK.out _ _ ?_ (fun hNew => ?_)
          · exact two_step hHeld hb
          clear hHeld hK K hb
          have hHeld := hNew
          clear hNew
          (try simp only [Act.put, List.setIfInBounds_toArray, List.set_cons_zero, List.set_cons_succ])
          refine Man.take1 (i := 9) (v := ?_) rfl (by kernel_rfl) (by kernel_rfl) (by kernel_rfl) (fun _ _ _ h => h) (by rfl) ?_ (by assumption) ?_
          rotate_left
          · (intro u hSu; (try dsimp only at hSu); go_simp; (try with_reducible rfl))
          (try simp only [Act.put, List.setIfInBounds_toArray, List.set_cons_zero, List.set_cons_succ])
          refine wpAnyH_done (by kernel_rfl) ?_ _
          obtain ⟨a0, a1, a2, a3, d0, d1, d2, d3, hqb, hqz⟩ := hHeld
          have HB3 := hidm (HBr.out.trans (hqb.mono hsz))
          clear a0 a1 a2 a3 d0 d1 d2 d3 hqb hqz SS0
          rcases Decidable.em (c = 0) with hz | hz
          · have f4 : (c != 0) = false := by rw [hz]; rfl
            have HT2 : Hid (F = cmpK (xs.drop (i + 1)) (ys.drop (i + 1))) := hidm (by rw [HT.out, cmpK_drop i hia hib, ← HX.out, ← HY.out, HC.out, if_pos hz])
            clear hz
            go_wp2_with fail
            go_roundw
            case rel => exact ⟨i + 1, by go_num, by omega, by omega, HT2, HB3⟩
            case measure => simp [intOf]; omega
          · have f4 : (c != 0) = true := by simpa using hz
            have HT2 : Hid (F = c) := hidm (by rw [HT.out, cmpK_drop i hia hib, ← HX.out, ← HY.out, HC.out, if_neg hz])
            clear hz
            go_wp2_with fail
            go_ret
            exact ⟨congrArg (fun q => Ending.returned (.int .i64 q)) HT2.out.symm, HB3.out⟩
        · have HT2 : Hid (Val.cmpI n m = F) := hidm (by
            rw [HT.out]
            unfold Val.cmpI
            have := HN.out
            have := HM.out
            rcases Nat.lt_trichotomy n m with q | q | q
            · rw [if_pos (by omega), cmpK_end2 i (by omega) (by omega)]
            · rw [if_neg (by omega), if_neg (by omega), cmpK_end3 i (by omega) (by omega)]
            · rw [if_neg (by omega), if_pos (by omega), cmpK_end1 i (by omega) (by omega)])
          have PI := Ref.ints_any (n : Int) (m : Int) wr
          rw [HT2.out] at PI
          rcases Nat.lt_or_ge i n with h1 | h1
          · have f1 : (i : Int) < n := by omega
            have f2 : ¬ (i : Int) < m := by omega
            clear hex h1
            go_wp2_with fail
            refine PI.mono ?_
            rintro e w3 ⟨rfl, rfl⟩
            go_wp2_with fail
            go_ret
            exact ⟨rfl, HBr.out⟩
          · have f1 : ¬ (i : Int) < n := by omega
            clear hex h1
            go_wp2_with fail
            refine PI.mono ?_
            rintro e w3 ⟨rfl, rfl⟩
            go_wp2_with fail
            go_ret
            exact ⟨rfl, HBr.out⟩
set_option maxHeartbeats 4000000 in
set_option maxRecDepth 100000 in
theorem rprefix_any (xs ys : List V) (sa sb : Value) (ha : xs.length ≤ 1000000) (hb : ys.length ≤ 1000000) (ia : ∀ v ∈ xs, v.inn) (w : World) (h1 : RowAt xs sa w) (h2 : RowAt ys sb w) :
    Calls Tryd.prog 21 #[sa, sb] w fun e w' => e = .returned (.bool (preB xs ys)) ∧ Below w.heap.size w w' := by
  have HA := hidm h1
  have HB := hidm h2
  have IA := hidm ia
  obtain ⟨ao, acap, rfl, hra⟩ := h1
  obtain ⟨bo, bcap, rfl, hrb⟩ := h2
  clear hra hrb ia
  obtain ⟨n, hn⟩ : ∃ n, n = xs.length := ⟨_, rfl⟩
  obtain ⟨m, hm⟩ : ∃ m, m = ys.length := ⟨_, rfl⟩
  obtain ⟨F, hF⟩ : ∃ F, F = preB xs ys := ⟨_, rfl⟩
  rw [← hn, ← hm, ← hF]
  have HN := hidm hn
  have HM := hidm hm
  have HF := hidm hF
  have hn' : n ≤ 1000000 := by omega
  have hm' : m ≤ 1000000 := by omega
  clear hn hm hF ha hb
  rcases Nat.lt_or_ge m n with hlt | hge
  · have f0 : (m : Int) < n := by omega
    have e : F = false := by rw [HF.out]; unfold preB; rw [decide_eq_false (by have := HN.out; have := HM.out; omega)]; rfl
    rw [e]
    clear e hlt
    go_enter Tryd.func21, Tryd.ntmps21
    go_wp2_with fail
    go_ret
    exact ⟨rfl, Below.refl _ _⟩
  · have f0 : ¬ (m : Int) < n := by omega
    go_enter Tryd.func21, Tryd.ntmps21
    go_wp2_with fail
    go_loopw [5] (fun ii wr => ∃ i : Nat, ii = .int .i64 i ∧ i ≤ n ∧ Hid (xs.take i = ys.take i ∧ (xs.take i).all V.right = true) ∧ Hid (Below w.heap.size w wr)) (fun ii _ => (n - (intOf ii).toNat))
    case atStart => exact ⟨0, rfl, by omega, hidm (by simp), hidm (Below.refl _ _)⟩
    case round =>
      obtain ⟨i, rfl, hi, HT, HBr⟩ := hrel
      rcases Nat.eq_or_lt_of_le hi with hie | hie
      · have f1 : ¬ (i : Int) < n := by omega
        have HE := hidm hie
        clear hie
        go_wp2_with fail
        go_ret
        refine ⟨congrArg (fun q => Ending.returned (.bool q)) ?_, HBr.out⟩
        rw [HF.out]
        obtain ⟨h3, h4⟩ := HT.out
        rw [List.take_of_length_le (by have := HE.out; have := HN.out; omega), HE.out, HN.out] at h3
        rw [List.take_of_length_le (by have := HE.out; have := HN.out; omega)] at h4
        unfold preB
        rw [decide_eq_true (by have := HN.out; have := HM.out; omega), decide_eq_true h3, h4]; rfl
      · have f1 : (i : Int) < n := by omega
        have f2 : (i : Int) < m := by omega
        have hia : i < xs.length := by have := HN.out; omega
        have hib : i < ys.length := by have := HM.out; have := HN.out; omega
        obtain ⟨b1, o1, c1, he1, _, q0, q1, q2, q3⟩ := (HA.out.later HBr.out).at i hia
        obtain ⟨b2, o2, c2, he2, _, r0, r1, r2, r3⟩ := (HB.out.later HBr.out).at i hib
        simp only [Value.slice.injEq, true_and] at he1 he2
        obtain ⟨rfl, rfl⟩ := he1
        obtain ⟨rfl, rfl⟩ := he2
        obtain ⟨x, hx⟩ : ∃ x, x = xs[i] := ⟨_, rfl⟩
        obtain ⟨y, hy⟩ : ∃ y, y = ys[i] := ⟨_, rfl⟩
        rw [← hx] at q0 q1 q2 q3
        rw [← hy] at r0 r1 r2 r3
        have HX := hidm hx
        have HY := hidm hy
        have hxm : x ∈ xs := by rw [hx]; exact List.getElem_mem hia
        have hym : y ∈ ys := by rw [hy]; exact List.getElem_mem hib
        have hsz := HBr.out.size
        have SS0 := hidm (show wr.cell? ⟨b1, o1 + i * 4, none⟩ = some (.int .i64 x.k) ∧ wr.cell? ⟨b1, o1 + i * 4 + 1, none⟩ = some (.int .i64 x.n) ∧ wr.cell? ⟨b1, o1 + i * 4 + 2, none⟩ = some (.int .u64 x.b) ∧ wr.cell? ⟨b1, o1 + i * 4 + 3, none⟩ = some (.string (S x.s)) ∧ wr.cell? ⟨b2, o2 + i * 4, none⟩ = some (.int .i64 y.k) ∧ wr.cell? ⟨b2, o2 + i * 4 + 1, none⟩ = some (.int .i64 y.n) ∧ wr.cell? ⟨b2, o2 + i * 4 + 2, none⟩ = some (.int .u64 y.b) ∧ wr.cell? ⟨b2, o2 + i * 4 + 3, none⟩ = some (.string (S y.s)) ∧ Below wr.heap.size wr wr ∧ wr.heap.size ≤ wr.heap.size from ⟨q0, q1, q2, q3, r0, r1, r2, r3, Below.refl _ _, Nat.le_refl _⟩)
        clear hx hy q0 q1 q2 q3 r0 r1 r2 r3
        have XB := hidm (IA.out x hxm).b
        clear hym
        rcases hs : x.same y with _ | _
        · have hne : ¬ x = y := fun e => by rw [(V.same_iff x y).2 e] at hs; cases hs
          have HT2 : Hid (F = false) := hidm (by
            rw [HF.out]
            unfold preB
            rw [Bool.and_eq_false_iff]
            refine Or.inr ?_
            rw [Bool.and_eq_false_iff]
            refine Or.inl ?_
            rw [decide_eq_false_iff_not]
            intro he
            refine hne ?_
            rw [HX.out, HY.out]
            have q1 : xs[i]? = (ys.take xs.length)[i]? := by rw [← he]
            rw [List.getElem?_take, if_pos hia, List.getElem?_eq_getElem hia, List.getElem?_eq_getElem hib] at q1
            exact Option.some.inj q1)
          have gv : Val.eqV x.k x.n x.b (S x.s) y.k y.n y.b (S y.s) = false := hs
          clear hs hne hxm
          go_wp2_with fail
          refine wp_region_held_drew (S := fun u => u.cell? ⟨b1, o1 + i * 4, none⟩ = some (.int .i64 x.k) ∧ u.cell? ⟨b1, o1 + i * 4 + 1, none⟩ = some (.int .i64 x.n) ∧ u.cell? ⟨b1, o1 + i * 4 + 2, none⟩ = some (.int .u64 x.b) ∧ u.cell? ⟨b1, o1 + i * 4 + 3, none⟩ = some (.string (S x.s)) ∧ u.cell? ⟨b2, o2 + i * 4, none⟩ = some (.int .i64 y.k) ∧ u.cell? ⟨b2, o2 + i * 4 + 1, none⟩ = some (.int .i64 y.n) ∧ u.cell? ⟨b2, o2 + i * 4 + 2, none⟩ = some (.int .u64 y.b) ∧ u.cell? ⟨b2, o2 + i * 4 + 3, none⟩ = some (.string (S y.s)) ∧ Below wr.heap.size wr u ∧ wr.heap.size ≤ u.heap.size) (by kernel_rfl) ?_ (fun hHeld => ?_)
          · exact two_step SS0.out ((Below.refl _ _).drew)
          refine Man.take1 (i := 0) (v := ?_) rfl (by kernel_rfl) (by kernel_rfl) (by kernel_rfl) (fun _ _ _ h => h) (by rfl) ?_ (by assumption) ?_
          rotate_left
          · (intro u hSu; (try dsimp only at hSu); go_simp; (try with_reducible rfl))
          (try simp only [Act.put, List.setIfInBounds_toArray, List.set_cons_zero, List.set_cons_succ])
          refine Man.take1 (i := 1) (v := ?_) rfl (by kernel_rfl) (by kernel_rfl) (by kernel_rfl) (fun _ _ _ h => h) (by rfl) ?_ (by assumption) ?_
          rotate_left
          · (intro u hSu; (try dsimp only at hSu); go_simp; (try with_reducible rfl))
          (try simp only [Act.put, List.setIfInBounds_toArray, List.set_cons_zero, List.set_cons_succ])
          refine Man.take1 (i := 2) (v := ?_) rfl (by kernel_rfl) (by kernel_rfl) (by kernel_rfl) (fun _ _ _ h => h) (by rfl) ?_ (by assumption) ?_
          rotate_left
          · (intro u hSu; (try dsimp only at hSu); go_simp; (try with_reducible rfl))
          (try simp only [Act.put, List.setIfInBounds_toArray, List.set_cons_zero, List.set_cons_succ])
          refine Man.take1 (i := 3) (v := ?_) rfl (by kernel_rfl) (by kernel_rfl) (by kernel_rfl) (fun _ _ _ h => h) (by rfl) ?_ (by assumption) ?_
          rotate_left
          · (intro u hSu; (try dsimp only at hSu); go_simp; (try with_reducible rfl))
          (try simp only [Act.put, List.setIfInBounds_toArray, List.set_cons_zero, List.set_cons_succ])
          refine Man.take1 (i := 4) (v := ?_) rfl (by kernel_rfl) (by kernel_rfl) (by kernel_rfl) (fun _ _ _ h => h) (by rfl) ?_ (by assumption) ?_
          rotate_left
          · (intro u hSu; (try dsimp only at hSu); go_simp; (try with_reducible rfl))
          (try simp only [Act.put, List.setIfInBounds_toArray, List.set_cons_zero, List.set_cons_succ])
          refine Man.take1 (i := 5) (v := ?_) rfl (by kernel_rfl) (by kernel_rfl) (by kernel_rfl) (fun _ _ _ h => h) (by rfl) ?_ (by assumption) ?_
          rotate_left
          · (intro u hSu; (try dsimp only at hSu); go_simp; (try with_reducible rfl))
          (try simp only [Act.put, List.setIfInBounds_toArray, List.set_cons_zero, List.set_cons_succ])
          refine Man.take1 (i := 6) (v := ?_) rfl (by kernel_rfl) (by kernel_rfl) (by kernel_rfl) (fun _ _ _ h => h) (by rfl) ?_ (by assumption) ?_
          rotate_left
          · (intro u hSu; (try dsimp only at hSu); go_simp; (try with_reducible rfl))
          (try simp only [Act.put, List.setIfInBounds_toArray, List.set_cons_zero, List.set_cons_succ])
          refine Man.take1 (i := 7) (v := ?_) rfl (by kernel_rfl) (by kernel_rfl) (by kernel_rfl) (fun _ _ _ h => h) (by rfl) ?_ (by assumption) ?_
          rotate_left
          · (intro u hSu; (try dsimp only at hSu); go_simp; (try with_reducible rfl))
          (try simp only [Act.put, List.setIfInBounds_toArray, List.set_cons_zero, List.set_cons_succ])
          refine Man.take1 (i := 8) (v := ?_) rfl (by kernel_rfl) (by kernel_rfl) (by kernel_rfl) (fun _ _ _ h => h) (by rfl) ?_ (by assumption) ?_
          rotate_left
          · (intro u hSu; (try dsimp only at hSu); go_simp; (try with_reducible rfl))
          (try simp only [Act.put, List.setIfInBounds_toArray, List.set_cons_zero, List.set_cons_succ])
          refine Man.take1 (i := 9) (v := ?_) rfl (by kernel_rfl) (by kernel_rfl) (by kernel_rfl) (fun _ _ _ h => h) (by rfl) ?_ (by assumption) ?_
          rotate_left
          · (intro u hSu; (try dsimp only at hSu); go_simp; (try with_reducible rfl))
          (try simp only [Act.put, List.setIfInBounds_toArray, List.set_cons_zero, List.set_cons_succ])
          refine Man.take0 (i := 10) rfl (by kernel_rfl) (by kernel_rfl) (by kernel_rfl) (fun _ _ _ h => h) (by rfl) (by assumption) ?_
          (try simp only [Act.put, List.setIfInBounds_toArray, List.set_cons_zero, List.set_cons_succ])
          refine Man.take0 (i := 11) rfl (by kernel_rfl) (by kernel_rfl) (by kernel_rfl) (fun _ _ _ h => h) (by rfl) (by assumption) ?_
          (try simp only [Act.put, List.setIfInBounds_toArray, List.set_cons_zero, List.set_cons_succ])
          refine Man.take0 (i := 12) rfl (by kernel_rfl) (by kernel_rfl) (by kernel_rfl) (fun _ _ _ h => h) (by rfl) (by assumption) ?_
          (try simp only [Act.put, List.setIfInBounds_toArray, List.set_cons_zero, List.set_cons_succ])
          refine Man.take0 (i := 13) rfl (by kernel_rfl) (by kernel_rfl) (by kernel_rfl) (fun _ _ _ h => h) (by rfl) (by assumption) ?_
          (try simp only [Act.put, List.setIfInBounds_toArray, List.set_cons_zero, List.set_cons_succ])
          refine Man.take0 (i := 14) rfl (by kernel_rfl) (by kernel_rfl) (by kernel_rfl) (fun _ _ _ h => h) (by rfl) (by assumption) ?_
          (try simp only [Act.put, List.setIfInBounds_toArray, List.set_cons_zero, List.set_cons_succ])
          refine Man.take0 (i := 15) rfl (by kernel_rfl) (by kernel_rfl) (by kernel_rfl) (fun _ _ _ h => h) (by rfl) (by assumption) ?_
          (try simp only [Act.put, List.setIfInBounds_toArray, List.set_cons_zero, List.set_cons_succ])
          refine Man.take1 (i := 16) (v := ?_) rfl (by kernel_rfl) (by kernel_rfl) (by kernel_rfl) (fun _ _ _ h => h) (by rfl) ?_ (by assumption) ?_
          rotate_left
          · (intro u hSu; (try dsimp only at hSu); go_simp; (try with_reducible rfl))
          (try simp only [Act.put, List.setIfInBounds_toArray, List.set_cons_zero, List.set_cons_succ])
          refine wpAnyH_done (by kernel_rfl) ?_ _
          obtain ⟨a0, a1, a2, a3, d0, d1, d2, d3, hqb, hqz⟩ := hHeld
          have HB3 := hidm (HBr.out.trans (hqb.mono hsz))
          clear a0 a1 a2 a3 d0 d1 d2 d3 hqb hqz SS0
          go_wp2_with fail
          go_ret
          exact ⟨congrArg (fun q => Ending.returned (.bool q)) HT2.out.symm, HB3.out⟩
        · have hxy : x = y := (V.same_iff x y).1 hs
          have gv : Val.eqV x.k x.n x.b (S x.s) y.k y.n y.b (S y.s) = true := hs
          rcases hr : x.right with _ | _
          · have HT2 : Hid (F = false) := hidm (by
              rw [HF.out]
              unfold preB
              rw [Bool.and_eq_false_iff]
              refine Or.inr ?_
              rw [Bool.and_eq_false_iff]
              refine Or.inr ?_
              rw [Bool.eq_false_iff]
              intro hall
              have := List.all_eq_true.1 hall x hxm
              rw [hr] at this; cases this)
            have HR := hidm hr
            clear hs hr hxy hxm
            go_wp2_with fail
            refine wp_region_held_drew (S := fun u => u.cell? ⟨b1, o1 + i * 4, none⟩ = some (.int .i64 x.k) ∧ u.cell? ⟨b1, o1 + i * 4 + 1, none⟩ = some (.int .i64 x.n) ∧ u.cell? ⟨b1, o1 + i * 4 + 2, none⟩ = some (.int .u64 x.b) ∧ u.cell? ⟨b1, o1 + i * 4 + 3, none⟩ = some (.string (S x.s)) ∧ u.cell? ⟨b2, o2 + i * 4, none⟩ = some (.int .i64 y.k) ∧ u.cell? ⟨b2, o2 + i * 4 + 1, none⟩ = some (.int .i64 y.n) ∧ u.cell? ⟨b2, o2 + i * 4 + 2, none⟩ = some (.int .u64 y.b) ∧ u.cell? ⟨b2, o2 + i * 4 + 3, none⟩ = some (.string (S y.s)) ∧ Below wr.heap.size wr u ∧ wr.heap.size ≤ u.heap.size) (by kernel_rfl) ?_ (fun hHeld => ?_)
            · exact two_step SS0.out ((Below.refl _ _).drew)
            refine Man.take1 (i := 0) (v := ?_) rfl (by kernel_rfl) (by kernel_rfl) (by kernel_rfl) (fun _ _ _ h => h) (by rfl) ?_ (by assumption) ?_
            rotate_left
            · (intro u hSu; (try dsimp only at hSu); go_simp; (try with_reducible rfl))
            (try simp only [Act.put, List.setIfInBounds_toArray, List.set_cons_zero, List.set_cons_succ])
            refine Man.take1 (i := 1) (v := ?_) rfl (by kernel_rfl) (by kernel_rfl) (by kernel_rfl) (fun _ _ _ h => h) (by rfl) ?_ (by assumption) ?_
            rotate_left
            · (intro u hSu; (try dsimp only at hSu); go_simp; (try with_reducible rfl))
            (try simp only [Act.put, List.setIfInBounds_toArray, List.set_cons_zero, List.set_cons_succ])
            refine Man.take1 (i := 2) (v := ?_) rfl (by kernel_rfl) (by kernel_rfl) (by kernel_rfl) (fun _ _ _ h => h) (by rfl) ?_ (by assumption) ?_
            rotate_left
            · (intro u hSu; (try dsimp only at hSu); go_simp; (try with_reducible rfl))
            (try simp only [Act.put, List.setIfInBounds_toArray, List.set_cons_zero, List.set_cons_succ])
            refine Man.take1 (i := 3) (v := ?_) rfl (by kernel_rfl) (by kernel_rfl) (by kernel_rfl) (fun _ _ _ h => h) (by rfl) ?_ (by assumption) ?_
            rotate_left
            · (intro u hSu; (try dsimp only at hSu); go_simp; (try with_reducible rfl))
            (try simp only [Act.put, List.setIfInBounds_toArray, List.set_cons_zero, List.set_cons_succ])
            refine Man.take1 (i := 4) (v := ?_) rfl (by kernel_rfl) (by kernel_rfl) (by kernel_rfl) (fun _ _ _ h => h) (by rfl) ?_ (by assumption) ?_
            rotate_left
            · (intro u hSu; (try dsimp only at hSu); go_simp; (try with_reducible rfl))
            (try simp only [Act.put, List.setIfInBounds_toArray, List.set_cons_zero, List.set_cons_succ])
            refine Man.take1 (i := 5) (v := ?_) rfl (by kernel_rfl) (by kernel_rfl) (by kernel_rfl) (fun _ _ _ h => h) (by rfl) ?_ (by assumption) ?_
            rotate_left
            · (intro u hSu; (try dsimp only at hSu); go_simp; (try with_reducible rfl))
            (try simp only [Act.put, List.setIfInBounds_toArray, List.set_cons_zero, List.set_cons_succ])
            refine Man.take1 (i := 6) (v := ?_) rfl (by kernel_rfl) (by kernel_rfl) (by kernel_rfl) (fun _ _ _ h => h) (by rfl) ?_ (by assumption) ?_
            rotate_left
            · (intro u hSu; (try dsimp only at hSu); go_simp; (try with_reducible rfl))
            (try simp only [Act.put, List.setIfInBounds_toArray, List.set_cons_zero, List.set_cons_succ])
            refine Man.take1 (i := 7) (v := ?_) rfl (by kernel_rfl) (by kernel_rfl) (by kernel_rfl) (fun _ _ _ h => h) (by rfl) ?_ (by assumption) ?_
            rotate_left
            · (intro u hSu; (try dsimp only at hSu); go_simp; (try with_reducible rfl))
            (try simp only [Act.put, List.setIfInBounds_toArray, List.set_cons_zero, List.set_cons_succ])
            refine Man.take1 (i := 8) (v := ?_) rfl (by kernel_rfl) (by kernel_rfl) (by kernel_rfl) (fun _ _ _ h => h) (by rfl) ?_ (by assumption) ?_
            rotate_left
            · (intro u hSu; (try dsimp only at hSu); go_simp; (try with_reducible rfl))
            (try simp only [Act.put, List.setIfInBounds_toArray, List.set_cons_zero, List.set_cons_succ])
            refine Man.take1 (i := 9) (v := ?_) rfl (by kernel_rfl) (by kernel_rfl) (by kernel_rfl) (fun _ _ _ h => h) (by rfl) ?_ (by assumption) ?_
            rotate_left
            · (intro u hSu; (try dsimp only at hSu); go_simp; (try with_reducible rfl))
            (try simp only [Act.put, List.setIfInBounds_toArray, List.set_cons_zero, List.set_cons_succ])
            refine Man.take1 (i := 10) (v := ?_) rfl (by kernel_rfl) (by kernel_rfl) (by kernel_rfl) (fun _ _ _ h => h) (by rfl) ?_ (by assumption) ?_
            rotate_left
            · (intro u hSu; (try dsimp only at hSu); go_simp; (try with_reducible rfl))
            (try simp only [Act.put, List.setIfInBounds_toArray, List.set_cons_zero, List.set_cons_succ])
            refine Man.take1 (i := 11) (v := ?_) rfl (by kernel_rfl) (by kernel_rfl) (by kernel_rfl) (fun _ _ _ h => h) (by rfl) ?_ (by assumption) ?_
            rotate_left
            · (intro u hSu; (try dsimp only at hSu); go_simp; (try with_reducible rfl))
            (try simp only [Act.put, List.setIfInBounds_toArray, List.set_cons_zero, List.set_cons_succ])
            refine Man.take1 (i := 12) (v := ?_) rfl (by kernel_rfl) (by kernel_rfl) (by kernel_rfl) (fun _ _ _ h => h) (by rfl) ?_ (by assumption) ?_
            rotate_left
            · (intro u hSu; (try dsimp only at hSu); go_simp; (try with_reducible rfl))
            (try simp only [Act.put, List.setIfInBounds_toArray, List.set_cons_zero, List.set_cons_succ])
            refine Man.take1 (i := 13) (v := ?_) rfl (by kernel_rfl) (by kernel_rfl) (by kernel_rfl) (fun _ _ _ h => h) (by rfl) ?_ (by assumption) ?_
            rotate_left
            · (intro u hSu; (try dsimp only at hSu); go_simp; (try with_reducible rfl))
            (try simp only [Act.put, List.setIfInBounds_toArray, List.set_cons_zero, List.set_cons_succ])
            refine Man.one (i := 14) rfl (by kernel_rfl) (fun K hK => ?_)
            go_simp
            (go_at_call 48; (with_reducible refine (rright_is x false HR.out XB.out _).mono ?_); rintro e w' ⟨rfl, hb⟩)
            refine hK.out _ _ ?_ (fun hNew => ?_)
            · exact two_step hHeld hb
            clear hHeld hK K hb
            have hHeld := hNew
            clear hNew
            (try simp only [Act.put, List.setIfInBounds_toArray, List.set_cons_zero, List.set_cons_succ])
            refine Man.take1 (i := 15) (v := ?_) rfl (by kernel_rfl) (by kernel_rfl) (by kernel_rfl) (fun _ _ _ h => h) (by rfl) ?_ (by assumption) ?_
            rotate_left
            · (intro u hSu; (try dsimp only at hSu); go_simp; (try with_reducible rfl))
            (try simp only [Act.put, List.setIfInBounds_toArray, List.set_cons_zero, List.set_cons_succ])
            refine Man.take1 (i := 16) (v := ?_) rfl (by kernel_rfl) (by kernel_rfl) (by kernel_rfl) (fun _ _ _ h => h) (by rfl) ?_ (by assumption) ?_
            rotate_left
            · (intro u hSu; (try dsimp only at hSu); go_simp; (try with_reducible rfl))
            (try simp only [Act.put, List.setIfInBounds_toArray, List.set_cons_zero, List.set_cons_succ])
            refine wpAnyH_done (by kernel_rfl) ?_ _
            obtain ⟨a0, a1, a2, a3, d0, d1, d2, d3, hqb, hqz⟩ := hHeld
            have HB3 := hidm (HBr.out.trans (hqb.mono hsz))
            clear a0 a1 a2 a3 d0 d1 d2 d3 hqb hqz SS0
            go_wp2_with fail
            go_ret
            exact ⟨congrArg (fun q => Ending.returned (.bool q)) HT2.out.symm, HB3.out⟩
          · have HT2 : Hid (xs.take (i + 1) = ys.take (i + 1) ∧ (xs.take (i + 1)).all V.right = true) := hidm (by
              obtain ⟨h3, h4⟩ := HT.out
              rw [List.take_succ_eq_append_getElem hia, List.take_succ_eq_append_getElem hib, ← HX.out, ← HY.out, List.all_append, h4]
              exact ⟨by rw [h3, hxy], by simp [hr]⟩)
            have HR := hidm hr
            clear hs hr hxy hxm
            go_wp2_with fail
            refine wp_region_held_drew (S := fun u => u.cell? ⟨b1, o1 + i * 4, none⟩ = some (.int .i64 x.k) ∧ u.cell? ⟨b1, o1 + i * 4 + 1, none⟩ = some (.int .i64 x.n) ∧ u.cell? ⟨b1, o1 + i * 4 + 2, none⟩ = some (.int .u64 x.b) ∧ u.cell? ⟨b1, o1 + i * 4 + 3, none⟩ = some (.string (S x.s)) ∧ u.cell? ⟨b2, o2 + i * 4, none⟩ = some (.int .i64 y.k) ∧ u.cell? ⟨b2, o2 + i * 4 + 1, none⟩ = some (.int .i64 y.n) ∧ u.cell? ⟨b2, o2 + i * 4 + 2, none⟩ = some (.int .u64 y.b) ∧ u.cell? ⟨b2, o2 + i * 4 + 3, none⟩ = some (.string (S y.s)) ∧ Below wr.heap.size wr u ∧ wr.heap.size ≤ u.heap.size) (by kernel_rfl) ?_ (fun hHeld => ?_)
            · exact two_step SS0.out ((Below.refl _ _).drew)
            refine Man.take1 (i := 0) (v := ?_) rfl (by kernel_rfl) (by kernel_rfl) (by kernel_rfl) (fun _ _ _ h => h) (by rfl) ?_ (by assumption) ?_
            rotate_left
            · (intro u hSu; (try dsimp only at hSu); go_simp; (try with_reducible rfl))
            (try simp only [Act.put, List.setIfInBounds_toArray, List.set_cons_zero, List.set_cons_succ])
            refine Man.take1 (i := 1) (v := ?_) rfl (by kernel_rfl) (by kernel_rfl) (by kernel_rfl) (fun _ _ _ h => h) (by rfl) ?_ (by assumption) ?_
            rotate_left
            · (intro u hSu; (try dsimp only at hSu); go_simp; (try with_reducible rfl))
            (try simp only [Act.put, List.setIfInBounds_toArray, List.set_cons_zero, List.set_cons_succ])
            refine Man.take1 (i := 2) (v := ?_) rfl (by kernel_rfl) (by kernel_rfl) (by kernel_rfl) (fun _ _ _ h => h) (by rfl) ?_ (by assumption) ?_
            rotate_left
            · (intro u hSu; (try dsimp only at hSu); go_simp; (try with_reducible rfl))
            (try simp only [Act.put, List.setIfInBounds_toArray, List.set_cons_zero, List.set_cons_succ])
            refine Man.take1 (i := 3) (v := ?_) rfl (by kernel_rfl) (by kernel_rfl) (by kernel_rfl) (fun _ _ _ h => h) (by rfl) ?_ (by assumption) ?_
            rotate_left
            · (intro u hSu; (try dsimp only at hSu); go_simp; (try with_reducible rfl))
            (try simp only [Act.put, List.setIfInBounds_toArray, List.set_cons_zero, List.set_cons_succ])
            refine Man.take1 (i := 4) (v := ?_) rfl (by kernel_rfl) (by kernel_rfl) (by kernel_rfl) (fun _ _ _ h => h) (by rfl) ?_ (by assumption) ?_
            rotate_left
            · (intro u hSu; (try dsimp only at hSu); go_simp; (try with_reducible rfl))
            (try simp only [Act.put, List.setIfInBounds_toArray, List.set_cons_zero, List.set_cons_succ])
            refine Man.take1 (i := 5) (v := ?_) rfl (by kernel_rfl) (by kernel_rfl) (by kernel_rfl) (fun _ _ _ h => h) (by rfl) ?_ (by assumption) ?_
            rotate_left
            · (intro u hSu; (try dsimp only at hSu); go_simp; (try with_reducible rfl))
            (try simp only [Act.put, List.setIfInBounds_toArray, List.set_cons_zero, List.set_cons_succ])
            refine Man.take1 (i := 6) (v := ?_) rfl (by kernel_rfl) (by kernel_rfl) (by kernel_rfl) (fun _ _ _ h => h) (by rfl) ?_ (by assumption) ?_
            rotate_left
            · (intro u hSu; (try dsimp only at hSu); go_simp; (try with_reducible rfl))
            (try simp only [Act.put, List.setIfInBounds_toArray, List.set_cons_zero, List.set_cons_succ])
            refine Man.take1 (i := 7) (v := ?_) rfl (by kernel_rfl) (by kernel_rfl) (by kernel_rfl) (fun _ _ _ h => h) (by rfl) ?_ (by assumption) ?_
            rotate_left
            · (intro u hSu; (try dsimp only at hSu); go_simp; (try with_reducible rfl))
            (try simp only [Act.put, List.setIfInBounds_toArray, List.set_cons_zero, List.set_cons_succ])
            refine Man.take1 (i := 8) (v := ?_) rfl (by kernel_rfl) (by kernel_rfl) (by kernel_rfl) (fun _ _ _ h => h) (by rfl) ?_ (by assumption) ?_
            rotate_left
            · (intro u hSu; (try dsimp only at hSu); go_simp; (try with_reducible rfl))
            (try simp only [Act.put, List.setIfInBounds_toArray, List.set_cons_zero, List.set_cons_succ])
            refine Man.take1 (i := 9) (v := ?_) rfl (by kernel_rfl) (by kernel_rfl) (by kernel_rfl) (fun _ _ _ h => h) (by rfl) ?_ (by assumption) ?_
            rotate_left
            · (intro u hSu; (try dsimp only at hSu); go_simp; (try with_reducible rfl))
            (try simp only [Act.put, List.setIfInBounds_toArray, List.set_cons_zero, List.set_cons_succ])
            refine Man.take1 (i := 10) (v := ?_) rfl (by kernel_rfl) (by kernel_rfl) (by kernel_rfl) (fun _ _ _ h => h) (by rfl) ?_ (by assumption) ?_
            rotate_left
            · (intro u hSu; (try dsimp only at hSu); go_simp; (try with_reducible rfl))
            (try simp only [Act.put, List.setIfInBounds_toArray, List.set_cons_zero, List.set_cons_succ])
            refine Man.take1 (i := 11) (v := ?_) rfl (by kernel_rfl) (by kernel_rfl) (by kernel_rfl) (fun _ _ _ h => h) (by rfl) ?_ (by assumption) ?_
            rotate_left
            · (intro u hSu; (try dsimp only at hSu); go_simp; (try with_reducible rfl))
            (try simp only [Act.put, List.setIfInBounds_toArray, List.set_cons_zero, List.set_cons_succ])
            refine Man.take1 (i := 12) (v := ?_) rfl (by kernel_rfl) (by kernel_rfl) (by kernel_rfl) (fun _ _ _ h => h) (by rfl) ?_ (by assumption) ?_
            rotate_left
            · (intro u hSu; (try dsimp only at hSu); go_simp; (try with_reducible rfl))
            (try simp only [Act.put, List.setIfInBounds_toArray, List.set_cons_zero, List.set_cons_succ])
            refine Man.take1 (i := 13) (v := ?_) rfl (by kernel_rfl) (by kernel_rfl) (by kernel_rfl) (fun _ _ _ h => h) (by rfl) ?_ (by assumption) ?_
            rotate_left
            · (intro u hSu; (try dsimp only at hSu); go_simp; (try with_reducible rfl))
            (try simp only [Act.put, List.setIfInBounds_toArray, List.set_cons_zero, List.set_cons_succ])
            refine Man.one (i := 14) rfl (by kernel_rfl) (fun K hK => ?_)
            go_simp
            (go_at_call 48; (with_reducible refine (rright_is x true HR.out XB.out _).mono ?_); rintro e w' ⟨rfl, hb⟩)
            refine hK.out _ _ ?_ (fun hNew => ?_)
            · exact two_step hHeld hb
            clear hHeld hK K hb
            have hHeld := hNew
            clear hNew
            (try simp only [Act.put, List.setIfInBounds_toArray, List.set_cons_zero, List.set_cons_succ])
            refine Man.take1 (i := 15) (v := ?_) rfl (by kernel_rfl) (by kernel_rfl) (by kernel_rfl) (fun _ _ _ h => h) (by rfl) ?_ (by assumption) ?_
            rotate_left
            · (intro u hSu; (try dsimp only at hSu); go_simp; (try with_reducible rfl))
            (try simp only [Act.put, List.setIfInBounds_toArray, List.set_cons_zero, List.set_cons_succ])
            refine Man.take1 (i := 16) (v := ?_) rfl (by kernel_rfl) (by kernel_rfl) (by kernel_rfl) (fun _ _ _ h => h) (by rfl) ?_ (by assumption) ?_
            rotate_left
            · (intro u hSu; (try dsimp only at hSu); go_simp; (try with_reducible rfl))
            (try simp only [Act.put, List.setIfInBounds_toArray, List.set_cons_zero, List.set_cons_succ])
            refine wpAnyH_done (by kernel_rfl) ?_ _
            obtain ⟨a0, a1, a2, a3, d0, d1, d2, d3, hqb, hqz⟩ := hHeld
            have HB3 := hidm (HBr.out.trans (hqb.mono hsz))
            clear a0 a1 a2 a3 d0 d1 d2 d3 hqb hqz SS0
            go_wp2_with fail
            go_roundw
            case rel => exact ⟨i + 1, by go_num, by omega, HT2, HB3⟩
            case measure => simp [intOf]; omega
end Ky
end Go.Proofs.YtppdebhcaodcnaaDoor
