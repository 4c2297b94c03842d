/- The document's Same of pieces, among. Condition: no more than a million values a row, a thousand pieces. -/
import Derived.Test.YtoacombaddknfaaOf
import Derived.Test.YtoacombaddknfaaIj
namespace Go.Proofs.Ytoacombaddknfaa
open Go.RowKit
namespace Prd
open Spn (Sp hide At below_alloc Right neS neS_no neS_yes)
open Cod (V RowAt S)
theorem pc_ext {x y : Pm} (h1 : x.s = y.s) (h2 : x.r = y.r) : x.pc = y.pc := by unfold Pm.pc; rw [h1, h2]
theorem Small.one {l : List Pm} (h : Small l) {x : Pm} (hx : x ∈ l) : x.r.length ≤ 1000000 := h.r x hx
set_option maxHeartbeats 8000000 in
set_option maxRecDepth 100000 in
theorem rsame_any {l m : List Pm} {sl sm : Value} {w : World} (h : PcsAt l sl w) (hr : Rows3 l w) (hs : Small l) (h' : PcsAt m sm w) (hr' : Rows3 m w) (hs' : Small m) :
    Calls Try.prog 17 #[sl, sm] w fun e w' => e = .returned (.bool (decide (pcs l = pcs m))) ∧ Below w.heap.size w w' := by
  obtain ⟨so, sc, rfl, _, _⟩ := h.form
  obtain ⟨mo, mc, rfl, _, _⟩ := h'.form
  have HA := hide h
  have HA' := hide h'
  have HR := hide hr
  have HR' := hide hr'
  have HS := hide hs
  have HS' := hide hs'
  obtain ⟨n, hn⟩ : ∃ n, n = l.length := ⟨_, rfl⟩
  obtain ⟨k, hk⟩ : ∃ k, k = m.length := ⟨_, rfl⟩
  have hl : n ≤ 1000 := by rw [hn]; exact hs.n
  rw [← hn, ← hk]
  have HN := hide hn
  have HK := hide hk
  clear h h' hn hk hr hr' hs hs'
  by_cases hnk : n = k
  · subst hnk
    have HNM := hide (show l.length = m.length from HN.out.symm.trans HK.out)
    have g0 : ((n : Int) != (n : Int)) = false := by simp
    go_enter Try.func17, Try.ntmps17
    go_wp2_with fail
    go_loopw [5] (fun ii wr => ∃ i : Nat, ii = .int .i64 i ∧ i ≤ n ∧ Hid (Below w.heap.size w wr) ∧ Hid (∀ (j : Nat) (hj : j < l.length), j < i → (l[j]).pc = (m[j]'(by rw [← HNM.out]; exact hj)).pc)) (fun ii _ => (n - (intOf ii).toNat))
    case atStart => exact ⟨0, rfl, by omega, hide (Below.refl _ _), hide (fun j hj h0 => by omega)⟩
    case round =>
      rename World => wr
      obtain ⟨i, rfl, hi, HB, HF⟩ := hrel
      rcases Nat.lt_or_ge i n with hlt | hge
      · have g1 : (i : Int) < (n : Int) := by omega
        have hil : i < l.length := by rw [← HN.out]; exact hlt
        have him : i < m.length := by rw [← HK.out]; exact hlt
        obtain ⟨b0, off, cap, he, _, _⟩ := (HA.out.later HB.out (Nat.le_refl _)).at i hil
        rw [← HN.out] at he
        simp only [Value.slice.injEq] at he
        obtain ⟨rfl, _, rfl⟩ := he
        obtain ⟨b1, off1, cap1, he1, _, _⟩ := (HA'.out.later HB.out (Nat.le_refl _)).at i him
        rw [← HK.out] at he1
        simp only [Value.slice.injEq] at he1
        obtain ⟨rfl, _, rfl⟩ := he1
        obtain ⟨x, hx⟩ : ∃ x, x = l[i] := ⟨_, rfl⟩
        obtain ⟨y, hy⟩ : ∃ y, y = m[i] := ⟨_, rfl⟩
        have HX := hide hx
        have HY := hide hy
        have CE := hide (show ∀ u : World, Below w.heap.size w u → (u.cell? ⟨b0, off + i * 3, none⟩ = some (.int .i64 x.s.1) ∧ u.cell? ⟨b0, off + i * 3 + 1, none⟩ = some (.int .i64 x.s.2) ∧ u.cell? ⟨b0, off + i * 3 + 2, none⟩ = some (.slice x.ro x.r.length x.rc) ∧ u.cell? ⟨b1, off1 + i * 3, none⟩ = some (.int .i64 y.s.1) ∧ u.cell? ⟨b1, off1 + i * 3 + 1, none⟩ = some (.int .i64 y.s.2) ∧ u.cell? ⟨b1, off1 + i * 3 + 2, none⟩ = some (.slice y.ro y.r.length y.rc)) from fun u hu => by
          have h1 := ((HA.out.later hu (Nat.le_refl _)).got i hil).2
          have h2 := ((HA'.out.later hu (Nat.le_refl _)).got i him).2
          rw [← hx] at h1
          rw [← hy] at h2
          exact ⟨h1.1, h1.2.1, h1.2.2, h2.1, h2.2.1, h2.2.2⟩)
        have CW := hide (show ∀ u : World, Below w.heap.size w u → Calls Try.prog 22 #[.slice x.ro x.r.length x.rc, .slice y.ro y.r.length y.rc] u fun e w' => e = .returned (.bool (decide (x.r = y.r))) ∧ Below u.heap.size u w' from fun u hu =>
          Cod.rows_any x.r y.r _ _ (by rw [hx]; exact HS.out.one (List.getElem_mem hil)) (by rw [hy]; exact HS'.out.one (List.getElem_mem him)) u (by rw [hx]; exact (HR.out.later hu) _ (List.getElem_mem hil)) (by rw [hy]; exact (HR'.out.later hu) _ (List.getElem_mem him)))
        have HBD := hide HB.out.drew
        have HNO := hide (show x.pc ≠ y.pc → decide (pcs l = pcs m) = false from fun hno => decide_eq_false (fun e => hno (by
          rw [hx, hy, ← pcs_at l i hil, ← pcs_at m i him]
          simp only [e])))
        have HYES := hide (show x.pc = y.pc → ∀ (j : Nat) (hj : j < l.length), j < i + 1 → (l[j]).pc = (m[j]'(by rw [← HNM.out]; exact hj)).pc from fun hy2 j hj hji => by
          rcases Nat.lt_or_ge j i with h9 | h9
          · exact HF.out j hj h9
          · obtain rfl : j = i := by omega
            rw [← HX.out, ← HY.out]; exact hy2)
        clear hx hy
        by_cases hxy : x.s = y.s
        · have g2 : neS x.s.1 x.s.2 y.s.1 y.s.2 = false := by rw [hxy]; exact neS_no y.s
          by_cases hrr : x.r = y.r
          · have HF2 := hide (HYES.out (pc_ext hxy hrr))
            have HRR := hide (decide_eq_true hrr)
            clear hxy hrr
            go_wp2_with fail
            refine wp_region_held_drew (S := fun u => u.cell? ⟨b0, off + i * 3, none⟩ = some (.int .i64 x.s.1) ∧ u.cell? ⟨b0, off + i * 3 + 1, none⟩ = some (.int .i64 x.s.2) ∧ u.cell? ⟨b0, off + i * 3 + 2, none⟩ = some (.slice x.ro x.r.length x.rc) ∧ u.cell? ⟨b1, off1 + i * 3, none⟩ = some (.int .i64 y.s.1) ∧ u.cell? ⟨b1, off1 + i * 3 + 1, none⟩ = some (.int .i64 y.s.2) ∧ u.cell? ⟨b1, off1 + i * 3 + 2, none⟩ = some (.slice y.ro y.r.length y.rc)) (by kernel_rfl) (CE.out _ HBD.out) (fun hHeld => ?_)
            refine Man.t1 0 hHeld ?_
            (try simp only [Act.put, Mqa, Mqb, Mqc])
            refine Man.t1 1 hHeld ?_
            (try simp only [Act.put, Mqa, Mqb, Mqc])
            refine Man.t1 2 hHeld ?_
            (try simp only [Act.put, Mqa, Mqb, Mqc])
            refine Man.t1 3 hHeld ?_
            (try simp only [Act.put, Mqa, Mqb, Mqc])
            refine Man.t1 4 hHeld ?_
            (try simp only [Act.put, Mqa, Mqb, Mqc])
            refine Man.t1 5 hHeld ?_
            (try simp only [Act.put, Mqa, Mqb, Mqc])
            refine Man.t1 6 hHeld ?_
            (try simp only [Act.put, Mqa, Mqb, Mqc])
            refine Man.t1 7 hHeld ?_
            (try simp only [Act.put, Mqa, Mqb, Mqc])
            refine Man.t1 8 hHeld ?_
            (try simp only [Act.put, Mqa, Mqb, Mqc])
            refine Man.t1 9 hHeld ?_
            (try simp only [Act.put, Mqa, Mqb, Mqc])
            refine Man.t1 10 hHeld ?_
            (try simp only [Act.put, Mqa, Mqb, Mqc])
            refine Man.t1 11 hHeld ?_
            (try simp only [Act.put, Mqa, Mqb, Mqc])
            refine Man.t1 12 hHeld ?_
            (try simp only [Act.put, Mqa, Mqb, Mqc])
            refine Man.t1 13 hHeld ?_
            (try simp only [Act.put, Mqa, Mqb, Mqc])
            refine Man.t1 14 hHeld ?_
            (try simp only [Act.put, Mqa, Mqb, Mqc])
            refine Man.t1 15 hHeld ?_
            (try simp only [Act.put, Mqa, Mqb, Mqc])
            refine Man.t1 16 hHeld ?_
            (try simp only [Act.put, Mqa, Mqb, Mqc])
            refine Man.t1 17 hHeld ?_
            (try simp only [Act.put, Mqa, Mqb, Mqc])
            refine Man.t1 18 hHeld ?_
            (try simp only [Act.put, Mqa, Mqb, Mqc])
            refine Man.t1 19 hHeld ?_
            (try simp only [Act.put, Mqa, Mqb, Mqc])
            refine Man.t1 20 hHeld ?_
            (try simp only [Act.put, Mqa, Mqb, Mqc])
            refine Man.t1 21 hHeld ?_
            (try simp only [Act.put, Mqa, Mqb, Mqc])
            refine Man.one (i := 22) rfl (by kernel_rfl) (fun K9 hK => ?_)
            go_simp
            have CC := CW.out _ HBD.out
            rw [HRR.out] at CC
            with_reducible refine CC.mono ?_
            rintro e z5 ⟨rfl, hb⟩
            have HB5 := hide (HBD.out.trans (hb.mono HBD.out.size))
            clear hb CC
            refine hK.out _ _ (CE.out _ HB5.out) (fun hNew => ?_)
            clear hK K9 hHeld
            have hHeld := hNew
            clear hNew
            (try simp only [Act.put, Mqa, Mqb, Mqc])
            refine Man.t1 23 hHeld ?_
            (try simp only [Act.put, Mqa, Mqb, Mqc])
            refine Man.t1 24 hHeld ?_
            (try simp only [Act.put, Mqa, Mqb, Mqc])
            refine wpAnyH_done (by kernel_rfl) ?_ _
            go_wp2_with fail
            go_roundw
            case rel => exact ⟨i + 1, by go_num, by omega, HB5, HF2⟩
            case measure => simp [intOf]; omega
          · have HC := hide (HNO.out (fun e => hrr (congrArg Prod.snd e)))
            have HRR := hide (decide_eq_false hrr)
            clear hxy hrr
            go_wp2_with fail
            refine wp_region_held_drew (S := fun u => u.cell? ⟨b0, off + i * 3, none⟩ = some (.int .i64 x.s.1) ∧ u.cell? ⟨b0, off + i * 3 + 1, none⟩ = some (.int .i64 x.s.2) ∧ u.cell? ⟨b0, off + i * 3 + 2, none⟩ = some (.slice x.ro x.r.length x.rc) ∧ u.cell? ⟨b1, off1 + i * 3, none⟩ = some (.int .i64 y.s.1) ∧ u.cell? ⟨b1, off1 + i * 3 + 1, none⟩ = some (.int .i64 y.s.2) ∧ u.cell? ⟨b1, off1 + i * 3 + 2, none⟩ = some (.slice y.ro y.r.length y.rc)) (by kernel_rfl) (CE.out _ HBD.out) (fun hHeld => ?_)
            refine Man.t1 0 hHeld ?_
            (try simp only [Act.put, Mqa, Mqb, Mqc])
            refine Man.t1 1 hHeld ?_
            (try simp only [Act.put, Mqa, Mqb, Mqc])
            refine Man.t1 2 hHeld ?_
            (try simp only [Act.put, Mqa, Mqb, Mqc])
            refine Man.t1 3 hHeld ?_
            (try simp only [Act.put, Mqa, Mqb, Mqc])
            refine Man.t1 4 hHeld ?_
            (try simp only [Act.put, Mqa, Mqb, Mqc])
            refine Man.t1 5 hHeld ?_
            (try simp only [Act.put, Mqa, Mqb, Mqc])
            refine Man.t1 6 hHeld ?_
            (try simp only [Act.put, Mqa, Mqb, Mqc])
            refine Man.t1 7 hHeld ?_
            (try simp only [Act.put, Mqa, Mqb, Mqc])
            refine Man.t1 8 hHeld ?_
            (try simp only [Act.put, Mqa, Mqb, Mqc])
            refine Man.t1 9 hHeld ?_
            (try simp only [Act.put, Mqa, Mqb, Mqc])
            refine Man.t1 10 hHeld ?_
            (try simp only [Act.put, Mqa, Mqb, Mqc])
            refine Man.t1 11 hHeld ?_
            (try simp only [Act.put, Mqa, Mqb, Mqc])
            refine Man.t1 12 hHeld ?_
            (try simp only [Act.put, Mqa, Mqb, Mqc])
            refine Man.t1 13 hHeld ?_
            (try simp only [Act.put, Mqa, Mqb, Mqc])
            refine Man.t1 14 hHeld ?_
            (try simp only [Act.put, Mqa, Mqb, Mqc])
            refine Man.t1 15 hHeld ?_
            (try simp only [Act.put, Mqa, Mqb, Mqc])
            refine Man.t1 16 hHeld ?_
            (try simp only [Act.put, Mqa, Mqb, Mqc])
            refine Man.t1 17 hHeld ?_
            (try simp only [Act.put, Mqa, Mqb, Mqc])
            refine Man.t1 18 hHeld ?_
            (try simp only [Act.put, Mqa, Mqb, Mqc])
            refine Man.t1 19 hHeld ?_
            (try simp only [Act.put, Mqa, Mqb, Mqc])
            refine Man.t1 20 hHeld ?_
            (try simp only [Act.put, Mqa, Mqb, Mqc])
            refine Man.t1 21 hHeld ?_
            (try simp only [Act.put, Mqa, Mqb, Mqc])
            refine Man.one (i := 22) rfl (by kernel_rfl) (fun K9 hK => ?_)
            go_simp
            have CC := CW.out _ HBD.out
            rw [HRR.out] at CC
            with_reducible refine CC.mono ?_
            rintro e z5 ⟨rfl, hb⟩
            have HB5 := hide (HBD.out.trans (hb.mono HBD.out.size))
            clear hb CC
            refine hK.out _ _ (CE.out _ HB5.out) (fun hNew => ?_)
            clear hK K9 hHeld
            have hHeld := hNew
            clear hNew
            (try simp only [Act.put, Mqa, Mqb, Mqc])
            refine Man.t1 23 hHeld ?_
            (try simp only [Act.put, Mqa, Mqb, Mqc])
            refine Man.t1 24 hHeld ?_
            (try simp only [Act.put, Mqa, Mqb, Mqc])
            refine wpAnyH_done (by kernel_rfl) ?_ _
            go_wp2_with fail
            go_ret
            exact ⟨Spn.ret_bool HC.out.symm, HB5.out⟩
        · have g2 : neS x.s.1 x.s.2 y.s.1 y.s.2 = true := neS_yes hxy
          have HC := hide (HNO.out (fun e => hxy (congrArg Prod.fst e)))
          clear hxy
          go_wp2_with fail
          refine wp_region_held_drew (S := fun u => u.cell? ⟨b0, off + i * 3, none⟩ = some (.int .i64 x.s.1) ∧ u.cell? ⟨b0, off + i * 3 + 1, none⟩ = some (.int .i64 x.s.2) ∧ u.cell? ⟨b0, off + i * 3 + 2, none⟩ = some (.slice x.ro x.r.length x.rc) ∧ u.cell? ⟨b1, off1 + i * 3, none⟩ = some (.int .i64 y.s.1) ∧ u.cell? ⟨b1, off1 + i * 3 + 1, none⟩ = some (.int .i64 y.s.2) ∧ u.cell? ⟨b1, off1 + i * 3 + 2, none⟩ = some (.slice y.ro y.r.length y.rc)) (by kernel_rfl) (CE.out _ HBD.out) (fun hHeld => ?_)
          refine Man.t1 0 hHeld ?_
          (try simp only [Act.put, Mqa, Mqb, Mqc])
          refine Man.t1 1 hHeld ?_
          (try simp only [Act.put, Mqa, Mqb, Mqc])
          refine Man.t1 2 hHeld ?_
          (try simp only [Act.put, Mqa, Mqb, Mqc])
          refine Man.t1 3 hHeld ?_
          (try simp only [Act.put, Mqa, Mqb, Mqc])
          refine Man.t1 4 hHeld ?_
          (try simp only [Act.put, Mqa, Mqb, Mqc])
          refine Man.t1 5 hHeld ?_
          (try simp only [Act.put, Mqa, Mqb, Mqc])
          refine Man.t1 6 hHeld ?_
          (try simp only [Act.put, Mqa, Mqb, Mqc])
          refine Man.t1 7 hHeld ?_
          (try simp only [Act.put, Mqa, Mqb, Mqc])
          refine Man.t1 8 hHeld ?_
          (try simp only [Act.put, Mqa, Mqb, Mqc])
          refine Man.t1 9 hHeld ?_
          (try simp only [Act.put, Mqa, Mqb, Mqc])
          refine Man.t1 10 hHeld ?_
          (try simp only [Act.put, Mqa, Mqb, Mqc])
          refine Man.t1 11 hHeld ?_
          (try simp only [Act.put, Mqa, Mqb, Mqc])
          refine Man.take0 (i := 12) rfl (by kernel_rfl) (by kernel_rfl) (by kernel_rfl) (fun _ _ _ h => h) (by rfl) hHeld ?_
          (try simp only [Act.put, Mqa, Mqb, Mqc])
          refine Man.take0 (i := 13) rfl (by kernel_rfl) (by kernel_rfl) (by kernel_rfl) (fun _ _ _ h => h) (by rfl) hHeld ?_
          (try simp only [Act.put, Mqa, Mqb, Mqc])
          refine Man.take0 (i := 14) rfl (by kernel_rfl) (by kernel_rfl) (by kernel_rfl) (fun _ _ _ h => h) (by rfl) hHeld ?_
          (try simp only [Act.put, Mqa, Mqb, Mqc])
          refine Man.take0 (i := 15) rfl (by kernel_rfl) (by kernel_rfl) (by kernel_rfl) (fun _ _ _ h => h) (by rfl) hHeld ?_
          (try simp only [Act.put, Mqa, Mqb, Mqc])
          refine Man.take0 (i := 16) rfl (by kernel_rfl) (by kernel_rfl) (by kernel_rfl) (fun _ _ _ h => h) (by rfl) hHeld ?_
          (try simp only [Act.put, Mqa, Mqb, Mqc])
          refine Man.take0 (i := 17) rfl (by kernel_rfl) (by kernel_rfl) (by kernel_rfl) (fun _ _ _ h => h) (by rfl) hHeld ?_
          (try simp only [Act.put, Mqa, Mqb, Mqc])
          refine Man.take0 (i := 18) rfl (by kernel_rfl) (by kernel_rfl) (by kernel_rfl) (fun _ _ _ h => h) (by rfl) hHeld ?_
          (try simp only [Act.put, Mqa, Mqb, Mqc])
          refine Man.take0 (i := 19) rfl (by kernel_rfl) (by kernel_rfl) (by kernel_rfl) (fun _ _ _ h => h) (by rfl) hHeld ?_
          (try simp only [Act.put, Mqa, Mqb, Mqc])
          refine Man.take0 (i := 20) rfl (by kernel_rfl) (by kernel_rfl) (by kernel_rfl) (fun _ _ _ h => h) (by rfl) hHeld ?_
          (try simp only [Act.put, Mqa, Mqb, Mqc])
          refine Man.take0 (i := 21) rfl (by kernel_rfl) (by kernel_rfl) (by kernel_rfl) (fun _ _ _ h => h) (by rfl) hHeld ?_
          (try simp only [Act.put, Mqa, Mqb, Mqc])
          refine Man.take0 (i := 22) rfl (by kernel_rfl) (by kernel_rfl) (by kernel_rfl) (fun _ _ _ h => h) (by rfl) hHeld ?_
          (try simp only [Act.put, Mqa, Mqb, Mqc])
          refine Man.take0 (i := 23) rfl (by kernel_rfl) (by kernel_rfl) (by kernel_rfl) (fun _ _ _ h => h) (by rfl) hHeld ?_
          (try simp only [Act.put, Mqa, Mqb, Mqc])
          refine Man.t1 24 hHeld ?_
          (try simp only [Act.put, Mqa, Mqb, Mqc])
          refine wpAnyH_done (by kernel_rfl) ?_ _
          go_wp2_with fail
          go_ret
          exact ⟨Spn.ret_bool HC.out.symm, HBD.out⟩
      · obtain rfl : i = n := by omega
        have g1 : ¬ (i : Int) < (i : Int) := by omega
        have HC := hide (show decide (pcs l = pcs m) = true from decide_eq_true (List.ext_getElem (by rw [pcs_len, pcs_len]; exact HNM.out) (fun j h1 h2 => by
          rw [pcs_len] at h1 h2
          rw [pcs_at l j h1, pcs_at m j h2]
          exact HF.out j h1 (by rw [HN.out]; exact h1))))
        go_wp2_with fail
        go_ret
        exact ⟨Spn.ret_bool HC.out.symm, HB.out⟩
  · have HC := hide (show decide (pcs l = pcs m) = false from decide_eq_false (fun e => hnk (by rw [HN.out, HK.out, ← pcs_len l, ← pcs_len m, e])))
    have g0 : ((n : Int) != (k : Int)) = true := by simp; omega
    clear hnk
    go_enter Try.func17, Try.ntmps17
    go_wp2_with fail
    go_ret
    exact ⟨Spn.ret_bool HC.out.symm, Below.refl _ _⟩
set_option maxHeartbeats 8000000 in
set_option maxRecDepth 100000 in
theorem among_any {l : List Pm} {sl : Value} {w : World} (h : PcsAt l sl w) (hr : Rows3 l w) (hs : Small l) (y : Pm) (hy : RowAt y.r y.sl w) (hyl : y.r.length ≤ 1000000) :
    Calls Try.prog 48 #[sl, .agg #[.int .i64 y.s.1, .int .i64 y.s.2, .slice y.ro y.r.length y.rc]] w fun e w' => e = .returned (.bool (decide (y.pc ∈ pcs l))) ∧ Below w.heap.size w w' := by
  obtain ⟨so, sc, rfl, _, _⟩ := h.form
  have HA := hide h
  have HR := hide hr
  have HS := hide hs
  have HYR := hide hy
  have HYL := hide hyl
  obtain ⟨n, hn⟩ : ∃ n, n = l.length := ⟨_, rfl⟩
  have hl : n ≤ 1000 := by rw [hn]; exact hs.n
  rw [← hn]
  have HN := hide hn
  have HB0 := hide (below_alloc w (.cells #[.int .i64 y.s.1, .int .i64 y.s.2, .slice y.ro y.r.length y.rc] 54))
  have HB1 := hide (show (w.alloc (.cells #[.int .i64 y.s.1, .int .i64 y.s.2, .slice y.ro y.r.length y.rc] 54)).cell? ⟨w.heap.size, 0, none⟩ = some (.int .i64 y.s.1) ∧ (w.alloc (.cells #[.int .i64 y.s.1, .int .i64 y.s.2, .slice y.ro y.r.length y.rc] 54)).cell? ⟨w.heap.size, 1, none⟩ = some (.int .i64 y.s.2) ∧ (w.alloc (.cells #[.int .i64 y.s.1, .int .i64 y.s.2, .slice y.ro y.r.length y.rc] 54)).cell? ⟨w.heap.size, 2, none⟩ = some (.slice y.ro y.r.length y.rc) from ⟨by go_keep, by go_keep, by go_keep⟩)
  have hsz : w.heap.size < (w.alloc (.cells #[.int .i64 y.s.1, .int .i64 y.s.2, .slice y.ro y.r.length y.rc] 54)).heap.size := by simp
  obtain ⟨w1, hw1⟩ : ∃ w1, w1 = w.alloc (.cells #[.int .i64 y.s.1, .int .i64 y.s.2, .slice y.ro y.r.length y.rc] 54) := ⟨_, rfl⟩
  rw [← hw1] at HB0 HB1 hsz
  have HSZ := hide hsz
  have HW1 := hide hw1
  clear h hn hr hs hy hyl hsz hw1
  go_enter Try.func48, Try.ntmps48
  go_wp2_with fail
  rw [← HW1.out]
  go_loopw [5] (fun ii wr => ∃ i : Nat, ii = .int .i64 i ∧ i ≤ n ∧ Hid (Below w1.heap.size w1 wr) ∧ Hid (∀ (j : Nat) (hj : j < l.length), j < i → (l[j]).pc ≠ y.pc)) (fun ii _ => (n - (intOf ii).toNat))
  case atStart => exact ⟨0, rfl, by omega, hide (Below.refl _ _), hide (fun j hj h0 => by omega)⟩
  case round =>
    rename World => wr
    obtain ⟨i, rfl, hi, HBL, HF⟩ := hrel
    have HB := hide (show Below w.heap.size w wr from HB0.out.trans (HBL.out.mono HB0.out.size))
    rcases Nat.lt_or_ge i n with hlt | hge
    · have g1 : (i : Int) < (n : Int) := by omega
      have hil : i < l.length := by rw [← HN.out]; exact hlt
      obtain ⟨b0, off, cap, he, _, _⟩ := (HA.out.later HB.out (Nat.le_refl _)).at i hil
      rw [← HN.out] at he
      simp only [Value.slice.injEq] at he
      obtain ⟨rfl, _, rfl⟩ := he
      obtain ⟨x, hx⟩ : ∃ x, x = l[i] := ⟨_, rfl⟩
      have HX := hide hx
      have CE := hide (show ∀ u : World, Below w1.heap.size w1 u → (u.cell? ⟨b0, off + i * 3, none⟩ = some (.int .i64 x.s.1) ∧ u.cell? ⟨b0, off + i * 3 + 1, none⟩ = some (.int .i64 x.s.2) ∧ u.cell? ⟨b0, off + i * 3 + 2, none⟩ = some (.slice x.ro x.r.length x.rc) ∧ u.cell? ⟨w.heap.size, 0, none⟩ = some (.int .i64 y.s.1) ∧ u.cell? ⟨w.heap.size, 1, none⟩ = some (.int .i64 y.s.2) ∧ u.cell? ⟨w.heap.size, 2, none⟩ = some (.slice y.ro y.r.length y.rc)) from fun u hu => by
        have h1 := ((HA.out.later (HB0.out.trans (hu.mono HB0.out.size)) (Nat.le_refl _)).got i hil).2
        rw [← hx] at h1
        have c0 := hu.cell (p := ⟨w.heap.size, 0, none⟩) HSZ.out
        have c1 := hu.cell (p := ⟨w.heap.size, 1, none⟩) HSZ.out
        have c2 := hu.cell (p := ⟨w.heap.size, 2, none⟩) HSZ.out
        exact ⟨h1.1, h1.2.1, h1.2.2, c0.trans HB1.out.1, c1.trans HB1.out.2.1, c2.trans HB1.out.2.2⟩)
      have CW := hide (show ∀ u : World, Below w1.heap.size w1 u → Calls Try.prog 22 #[.slice x.ro x.r.length x.rc, .slice y.ro y.r.length y.rc] u fun e w' => e = .returned (.bool (decide (x.r = y.r))) ∧ Below u.heap.size u w' from fun u hu => by
        have hu2 : Below w.heap.size w u := HB0.out.trans (hu.mono HB0.out.size)
        exact Cod.rows_any x.r y.r _ _ (by rw [hx]; exact HS.out.one (List.getElem_mem hil)) HYL.out u (by rw [hx]; exact (HR.out.later hu2) _ (List.getElem_mem hil)) (HYR.out.later hu2))
      have HBD := hide HBL.out.drew
      have HBY := hide (show ∀ u : World, Below w1.heap.size w1 u → Below w.heap.size w u from fun u hu => HB0.out.trans (hu.mono HB0.out.size))
      have HYES := hide (show x.pc = y.pc → decide (y.pc ∈ pcs l) = true from fun e => decide_eq_true (by
        rw [← e, hx]; exact List.mem_map.2 ⟨_, List.getElem_mem hil, rfl⟩))
      have HNO := hide (show x.pc ≠ y.pc → ∀ (j : Nat) (hj : j < l.length), j < i + 1 → (l[j]).pc ≠ y.pc from fun hy2 j hj hji => by
        rcases Nat.lt_or_ge j i with h9 | h9
        · exact HF.out j hj h9
        · obtain rfl : j = i := by omega
          rw [← HX.out]; exact hy2)
      clear hx
      by_cases hxy : x.s = y.s
      · have g2 : neS x.s.1 x.s.2 y.s.1 y.s.2 = false := by rw [hxy]; exact neS_no y.s
        by_cases hrr : x.r = y.r
        · have HC := hide (HYES.out (pc_ext hxy hrr))
          have HRR := hide (decide_eq_true hrr)
          clear hxy hrr
          go_wp2_with fail
          refine wp_region_held_drew (S := fun u => u.cell? ⟨b0, off + i * 3, none⟩ = some (.int .i64 x.s.1) ∧ u.cell? ⟨b0, off + i * 3 + 1, none⟩ = some (.int .i64 x.s.2) ∧ u.cell? ⟨b0, off + i * 3 + 2, none⟩ = some (.slice x.ro x.r.length x.rc) ∧ u.cell? ⟨w.heap.size, 0, none⟩ = some (.int .i64 y.s.1) ∧ u.cell? ⟨w.heap.size, 1, none⟩ = some (.int .i64 y.s.2) ∧ u.cell? ⟨w.heap.size, 2, none⟩ = some (.slice y.ro y.r.length y.rc)) (by kernel_rfl) (CE.out _ HBD.out) (fun hHeld => ?_)
          refine Man.t1 0 hHeld ?_
          (try simp only [Act.put, Mqa, Mqb, Mqc])
          refine Man.t1 1 hHeld ?_
          (try simp only [Act.put, Mqa, Mqb, Mqc])
          refine Man.t1 2 hHeld ?_
          (try simp only [Act.put, Mqa, Mqb, Mqc])
          refine Man.t1 3 hHeld ?_
          (try simp only [Act.put, Mqa, Mqb, Mqc])
          refine Man.t1 4 hHeld ?_
          (try simp only [Act.put, Mqa, Mqb, Mqc])
          refine Man.t1 5 hHeld ?_
          (try simp only [Act.put, Mqa, Mqb, Mqc])
          refine Man.t1 6 hHeld ?_
          (try simp only [Act.put, Mqa, Mqb, Mqc])
          refine Man.t1 7 hHeld ?_
          (try simp only [Act.put, Mqa, Mqb, Mqc])
          refine Man.t1 8 hHeld ?_
          (try simp only [Act.put, Mqa, Mqb, Mqc])
          refine Man.t1 9 hHeld ?_
          (try simp only [Act.put, Mqa, Mqb, Mqc])
          refine Man.t1 10 hHeld ?_
          (try simp only [Act.put, Mqa, Mqb, Mqc])
          refine Man.t1 11 hHeld ?_
          (try simp only [Act.put, Mqa, Mqb, Mqc])
          refine Man.t1 12 hHeld ?_
          (try simp only [Act.put, Mqa, Mqb, Mqc])
          refine Man.t1 13 hHeld ?_
          (try simp only [Act.put, Mqa, Mqb, Mqc])
          refine Man.t1 14 hHeld ?_
          (try simp only [Act.put, Mqa, Mqb, Mqc])
          refine Man.t1 15 hHeld ?_
          (try simp only [Act.put, Mqa, Mqb, Mqc])
          refine Man.one (i := 16) rfl (by kernel_rfl) (fun K9 hK => ?_)
          go_simp
          have CC := CW.out _ HBD.out
          rw [HRR.out] at CC
          with_reducible refine CC.mono ?_
          rintro e z5 ⟨rfl, hb⟩
          have HB5 := hide (HBD.out.trans (hb.mono HBD.out.size))
          clear hb CC
          refine hK.out _ _ (CE.out _ HB5.out) (fun hNew => ?_)
          clear hK K9 hHeld
          have hHeld := hNew
          clear hNew
          (try simp only [Act.put, Mqa, Mqb, Mqc])
          refine Man.t1 17 hHeld ?_
          (try simp only [Act.put, Mqa, Mqb, Mqc])
          refine wpAnyH_done (by kernel_rfl) ?_ _
          go_wp2_with fail
          go_ret
          exact ⟨Spn.ret_bool HC.out.symm, HBY.out _ HB5.out⟩
        · have HF2 := hide (HNO.out (fun e => hrr (congrArg Prod.snd e)))
          have HRR := hide (decide_eq_false hrr)
          clear hxy hrr
          go_wp2_with fail
          refine wp_region_held_drew (S := fun u => u.cell? ⟨b0, off + i * 3, none⟩ = some (.int .i64 x.s.1) ∧ u.cell? ⟨b0, off + i * 3 + 1, none⟩ = some (.int .i64 x.s.2) ∧ u.cell? ⟨b0, off + i * 3 + 2, none⟩ = some (.slice x.ro x.r.length x.rc) ∧ u.cell? ⟨w.heap.size, 0, none⟩ = some (.int .i64 y.s.1) ∧ u.cell? ⟨w.heap.size, 1, none⟩ = some (.int .i64 y.s.2) ∧ u.cell? ⟨w.heap.size, 2, none⟩ = some (.slice y.ro y.r.length y.rc)) (by kernel_rfl) (CE.out _ HBD.out) (fun hHeld => ?_)
          refine Man.t1 0 hHeld ?_
          (try simp only [Act.put, Mqa, Mqb, Mqc])
          refine Man.t1 1 hHeld ?_
          (try simp only [Act.put, Mqa, Mqb, Mqc])
          refine Man.t1 2 hHeld ?_
          (try simp only [Act.put, Mqa, Mqb, Mqc])
          refine Man.t1 3 hHeld ?_
          (try simp only [Act.put, Mqa, Mqb, Mqc])
          refine Man.t1 4 hHeld ?_
          (try simp only [Act.put, Mqa, Mqb, Mqc])
          refine Man.t1 5 hHeld ?_
          (try simp only [Act.put, Mqa, Mqb, Mqc])
          refine Man.t1 6 hHeld ?_
          (try simp only [Act.put, Mqa, Mqb, Mqc])
          refine Man.t1 7 hHeld ?_
          (try simp only [Act.put, Mqa, Mqb, Mqc])
          refine Man.t1 8 hHeld ?_
          (try simp only [Act.put, Mqa, Mqb, Mqc])
          refine Man.t1 9 hHeld ?_
          (try simp only [Act.put, Mqa, Mqb, Mqc])
          refine Man.t1 10 hHeld ?_
          (try simp only [Act.put, Mqa, Mqb, Mqc])
          refine Man.t1 11 hHeld ?_
          (try simp only [Act.put, Mqa, Mqb, Mqc])
          refine Man.t1 12 hHeld ?_
          (try simp only [Act.put, Mqa, Mqb, Mqc])
          refine Man.t1 13 hHeld ?_
          (try simp only [Act.put, Mqa, Mqb, Mqc])
          refine Man.t1 14 hHeld ?_
          (try simp only [Act.put, Mqa, Mqb, Mqc])
          refine Man.t1 15 hHeld ?_
          (try simp only [Act.put, Mqa, Mqb, Mqc])
          refine Man.one (i := 16) rfl (by kernel_rfl) (fun K9 hK => ?_)
          go_simp
          have CC := CW.out _ HBD.out
          rw [HRR.out] at CC
          with_reducible refine CC.mono ?_
          rintro e z5 ⟨rfl, hb⟩
          have HB5 := hide (HBD.out.trans (hb.mono HBD.out.size))
          clear hb CC
          refine hK.out _ _ (CE.out _ HB5.out) (fun hNew => ?_)
          clear hK K9 hHeld
          have hHeld := hNew
          clear hNew
          (try simp only [Act.put, Mqa, Mqb, Mqc])
          refine Man.t1 17 hHeld ?_
          (try simp only [Act.put, Mqa, Mqb, Mqc])
          refine wpAnyH_done (by kernel_rfl) ?_ _
          go_wp2_with fail
          go_roundw
          case rel => exact ⟨i + 1, by go_num, by omega, HB5, HF2⟩
          case measure => simp [intOf]; omega
      · have g2 : neS x.s.1 x.s.2 y.s.1 y.s.2 = true := neS_yes hxy
        have HF2 := hide (HNO.out (fun e => hxy (congrArg Prod.fst e)))
        clear hxy
        go_wp2_with fail
        refine wp_region_held_drew (S := fun u => u.cell? ⟨b0, off + i * 3, none⟩ = some (.int .i64 x.s.1) ∧ u.cell? ⟨b0, off + i * 3 + 1, none⟩ = some (.int .i64 x.s.2) ∧ u.cell? ⟨b0, off + i * 3 + 2, none⟩ = some (.slice x.ro x.r.length x.rc) ∧ u.cell? ⟨w.heap.size, 0, none⟩ = some (.int .i64 y.s.1) ∧ u.cell? ⟨w.heap.size, 1, none⟩ = some (.int .i64 y.s.2) ∧ u.cell? ⟨w.heap.size, 2, none⟩ = some (.slice y.ro y.r.length y.rc)) (by kernel_rfl) (CE.out _ HBD.out) (fun hHeld => ?_)
        refine Man.t1 0 hHeld ?_
        (try simp only [Act.put, Mqa, Mqb, Mqc])
        refine Man.t1 1 hHeld ?_
        (try simp only [Act.put, Mqa, Mqb, Mqc])
        refine Man.t1 2 hHeld ?_
        (try simp only [Act.put, Mqa, Mqb, Mqc])
        refine Man.t1 3 hHeld ?_
        (try simp only [Act.put, Mqa, Mqb, Mqc])
        refine Man.t1 4 hHeld ?_
        (try simp only [Act.put, Mqa, Mqb, Mqc])
        refine Man.t1 5 hHeld ?_
        (try simp only [Act.put, Mqa, Mqb, Mqc])
        refine Man.t1 6 hHeld ?_
        (try simp only [Act.put, Mqa, Mqb, Mqc])
        refine Man.t1 7 hHeld ?_
        (try simp only [Act.put, Mqa, Mqb, Mqc])
        refine Man.t1 8 hHeld ?_
        (try simp only [Act.put, Mqa, Mqb, Mqc])
        refine Man.take0 (i := 9) rfl (by kernel_rfl) (by kernel_rfl) (by kernel_rfl) (fun _ _ _ h => h) (by rfl) hHeld ?_
        (try simp only [Act.put, Mqa, Mqb, Mqc])
        refine Man.take0 (i := 10) rfl (by kernel_rfl) (by kernel_rfl) (by kernel_rfl) (fun _ _ _ h => h) (by rfl) hHeld ?_
        (try simp only [Act.put, Mqa, Mqb, Mqc])
        refine Man.take0 (i := 11) rfl (by kernel_rfl) (by kernel_rfl) (by kernel_rfl) (fun _ _ _ h => h) (by rfl) hHeld ?_
        (try simp only [Act.put, Mqa, Mqb, Mqc])
        refine Man.take0 (i := 12) rfl (by kernel_rfl) (by kernel_rfl) (by kernel_rfl) (fun _ _ _ h => h) (by rfl) hHeld ?_
        (try simp only [Act.put, Mqa, Mqb, Mqc])
        refine Man.take0 (i := 13) rfl (by kernel_rfl) (by kernel_rfl) (by kernel_rfl) (fun _ _ _ h => h) (by rfl) hHeld ?_
        (try simp only [Act.put, Mqa, Mqb, Mqc])
        refine Man.take0 (i := 14) rfl (by kernel_rfl) (by kernel_rfl) (by kernel_rfl) (fun _ _ _ h => h) (by rfl) hHeld ?_
        (try simp only [Act.put, Mqa, Mqb, Mqc])
        refine Man.take0 (i := 15) rfl (by kernel_rfl) (by kernel_rfl) (by kernel_rfl) (fun _ _ _ h => h) (by rfl) hHeld ?_
        (try simp only [Act.put, Mqa, Mqb, Mqc])
        refine Man.take0 (i := 16) rfl (by kernel_rfl) (by kernel_rfl) (by kernel_rfl) (fun _ _ _ h => h) (by rfl) hHeld ?_
        (try simp only [Act.put, Mqa, Mqb, Mqc])
        refine Man.t1 17 hHeld ?_
        (try simp only [Act.put, Mqa, Mqb, Mqc])
        refine wpAnyH_done (by kernel_rfl) ?_ _
        go_wp2_with fail
        go_roundw
        case rel => exact ⟨i + 1, by go_num, by omega, HBD, HF2⟩
        case measure => simp [intOf]; omega
    · obtain rfl : i = n := by omega
      have g1 : ¬ (i : Int) < (i : Int) := by omega
      have HC := hide (show decide (y.pc ∈ pcs l) = false from decide_eq_false (fun e => by
        obtain ⟨x, hx, h9⟩ := List.mem_map.1 e
        obtain ⟨j, hj, rfl⟩ := List.getElem_of_mem hx
        exact HF.out j hj (by rw [HN.out]; exact hj) h9))
      go_wp2_with fail
      go_ret
      exact ⟨Spn.ret_bool HC.out.symm, HB.out⟩
end Prd
end Go.Proofs.Ytoacombaddknfaa
