/- The document's Right of pieces. Condition: no more than a million values a row, a thousand pieces. -/
import Derived.Test.YtoacombaddknfaaOe
namespace Go.Proofs.Ytoacombaddknfaa
open Go.RowKit
namespace Prd
open Spn (Sp hide At below_alloc Right)
open Cod (V RowAt S)
set_option maxHeartbeats 8000000 in
set_option maxRecDepth 100000 in
theorem rokay_any {l : List Pm} {sl : Value} {w : World} (h : PcsAt l sl w) (hr : Rows3 l w) (hs : Small l) :
    Calls Try.prog 16 #[sl] w fun e w' => e = .returned (.bool (decide (Ok Good (pcs l)))) ∧ Below w.heap.size w w' := by
  obtain ⟨so, sc, rfl, _, _⟩ := h.form
  have HA := hide h
  have HR := hide hr
  have HS := hide hs
  obtain ⟨n, hn⟩ : ∃ n, n = l.length := ⟨_, rfl⟩
  have hl : n ≤ 1000 := by rw [hn]; exact hs.n
  rw [← hn]
  have HN := hide hn
  clear h hn hr hs
  go_enter Try.func16, Try.ntmps16
  go_wp2_with fail
  go_loopw [3] (fun ii wr => ∃ i : Nat, ii = .int .i64 i ∧ i ≤ n ∧ Hid (Below w.heap.size w wr) ∧ Hid (∀ (j : Nat) (hj : j < l.length), j < i → (Right (l[j]).s ∧ Good (l[j]).r) ∧ (0 < j → (l[j - 1]'(by omega)).s.2 ≤ (l[j]).s.1))) (fun ii _ => (n - (intOf ii).toNat))
  case atStart => exact ⟨0, rfl, by omega, hide (Below.refl _ _), hide (fun j hj h0 => by omega)⟩
  case round =>
    rename World => wr
    obtain ⟨i, rfl, hi, HB, HF⟩ := hrel
    rcases Nat.lt_or_ge i n with hlt | hge
    · have g1 : (i : Int) < (n : Int) := by omega
      have hil : i < l.length := by rw [← HN.out]; exact hlt
      obtain ⟨b0, off, cap, he, hbw, k0, k1, k2⟩ := (HA.out.later HB.out (Nat.le_refl _)).at i hil
      rw [← HN.out] at he
      simp only [Value.slice.injEq] at he
      obtain ⟨rfl, _, rfl⟩ := he
      have HAT := hide (show ∀ u : World, Below w.heap.size w u → ∀ (q : Nat) (hq : q < l.length), u.cell? ⟨b0, off + q * 3, none⟩ = some (.int .i64 (l[q]).s.1) ∧ u.cell? ⟨b0, off + q * 3 + 1, none⟩ = some (.int .i64 (l[q]).s.2) ∧ u.cell? ⟨b0, off + q * 3 + 2, none⟩ = some (.slice (l[q]).ro (l[q]).r.length (l[q]).rc) from fun u hu q hq => ((HA.out.later hu (Nat.le_refl _)).got q hq).2)
      have HAR := hide (show ∀ u : World, Below w.heap.size w u → Calls Try.prog 37 #[.slice (l[i]).ro (l[i]).r.length (l[i]).rc] u fun e w' => e = .returned (.bool (rowB (l[i]).r)) ∧ Below u.heap.size u w' from fun u hu => rrow_any ((HR.out.later hu) _ (List.getElem_mem hil)) (HS.out.i _ (List.getElem_mem hil)) (HS.out.r _ (List.getElem_mem hil)))
      have HBD := hide HB.out.drew
      obtain ⟨x, hx⟩ : ∃ x, x = l[i] := ⟨_, rfl⟩
      have HX := hide hx
      rw [← hx] at k0 k1 k2 HAR
      clear hx hbw
      have HNO := hide (show ¬ ((Right x.s ∧ Good x.r) ∧ (0 < i → (l[i - 1]'(by omega)).s.2 ≤ x.s.1)) → decide (Ok Good (pcs l)) = false from fun hno => decide_eq_false (fun hok => hno (by
        have h9 := ok_index.1 hok i (by rw [pcs_len]; exact hil)
        rw [pcs_at l i hil] at h9
        rw [HX.out]
        refine ⟨h9.1, fun h0 => ?_⟩
        have := h9.2 h0
        rw [pcs_at l (i - 1) (by omega)] at this
        exact this)))
      have HYES := hide (show ((Right x.s ∧ Good x.r) ∧ (0 < i → (l[i - 1]'(by omega)).s.2 ≤ x.s.1)) → ∀ (j : Nat) (hj : j < l.length), j < i + 1 → (Right (l[j]).s ∧ Good (l[j]).r) ∧ (0 < j → (l[j - 1]'(by omega)).s.2 ≤ (l[j]).s.1) from fun hy j hj hji => by
        rcases Nat.lt_or_ge j i with h9 | h9
        · exact HF.out j hj h9
        · obtain rfl : j = i := by omega
          rw [← HX.out]; exact hy)
      by_cases hra : Right (x.s.1, x.s.2)
      · have CR := hide (fun w => Spn.rright_yes hra w)
        cases hrb : rowB x.r with
        | true =>
          have HRB := hide hrb
          have hpair : Right x.s ∧ Good x.r := ⟨hra, hrb⟩
          rcases Nat.eq_zero_or_pos i with hi0 | hi0
          · subst hi0
            have HF2 := hide (HYES.out ⟨hpair, fun h0 => by omega⟩)
            have g3 : ¬ (0 : Int) < ((0 : Nat) : Int) := by omega
            clear hpair hra hrb
            have CE := hide (show ∀ u : World, Below w.heap.size w u → (u.cell? ⟨b0, off, none⟩ = some (.int .i64 x.s.1) ∧ u.cell? ⟨b0, off + 1, none⟩ = some (.int .i64 x.s.2) ∧ u.cell? ⟨b0, off + 2, none⟩ = some (.slice x.ro x.r.length x.rc)) from fun u hu => by have := HAT.out u hu 0 hil; rw [← HX.out] at this; simpa using this)
            go_wp2_with fail
            refine wp_region_held_drew (S := fun u => u.cell? ⟨b0, off, none⟩ = some (.int .i64 x.s.1) ∧ u.cell? ⟨b0, off + 1, none⟩ = some (.int .i64 x.s.2) ∧ u.cell? ⟨b0, off + 2, none⟩ = some (.slice x.ro x.r.length x.rc)) (by kernel_rfl) (CE.out _ HBD.out) (fun hHeld => ?_)
            refine Man.t1 0 hHeld ?_
            (try simp only [Act.put, Mqa, Mqb, Mqc])
            refine Man.t1 1 hHeld ?_
            (try simp only [Act.put, Mqa, Mqb, Mqc])
            refine Man.t1 2 hHeld ?_
            (try simp only [Act.put, Mqa, Mqb, Mqc])
            refine Man.t1 3 hHeld ?_
            (try simp only [Act.put, Mqa, Mqb, Mqc])
            refine Man.t1 4 hHeld ?_
            (try simp only [Act.put, Mqa, Mqb, Mqc])
            refine Man.one (i := 5) rfl (by kernel_rfl) (fun K9 hK => ?_)
            go_simp
            with_reducible refine (CR.out _).mono ?_
            rintro e z5 ⟨rfl, hb⟩
            have HB5 := hide (HBD.out.trans (hb.mono HBD.out.size))
            clear hb
            refine hK.out _ _ (CE.out _ HB5.out) (fun hNew => ?_)
            clear hK K9 hHeld
            have hHeld := hNew
            clear hNew
            (try simp only [Act.put, Mqa, Mqb, Mqc])
            refine Man.t1 6 hHeld ?_
            (try simp only [Act.put, Mqa, Mqb, Mqc])
            refine Man.t1 7 hHeld ?_
            (try simp only [Act.put, Mqa, Mqb, Mqc])
            refine Man.t1 8 hHeld ?_
            (try simp only [Act.put, Mqa, Mqb, Mqc])
            refine Man.t1 9 hHeld ?_
            (try simp only [Act.put, Mqa, Mqb, Mqc])
            refine Man.t1 10 hHeld ?_
            (try simp only [Act.put, Mqa, Mqb, Mqc])
            refine Man.t1 11 hHeld ?_
            (try simp only [Act.put, Mqa, Mqb, Mqc])
            refine Man.t1 12 hHeld ?_
            (try simp only [Act.put, Mqa, Mqb, Mqc])
            refine Man.one (i := 13) rfl (by kernel_rfl) (fun K9 hK => ?_)
            go_simp
            have CW := HAR.out z5 HB5.out
            rw [HRB.out] at CW
            with_reducible refine CW.mono ?_
            rintro e z6 ⟨rfl, hb⟩
            have HB6 := hide (HB5.out.trans (hb.mono HB5.out.size))
            clear hb CW
            refine hK.out _ _ (CE.out _ HB6.out) (fun hNew => ?_)
            clear hK K9 hHeld
            have hHeld := hNew
            clear hNew
            (try simp only [Act.put, Mqa, Mqb, Mqc])
            refine Man.t1 14 hHeld ?_
            (try simp only [Act.put, Mqa, Mqb, Mqc])
            refine Man.t1 15 hHeld ?_
            (try simp only [Act.put, Mqa, Mqb, Mqc])
            refine Man.t1 16 hHeld ?_
            (try simp only [Act.put, Mqa, Mqb, Mqc])
            refine Man.t1 17 hHeld ?_
            (try simp only [Act.put, Mqa, Mqb, Mqc])
            refine Man.t1 18 hHeld ?_
            (try simp only [Act.put, Mqa, Mqb, Mqc])
            refine Man.t1 19 hHeld ?_
            (try simp only [Act.put, Mqa, Mqb, Mqc])
            refine Man.take0 (i := 20) rfl (by kernel_rfl) (by kernel_rfl) (by kernel_rfl) (fun _ _ _ h => h) (by rfl) hHeld ?_
            (try simp only [Act.put, Mqa, Mqb, Mqc])
            refine Man.take0 (i := 21) rfl (by kernel_rfl) (by kernel_rfl) (by kernel_rfl) (fun _ _ _ h => h) (by rfl) hHeld ?_
            (try simp only [Act.put, Mqa, Mqb, Mqc])
            refine Man.take0 (i := 22) rfl (by kernel_rfl) (by kernel_rfl) (by kernel_rfl) (fun _ _ _ h => h) (by rfl) hHeld ?_
            (try simp only [Act.put, Mqa, Mqb, Mqc])
            refine Man.take0 (i := 23) rfl (by kernel_rfl) (by kernel_rfl) (by kernel_rfl) (fun _ _ _ h => h) (by rfl) hHeld ?_
            (try simp only [Act.put, Mqa, Mqb, Mqc])
            refine Man.take0 (i := 24) rfl (by kernel_rfl) (by kernel_rfl) (by kernel_rfl) (fun _ _ _ h => h) (by rfl) hHeld ?_
            (try simp only [Act.put, Mqa, Mqb, Mqc])
            refine Man.take0 (i := 25) rfl (by kernel_rfl) (by kernel_rfl) (by kernel_rfl) (fun _ _ _ h => h) (by rfl) hHeld ?_
            (try simp only [Act.put, Mqa, Mqb, Mqc])
            refine Man.take0 (i := 26) rfl (by kernel_rfl) (by kernel_rfl) (by kernel_rfl) (fun _ _ _ h => h) (by rfl) hHeld ?_
            (try simp only [Act.put, Mqa, Mqb, Mqc])
            refine Man.take0 (i := 27) rfl (by kernel_rfl) (by kernel_rfl) (by kernel_rfl) (fun _ _ _ h => h) (by rfl) hHeld ?_
            (try simp only [Act.put, Mqa, Mqb, Mqc])
            refine Man.take0 (i := 28) rfl (by kernel_rfl) (by kernel_rfl) (by kernel_rfl) (fun _ _ _ h => h) (by rfl) hHeld ?_
            (try simp only [Act.put, Mqa, Mqb, Mqc])
            refine Man.take0 (i := 29) rfl (by kernel_rfl) (by kernel_rfl) (by kernel_rfl) (fun _ _ _ h => h) (by rfl) hHeld ?_
            (try simp only [Act.put, Mqa, Mqb, Mqc])
            refine Man.take0 (i := 30) rfl (by kernel_rfl) (by kernel_rfl) (by kernel_rfl) (fun _ _ _ h => h) (by rfl) hHeld ?_
            (try simp only [Act.put, Mqa, Mqb, Mqc])
            refine Man.take0 (i := 31) rfl (by kernel_rfl) (by kernel_rfl) (by kernel_rfl) (fun _ _ _ h => h) (by rfl) hHeld ?_
            (try simp only [Act.put, Mqa, Mqb, Mqc])
            refine Man.take0 (i := 32) rfl (by kernel_rfl) (by kernel_rfl) (by kernel_rfl) (fun _ _ _ h => h) (by rfl) hHeld ?_
            (try simp only [Act.put, Mqa, Mqb, Mqc])
            refine Man.take0 (i := 33) rfl (by kernel_rfl) (by kernel_rfl) (by kernel_rfl) (fun _ _ _ h => h) (by rfl) hHeld ?_
            (try simp only [Act.put, Mqa, Mqb, Mqc])
            refine Man.t1 34 hHeld ?_
            (try simp only [Act.put, Mqa, Mqb, Mqc])
            refine Man.t1 35 hHeld ?_
            (try simp only [Act.put, Mqa, Mqb, Mqc])
            refine wpAnyH_done (by kernel_rfl) ?_ _
            go_wp2_with fail
            go_roundw
            case rel => exact ⟨0 + 1, by go_num, by omega, HB6, HF2⟩
            case measure => simp [intOf]; omega
          · obtain ⟨q, hq⟩ : ∃ q, q = i - 1 := ⟨_, rfl⟩
            have hqp : q < l.length := by omega
            have g3 : (0 : Int) < (i : Int) := by omega
            have f2 : IntKind.i64.wrap (q : Int) = (q : Int) := by simp only [IntKind.wrap_i64]; omega
            have f3 : ((i : Int) - 1) = (q : Int) := by omega
            obtain ⟨y, hy⟩ : ∃ y, y = l[q] := ⟨_, rfl⟩
            have HYI := hide hy
            have g4 : (q : Int) < (n : Int) := by omega
            have HQ := hide (show ∀ h : i - 1 < l.length, (l[i - 1]'h).s.2 = y.s.2 from fun h => by simp only [hy, hq])
            clear hy hq
            by_cases hup : y.s.2 ≤ x.s.1
            · have HF2 := hide (HYES.out ⟨hpair, fun _ => by rw [HQ.out]; exact hup⟩)
              have g5 : ¬ x.s.1 < y.s.2 := by omega
              have g6 : decide (x.s.1 < y.s.2) = false := decide_eq_false g5
              clear hpair hra hrb
              have CE := hide (show ∀ u : World, Below w.heap.size w u → (u.cell? ⟨b0, off + i * 3, none⟩ = some (.int .i64 x.s.1) ∧ u.cell? ⟨b0, off + i * 3 + 1, none⟩ = some (.int .i64 x.s.2) ∧ u.cell? ⟨b0, off + i * 3 + 2, none⟩ = some (.slice x.ro x.r.length x.rc) ∧ u.cell? ⟨b0, off + q * 3 + 1, none⟩ = some (.int .i64 y.s.2)) from fun u hu => by have h1 := HAT.out u hu i hil; have h2 := (HAT.out u hu q hqp).2.1; rw [← HX.out] at h1; rw [← HYI.out] at h2; exact ⟨h1.1, h1.2.1, h1.2.2, h2⟩)
              go_wp2_with fail
              refine wp_region_held_drew (S := fun u => u.cell? ⟨b0, off + i * 3, none⟩ = some (.int .i64 x.s.1) ∧ u.cell? ⟨b0, off + i * 3 + 1, none⟩ = some (.int .i64 x.s.2) ∧ u.cell? ⟨b0, off + i * 3 + 2, none⟩ = some (.slice x.ro x.r.length x.rc) ∧ u.cell? ⟨b0, off + q * 3 + 1, none⟩ = some (.int .i64 y.s.2)) (by kernel_rfl) (CE.out _ HBD.out) (fun hHeld => ?_)
              refine Man.t1 0 hHeld ?_
              (try simp only [Act.put, Mqa, Mqb, Mqc])
              refine Man.t1 1 hHeld ?_
              (try simp only [Act.put, Mqa, Mqb, Mqc])
              refine Man.t1 2 hHeld ?_
              (try simp only [Act.put, Mqa, Mqb, Mqc])
              refine Man.t1 3 hHeld ?_
              (try simp only [Act.put, Mqa, Mqb, Mqc])
              refine Man.t1 4 hHeld ?_
              (try simp only [Act.put, Mqa, Mqb, Mqc])
              refine Man.one (i := 5) rfl (by kernel_rfl) (fun K9 hK => ?_)
              go_simp
              with_reducible refine (CR.out _).mono ?_
              rintro e z5 ⟨rfl, hb⟩
              have HB5 := hide (HBD.out.trans (hb.mono HBD.out.size))
              clear hb
              refine hK.out _ _ (CE.out _ HB5.out) (fun hNew => ?_)
              clear hK K9 hHeld
              have hHeld := hNew
              clear hNew
              (try simp only [Act.put, Mqa, Mqb, Mqc])
              refine Man.t1 6 hHeld ?_
              (try simp only [Act.put, Mqa, Mqb, Mqc])
              refine Man.t1 7 hHeld ?_
              (try simp only [Act.put, Mqa, Mqb, Mqc])
              refine Man.t1 8 hHeld ?_
              (try simp only [Act.put, Mqa, Mqb, Mqc])
              refine Man.t1 9 hHeld ?_
              (try simp only [Act.put, Mqa, Mqb, Mqc])
              refine Man.t1 10 hHeld ?_
              (try simp only [Act.put, Mqa, Mqb, Mqc])
              refine Man.t1 11 hHeld ?_
              (try simp only [Act.put, Mqa, Mqb, Mqc])
              refine Man.t1 12 hHeld ?_
              (try simp only [Act.put, Mqa, Mqb, Mqc])
              refine Man.one (i := 13) rfl (by kernel_rfl) (fun K9 hK => ?_)
              go_simp
              have CW := HAR.out z5 HB5.out
              rw [HRB.out] at CW
              with_reducible refine CW.mono ?_
              rintro e z6 ⟨rfl, hb⟩
              have HB6 := hide (HB5.out.trans (hb.mono HB5.out.size))
              clear hb CW
              refine hK.out _ _ (CE.out _ HB6.out) (fun hNew => ?_)
              clear hK K9 hHeld
              have hHeld := hNew
              clear hNew
              (try simp only [Act.put, Mqa, Mqb, Mqc])
              refine Man.t1 14 hHeld ?_
              (try simp only [Act.put, Mqa, Mqb, Mqc])
              refine Man.t1 15 hHeld ?_
              (try simp only [Act.put, Mqa, Mqb, Mqc])
              refine Man.t1 16 hHeld ?_
              (try simp only [Act.put, Mqa, Mqb, Mqc])
              refine Man.t1 17 hHeld ?_
              (try simp only [Act.put, Mqa, Mqb, Mqc])
              refine Man.t1 18 hHeld ?_
              (try simp only [Act.put, Mqa, Mqb, Mqc])
              refine Man.t1 19 hHeld ?_
              (try simp only [Act.put, Mqa, Mqb, Mqc])
              refine Man.t1 20 hHeld ?_
              (try simp only [Act.put, Mqa, Mqb, Mqc])
              refine Man.t1 21 hHeld ?_
              (try simp only [Act.put, Mqa, Mqb, Mqc])
              refine Man.t1 22 hHeld ?_
              (try simp only [Act.put, Mqa, Mqb, Mqc])
              refine Man.t1 23 hHeld ?_
              (try simp only [Act.put, Mqa, Mqb, Mqc])
              refine Man.t1 24 hHeld ?_
              (try simp only [Act.put, Mqa, Mqb, Mqc])
              refine Man.t1 25 hHeld ?_
              (try simp only [Act.put, Mqa, Mqb, Mqc])
              refine Man.t1 26 hHeld ?_
              (try simp only [Act.put, Mqa, Mqb, Mqc])
              refine Man.t1 27 hHeld ?_
              (try simp only [Act.put, Mqa, Mqb, Mqc])
              refine Man.t1 28 hHeld ?_
              (try simp only [Act.put, Mqa, Mqb, Mqc])
              refine Man.t1 29 hHeld ?_
              (try simp only [Act.put, Mqa, Mqb, Mqc])
              refine Man.t1 30 hHeld ?_
              (try simp only [Act.put, Mqa, Mqb, Mqc])
              refine Man.t1 31 hHeld ?_
              (try simp only [Act.put, Mqa, Mqb, Mqc])
              refine Man.t1 32 hHeld ?_
              (try simp only [Act.put, Mqa, Mqb, Mqc])
              refine Man.t1 33 hHeld ?_
              (try simp only [Act.put, Mqa, Mqb, Mqc])
              refine Man.t1 34 hHeld ?_
              (try simp only [Act.put, Mqa, Mqb, Mqc])
              refine Man.t1 35 hHeld ?_
              (try simp only [Act.put, Mqa, Mqb, Mqc])
              refine wpAnyH_done (by kernel_rfl) ?_ _
              go_wp2_with fail
              go_roundw
              case rel => exact ⟨i + 1, by go_num, by omega, HB6, HF2⟩
              case measure => simp [intOf]; omega
            · have HC := hide (HNO.out (fun h9 => hup (by have := h9.2 hi0; rwa [HQ.out] at this)))
              have g5 : x.s.1 < y.s.2 := by omega
              clear hpair hra hrb
              have CE := hide (show ∀ u : World, Below w.heap.size w u → (u.cell? ⟨b0, off + i * 3, none⟩ = some (.int .i64 x.s.1) ∧ u.cell? ⟨b0, off + i * 3 + 1, none⟩ = some (.int .i64 x.s.2) ∧ u.cell? ⟨b0, off + i * 3 + 2, none⟩ = some (.slice x.ro x.r.length x.rc) ∧ u.cell? ⟨b0, off + q * 3 + 1, none⟩ = some (.int .i64 y.s.2)) from fun u hu => by have h1 := HAT.out u hu i hil; have h2 := (HAT.out u hu q hqp).2.1; rw [← HX.out] at h1; rw [← HYI.out] at h2; exact ⟨h1.1, h1.2.1, h1.2.2, h2⟩)
              go_wp2_with fail
              refine wp_region_held_drew (S := fun u => u.cell? ⟨b0, off + i * 3, none⟩ = some (.int .i64 x.s.1) ∧ u.cell? ⟨b0, off + i * 3 + 1, none⟩ = some (.int .i64 x.s.2) ∧ u.cell? ⟨b0, off + i * 3 + 2, none⟩ = some (.slice x.ro x.r.length x.rc) ∧ u.cell? ⟨b0, off + q * 3 + 1, none⟩ = some (.int .i64 y.s.2)) (by kernel_rfl) (CE.out _ HBD.out) (fun hHeld => ?_)
              refine Man.t1 0 hHeld ?_
              (try simp only [Act.put, Mqa, Mqb, Mqc])
              refine Man.t1 1 hHeld ?_
              (try simp only [Act.put, Mqa, Mqb, Mqc])
              refine Man.t1 2 hHeld ?_
              (try simp only [Act.put, Mqa, Mqb, Mqc])
              refine Man.t1 3 hHeld ?_
              (try simp only [Act.put, Mqa, Mqb, Mqc])
              refine Man.t1 4 hHeld ?_
              (try simp only [Act.put, Mqa, Mqb, Mqc])
              refine Man.one (i := 5) rfl (by kernel_rfl) (fun K9 hK => ?_)
              go_simp
              with_reducible refine (CR.out _).mono ?_
              rintro e z5 ⟨rfl, hb⟩
              have HB5 := hide (HBD.out.trans (hb.mono HBD.out.size))
              clear hb
              refine hK.out _ _ (CE.out _ HB5.out) (fun hNew => ?_)
              clear hK K9 hHeld
              have hHeld := hNew
              clear hNew
              (try simp only [Act.put, Mqa, Mqb, Mqc])
              refine Man.t1 6 hHeld ?_
              (try simp only [Act.put, Mqa, Mqb, Mqc])
              refine Man.t1 7 hHeld ?_
              (try simp only [Act.put, Mqa, Mqb, Mqc])
              refine Man.t1 8 hHeld ?_
              (try simp only [Act.put, Mqa, Mqb, Mqc])
              refine Man.t1 9 hHeld ?_
              (try simp only [Act.put, Mqa, Mqb, Mqc])
              refine Man.t1 10 hHeld ?_
              (try simp only [Act.put, Mqa, Mqb, Mqc])
              refine Man.t1 11 hHeld ?_
              (try simp only [Act.put, Mqa, Mqb, Mqc])
              refine Man.t1 12 hHeld ?_
              (try simp only [Act.put, Mqa, Mqb, Mqc])
              refine Man.one (i := 13) rfl (by kernel_rfl) (fun K9 hK => ?_)
              go_simp
              have CW := HAR.out z5 HB5.out
              rw [HRB.out] at CW
              with_reducible refine CW.mono ?_
              rintro e z6 ⟨rfl, hb⟩
              have HB6 := hide (HB5.out.trans (hb.mono HB5.out.size))
              clear hb CW
              refine hK.out _ _ (CE.out _ HB6.out) (fun hNew => ?_)
              clear hK K9 hHeld
              have hHeld := hNew
              clear hNew
              (try simp only [Act.put, Mqa, Mqb, Mqc])
              refine Man.t1 14 hHeld ?_
              (try simp only [Act.put, Mqa, Mqb, Mqc])
              refine Man.t1 15 hHeld ?_
              (try simp only [Act.put, Mqa, Mqb, Mqc])
              refine Man.t1 16 hHeld ?_
              (try simp only [Act.put, Mqa, Mqb, Mqc])
              refine Man.t1 17 hHeld ?_
              (try simp only [Act.put, Mqa, Mqb, Mqc])
              refine Man.t1 18 hHeld ?_
              (try simp only [Act.put, Mqa, Mqb, Mqc])
              refine Man.t1 19 hHeld ?_
              (try simp only [Act.put, Mqa, Mqb, Mqc])
              refine Man.t1 20 hHeld ?_
              (try simp only [Act.put, Mqa, Mqb, Mqc])
              refine Man.t1 21 hHeld ?_
              (try simp only [Act.put, Mqa, Mqb, Mqc])
              refine Man.t1 22 hHeld ?_
              (try simp only [Act.put, Mqa, Mqb, Mqc])
              refine Man.t1 23 hHeld ?_
              (try simp only [Act.put, Mqa, Mqb, Mqc])
              refine Man.t1 24 hHeld ?_
              (try simp only [Act.put, Mqa, Mqb, Mqc])
              refine Man.t1 25 hHeld ?_
              (try simp only [Act.put, Mqa, Mqb, Mqc])
              refine Man.t1 26 hHeld ?_
              (try simp only [Act.put, Mqa, Mqb, Mqc])
              refine Man.t1 27 hHeld ?_
              (try simp only [Act.put, Mqa, Mqb, Mqc])
              refine Man.t1 28 hHeld ?_
              (try simp only [Act.put, Mqa, Mqb, Mqc])
              refine Man.t1 29 hHeld ?_
              (try simp only [Act.put, Mqa, Mqb, Mqc])
              refine Man.t1 30 hHeld ?_
              (try simp only [Act.put, Mqa, Mqb, Mqc])
              refine Man.t1 31 hHeld ?_
              (try simp only [Act.put, Mqa, Mqb, Mqc])
              refine Man.t1 32 hHeld ?_
              (try simp only [Act.put, Mqa, Mqb, Mqc])
              refine Man.t1 33 hHeld ?_
              (try simp only [Act.put, Mqa, Mqb, Mqc])
              refine Man.t1 34 hHeld ?_
              (try simp only [Act.put, Mqa, Mqb, Mqc])
              refine Man.t1 35 hHeld ?_
              (try simp only [Act.put, Mqa, Mqb, Mqc])
              refine wpAnyH_done (by kernel_rfl) ?_ _
              go_wp2_with fail
              go_ret
              exact ⟨Spn.ret_bool HC.out.symm, HB6.out⟩
        | false =>
          have HRB := hide hrb
          have HC := hide (HNO.out (fun h9 => by have := h9.1.2; unfold Good at this; rw [hrb] at this; cases this))
          clear hra hrb
          have CE := hide (show ∀ u : World, Below w.heap.size w u → (u.cell? ⟨b0, off + i * 3, none⟩ = some (.int .i64 x.s.1) ∧ u.cell? ⟨b0, off + i * 3 + 1, none⟩ = some (.int .i64 x.s.2) ∧ u.cell? ⟨b0, off + i * 3 + 2, none⟩ = some (.slice x.ro x.r.length x.rc)) from fun u hu => by have := HAT.out u hu i hil; rw [← HX.out] at this; exact this)
          go_wp2_with fail
          refine wp_region_held_drew (S := fun u => u.cell? ⟨b0, off + i * 3, none⟩ = some (.int .i64 x.s.1) ∧ u.cell? ⟨b0, off + i * 3 + 1, none⟩ = some (.int .i64 x.s.2) ∧ u.cell? ⟨b0, off + i * 3 + 2, none⟩ = some (.slice x.ro x.r.length x.rc)) (by kernel_rfl) (CE.out _ HBD.out) (fun hHeld => ?_)
          refine Man.t1 0 hHeld ?_
          (try simp only [Act.put, Mqa, Mqb, Mqc])
          refine Man.t1 1 hHeld ?_
          (try simp only [Act.put, Mqa, Mqb, Mqc])
          refine Man.t1 2 hHeld ?_
          (try simp only [Act.put, Mqa, Mqb, Mqc])
          refine Man.t1 3 hHeld ?_
          (try simp only [Act.put, Mqa, Mqb, Mqc])
          refine Man.t1 4 hHeld ?_
          (try simp only [Act.put, Mqa, Mqb, Mqc])
          refine Man.one (i := 5) rfl (by kernel_rfl) (fun K9 hK => ?_)
          go_simp
          with_reducible refine (CR.out _).mono ?_
          rintro e z5 ⟨rfl, hb⟩
          have HB5 := hide (HBD.out.trans (hb.mono HBD.out.size))
          clear hb
          refine hK.out _ _ (CE.out _ HB5.out) (fun hNew => ?_)
          clear hK K9 hHeld
          have hHeld := hNew
          clear hNew
          (try simp only [Act.put, Mqa, Mqb, Mqc])
          refine Man.t1 6 hHeld ?_
          (try simp only [Act.put, Mqa, Mqb, Mqc])
          refine Man.t1 7 hHeld ?_
          (try simp only [Act.put, Mqa, Mqb, Mqc])
          refine Man.t1 8 hHeld ?_
          (try simp only [Act.put, Mqa, Mqb, Mqc])
          refine Man.t1 9 hHeld ?_
          (try simp only [Act.put, Mqa, Mqb, Mqc])
          refine Man.t1 10 hHeld ?_
          (try simp only [Act.put, Mqa, Mqb, Mqc])
          refine Man.t1 11 hHeld ?_
          (try simp only [Act.put, Mqa, Mqb, Mqc])
          refine Man.t1 12 hHeld ?_
          (try simp only [Act.put, Mqa, Mqb, Mqc])
          refine Man.one (i := 13) rfl (by kernel_rfl) (fun K9 hK => ?_)
          go_simp
          have CW := HAR.out z5 HB5.out
          rw [HRB.out] at CW
          with_reducible refine CW.mono ?_
          rintro e z6 ⟨rfl, hb⟩
          have HB6 := hide (HB5.out.trans (hb.mono HB5.out.size))
          clear hb CW
          refine hK.out _ _ (CE.out _ HB6.out) (fun hNew => ?_)
          clear hK K9 hHeld
          have hHeld := hNew
          clear hNew
          (try simp only [Act.put, Mqa, Mqb, Mqc])
          refine Man.t1 14 hHeld ?_
          (try simp only [Act.put, Mqa, Mqb, Mqc])
          refine Man.t1 15 hHeld ?_
          (try simp only [Act.put, Mqa, Mqb, Mqc])
          refine Man.t1 16 hHeld ?_
          (try simp only [Act.put, Mqa, Mqb, Mqc])
          refine Man.take0 (i := 17) rfl (by kernel_rfl) (by kernel_rfl) (by kernel_rfl) (fun _ _ _ h => h) (by rfl) hHeld ?_
          (try simp only [Act.put, Mqa, Mqb, Mqc])
          refine Man.take0 (i := 18) rfl (by kernel_rfl) (by kernel_rfl) (by kernel_rfl) (fun _ _ _ h => h) (by rfl) hHeld ?_
          (try simp only [Act.put, Mqa, Mqb, Mqc])
          refine Man.take0 (i := 19) rfl (by kernel_rfl) (by kernel_rfl) (by kernel_rfl) (fun _ _ _ h => h) (by rfl) hHeld ?_
          (try simp only [Act.put, Mqa, Mqb, Mqc])
          refine Man.take0 (i := 20) rfl (by kernel_rfl) (by kernel_rfl) (by kernel_rfl) (fun _ _ _ h => h) (by rfl) hHeld ?_
          (try simp only [Act.put, Mqa, Mqb, Mqc])
          refine Man.take0 (i := 21) rfl (by kernel_rfl) (by kernel_rfl) (by kernel_rfl) (fun _ _ _ h => h) (by rfl) hHeld ?_
          (try simp only [Act.put, Mqa, Mqb, Mqc])
          refine Man.take0 (i := 22) rfl (by kernel_rfl) (by kernel_rfl) (by kernel_rfl) (fun _ _ _ h => h) (by rfl) hHeld ?_
          (try simp only [Act.put, Mqa, Mqb, Mqc])
          refine Man.take0 (i := 23) rfl (by kernel_rfl) (by kernel_rfl) (by kernel_rfl) (fun _ _ _ h => h) (by rfl) hHeld ?_
          (try simp only [Act.put, Mqa, Mqb, Mqc])
          refine Man.take0 (i := 24) rfl (by kernel_rfl) (by kernel_rfl) (by kernel_rfl) (fun _ _ _ h => h) (by rfl) hHeld ?_
          (try simp only [Act.put, Mqa, Mqb, Mqc])
          refine Man.take0 (i := 25) rfl (by kernel_rfl) (by kernel_rfl) (by kernel_rfl) (fun _ _ _ h => h) (by rfl) hHeld ?_
          (try simp only [Act.put, Mqa, Mqb, Mqc])
          refine Man.take0 (i := 26) rfl (by kernel_rfl) (by kernel_rfl) (by kernel_rfl) (fun _ _ _ h => h) (by rfl) hHeld ?_
          (try simp only [Act.put, Mqa, Mqb, Mqc])
          refine Man.take0 (i := 27) rfl (by kernel_rfl) (by kernel_rfl) (by kernel_rfl) (fun _ _ _ h => h) (by rfl) hHeld ?_
          (try simp only [Act.put, Mqa, Mqb, Mqc])
          refine Man.take0 (i := 28) rfl (by kernel_rfl) (by kernel_rfl) (by kernel_rfl) (fun _ _ _ h => h) (by rfl) hHeld ?_
          (try simp only [Act.put, Mqa, Mqb, Mqc])
          refine Man.take0 (i := 29) rfl (by kernel_rfl) (by kernel_rfl) (by kernel_rfl) (fun _ _ _ h => h) (by rfl) hHeld ?_
          (try simp only [Act.put, Mqa, Mqb, Mqc])
          refine Man.take0 (i := 30) rfl (by kernel_rfl) (by kernel_rfl) (by kernel_rfl) (fun _ _ _ h => h) (by rfl) hHeld ?_
          (try simp only [Act.put, Mqa, Mqb, Mqc])
          refine Man.take0 (i := 31) rfl (by kernel_rfl) (by kernel_rfl) (by kernel_rfl) (fun _ _ _ h => h) (by rfl) hHeld ?_
          (try simp only [Act.put, Mqa, Mqb, Mqc])
          refine Man.take0 (i := 32) rfl (by kernel_rfl) (by kernel_rfl) (by kernel_rfl) (fun _ _ _ h => h) (by rfl) hHeld ?_
          (try simp only [Act.put, Mqa, Mqb, Mqc])
          refine Man.take0 (i := 33) rfl (by kernel_rfl) (by kernel_rfl) (by kernel_rfl) (fun _ _ _ h => h) (by rfl) hHeld ?_
          (try simp only [Act.put, Mqa, Mqb, Mqc])
          refine Man.take0 (i := 34) rfl (by kernel_rfl) (by kernel_rfl) (by kernel_rfl) (fun _ _ _ h => h) (by rfl) hHeld ?_
          (try simp only [Act.put, Mqa, Mqb, Mqc])
          refine Man.t1 35 hHeld ?_
          (try simp only [Act.put, Mqa, Mqb, Mqc])
          refine wpAnyH_done (by kernel_rfl) ?_ _
          go_wp2_with fail
          go_ret
          exact ⟨Spn.ret_bool HC.out.symm, HB6.out⟩
      · have CR := hide (fun w => Spn.rright_no hra w)
        have HC := hide (HNO.out (fun h9 => hra h9.1.1))
        clear hra
        have CE := hide (show ∀ u : World, Below w.heap.size w u → (u.cell? ⟨b0, off + i * 3, none⟩ = some (.int .i64 x.s.1) ∧ u.cell? ⟨b0, off + i * 3 + 1, none⟩ = some (.int .i64 x.s.2) ∧ u.cell? ⟨b0, off + i * 3 + 2, none⟩ = some (.slice x.ro x.r.length x.rc)) from fun u hu => by have := HAT.out u hu i hil; rw [← HX.out] at this; exact this)
        go_wp2_with fail
        refine wp_region_held_drew (S := fun u => u.cell? ⟨b0, off + i * 3, none⟩ = some (.int .i64 x.s.1) ∧ u.cell? ⟨b0, off + i * 3 + 1, none⟩ = some (.int .i64 x.s.2) ∧ u.cell? ⟨b0, off + i * 3 + 2, none⟩ = some (.slice x.ro x.r.length x.rc)) (by kernel_rfl) (CE.out _ HBD.out) (fun hHeld => ?_)
        refine Man.t1 0 hHeld ?_
        (try simp only [Act.put, Mqa, Mqb, Mqc])
        refine Man.t1 1 hHeld ?_
        (try simp only [Act.put, Mqa, Mqb, Mqc])
        refine Man.t1 2 hHeld ?_
        (try simp only [Act.put, Mqa, Mqb, Mqc])
        refine Man.t1 3 hHeld ?_
        (try simp only [Act.put, Mqa, Mqb, Mqc])
        refine Man.t1 4 hHeld ?_
        (try simp only [Act.put, Mqa, Mqb, Mqc])
        refine Man.one (i := 5) rfl (by kernel_rfl) (fun K9 hK => ?_)
        go_simp
        with_reducible refine (CR.out _).mono ?_
        rintro e z5 ⟨rfl, hb⟩
        have HB5 := hide (HBD.out.trans (hb.mono HBD.out.size))
        clear hb
        refine hK.out _ _ (CE.out _ HB5.out) (fun hNew => ?_)
        clear hK K9 hHeld
        have hHeld := hNew
        clear hNew
        (try simp only [Act.put, Mqa, Mqb, Mqc])
        refine Man.t1 6 hHeld ?_
        (try simp only [Act.put, Mqa, Mqb, Mqc])
        refine Man.t1 7 hHeld ?_
        (try simp only [Act.put, Mqa, Mqb, Mqc])
        refine Man.take0 (i := 8) rfl (by kernel_rfl) (by kernel_rfl) (by kernel_rfl) (fun _ _ _ h => h) (by rfl) hHeld ?_
        (try simp only [Act.put, Mqa, Mqb, Mqc])
        refine Man.take0 (i := 9) rfl (by kernel_rfl) (by kernel_rfl) (by kernel_rfl) (fun _ _ _ h => h) (by rfl) hHeld ?_
        (try simp only [Act.put, Mqa, Mqb, Mqc])
        refine Man.take0 (i := 10) rfl (by kernel_rfl) (by kernel_rfl) (by kernel_rfl) (fun _ _ _ h => h) (by rfl) hHeld ?_
        (try simp only [Act.put, Mqa, Mqb, Mqc])
        refine Man.take0 (i := 11) rfl (by kernel_rfl) (by kernel_rfl) (by kernel_rfl) (fun _ _ _ h => h) (by rfl) hHeld ?_
        (try simp only [Act.put, Mqa, Mqb, Mqc])
        refine Man.take0 (i := 12) rfl (by kernel_rfl) (by kernel_rfl) (by kernel_rfl) (fun _ _ _ h => h) (by rfl) hHeld ?_
        (try simp only [Act.put, Mqa, Mqb, Mqc])
        refine Man.take0 (i := 13) rfl (by kernel_rfl) (by kernel_rfl) (by kernel_rfl) (fun _ _ _ h => h) (by rfl) hHeld ?_
        (try simp only [Act.put, Mqa, Mqb, Mqc])
        refine Man.take0 (i := 14) rfl (by kernel_rfl) (by kernel_rfl) (by kernel_rfl) (fun _ _ _ h => h) (by rfl) hHeld ?_
        (try simp only [Act.put, Mqa, Mqb, Mqc])
        refine Man.t1 15 hHeld ?_
        (try simp only [Act.put, Mqa, Mqb, Mqc])
        refine Man.t1 16 hHeld ?_
        (try simp only [Act.put, Mqa, Mqb, Mqc])
        refine Man.take0 (i := 17) rfl (by kernel_rfl) (by kernel_rfl) (by kernel_rfl) (fun _ _ _ h => h) (by rfl) hHeld ?_
        (try simp only [Act.put, Mqa, Mqb, Mqc])
        refine Man.take0 (i := 18) rfl (by kernel_rfl) (by kernel_rfl) (by kernel_rfl) (fun _ _ _ h => h) (by rfl) hHeld ?_
        (try simp only [Act.put, Mqa, Mqb, Mqc])
        refine Man.take0 (i := 19) rfl (by kernel_rfl) (by kernel_rfl) (by kernel_rfl) (fun _ _ _ h => h) (by rfl) hHeld ?_
        (try simp only [Act.put, Mqa, Mqb, Mqc])
        refine Man.take0 (i := 20) rfl (by kernel_rfl) (by kernel_rfl) (by kernel_rfl) (fun _ _ _ h => h) (by rfl) hHeld ?_
        (try simp only [Act.put, Mqa, Mqb, Mqc])
        refine Man.take0 (i := 21) rfl (by kernel_rfl) (by kernel_rfl) (by kernel_rfl) (fun _ _ _ h => h) (by rfl) hHeld ?_
        (try simp only [Act.put, Mqa, Mqb, Mqc])
        refine Man.take0 (i := 22) rfl (by kernel_rfl) (by kernel_rfl) (by kernel_rfl) (fun _ _ _ h => h) (by rfl) hHeld ?_
        (try simp only [Act.put, Mqa, Mqb, Mqc])
        refine Man.take0 (i := 23) rfl (by kernel_rfl) (by kernel_rfl) (by kernel_rfl) (fun _ _ _ h => h) (by rfl) hHeld ?_
        (try simp only [Act.put, Mqa, Mqb, Mqc])
        refine Man.take0 (i := 24) rfl (by kernel_rfl) (by kernel_rfl) (by kernel_rfl) (fun _ _ _ h => h) (by rfl) hHeld ?_
        (try simp only [Act.put, Mqa, Mqb, Mqc])
        refine Man.take0 (i := 25) rfl (by kernel_rfl) (by kernel_rfl) (by kernel_rfl) (fun _ _ _ h => h) (by rfl) hHeld ?_
        (try simp only [Act.put, Mqa, Mqb, Mqc])
        refine Man.take0 (i := 26) rfl (by kernel_rfl) (by kernel_rfl) (by kernel_rfl) (fun _ _ _ h => h) (by rfl) hHeld ?_
        (try simp only [Act.put, Mqa, Mqb, Mqc])
        refine Man.take0 (i := 27) rfl (by kernel_rfl) (by kernel_rfl) (by kernel_rfl) (fun _ _ _ h => h) (by rfl) hHeld ?_
        (try simp only [Act.put, Mqa, Mqb, Mqc])
        refine Man.take0 (i := 28) rfl (by kernel_rfl) (by kernel_rfl) (by kernel_rfl) (fun _ _ _ h => h) (by rfl) hHeld ?_
        (try simp only [Act.put, Mqa, Mqb, Mqc])
        refine Man.take0 (i := 29) rfl (by kernel_rfl) (by kernel_rfl) (by kernel_rfl) (fun _ _ _ h => h) (by rfl) hHeld ?_
        (try simp only [Act.put, Mqa, Mqb, Mqc])
        refine Man.take0 (i := 30) rfl (by kernel_rfl) (by kernel_rfl) (by kernel_rfl) (fun _ _ _ h => h) (by rfl) hHeld ?_
        (try simp only [Act.put, Mqa, Mqb, Mqc])
        refine Man.take0 (i := 31) rfl (by kernel_rfl) (by kernel_rfl) (by kernel_rfl) (fun _ _ _ h => h) (by rfl) hHeld ?_
        (try simp only [Act.put, Mqa, Mqb, Mqc])
        refine Man.take0 (i := 32) rfl (by kernel_rfl) (by kernel_rfl) (by kernel_rfl) (fun _ _ _ h => h) (by rfl) hHeld ?_
        (try simp only [Act.put, Mqa, Mqb, Mqc])
        refine Man.take0 (i := 33) rfl (by kernel_rfl) (by kernel_rfl) (by kernel_rfl) (fun _ _ _ h => h) (by rfl) hHeld ?_
        (try simp only [Act.put, Mqa, Mqb, Mqc])
        refine Man.take0 (i := 34) rfl (by kernel_rfl) (by kernel_rfl) (by kernel_rfl) (fun _ _ _ h => h) (by rfl) hHeld ?_
        (try simp only [Act.put, Mqa, Mqb, Mqc])
        refine Man.t1 35 hHeld ?_
        (try simp only [Act.put, Mqa, Mqb, Mqc])
        refine wpAnyH_done (by kernel_rfl) ?_ _
        go_wp2_with fail
        go_ret
        exact ⟨Spn.ret_bool HC.out.symm, HB5.out⟩
    · obtain rfl : i = n := by omega
      have g1 : ¬ (i : Int) < (i : Int) := by omega
      have HC := hide (show decide (Ok Good (pcs l)) = true from decide_eq_true (ok_index.2 (fun j hj => by
        rw [pcs_len] at hj
        have h9 := HF.out j hj (by rw [HN.out]; exact hj)
        rw [pcs_at l j hj]
        refine ⟨h9.1, fun h0 => ?_⟩
        rw [pcs_at l (j - 1) (by omega)]
        exact h9.2 h0)))
      go_wp2_with fail
      go_ret
      exact ⟨Spn.ret_bool HC.out.symm, HB.out⟩
end Prd
end Go.Proofs.Ytoacombaddknfaa
