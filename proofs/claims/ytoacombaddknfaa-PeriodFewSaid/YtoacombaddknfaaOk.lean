/- The document's At. Condition: no more than a million values a row, a thousand pieces. -/
import Derived.Test.YtoacombaddknfaaOj
namespace Go.Proofs.Ytoacombaddknfaa
open Go.RowKit
namespace Prd
open Spn (Sp hide At below_alloc Right rcut Has)
open Cod (V RowAt S)
noncomputable def atR (l : List (Sp × List V)) (t : Int) : Option (List V) := if Ok Good l then atP l t else none
set_option maxHeartbeats 8000000 in
set_option maxRecDepth 100000 in
theorem rat_any {l : List Pm} {sl : Value} {w : World} (h : PcsAt l sl w) (hr : Rows3 l w) (hs : Small l) (t : Int) :
    Calls Try.prog 14 #[sl, .int .i64 t] w fun e w' => ((∃ x, x ∈ l ∧ atR (pcs l) t = some x.r ∧ e = .returned (.tuple #[.slice x.ro x.r.length x.rc, .bool true])) ∨ (atR (pcs l) t = none ∧ e = .returned (.tuple #[.slice none 0 0, .bool false]))) ∧ Below w.heap.size w w' := by
  have CR := hide (show ∀ u : World, Below w.heap.size w u → Calls Try.prog 16 #[sl] u fun e w' => e = .returned (.bool (decide (Ok Good (pcs l)))) ∧ Below u.heap.size u w' from fun u hu => rokay_any (h.later hu (Nat.le_refl _)) (hr.later hu) hs)
  obtain ⟨so, sc, rfl, _, _⟩ := h.form
  have HA := hide h
  obtain ⟨n, hn⟩ : ∃ n, n = l.length := ⟨_, rfl⟩
  have hl : n ≤ 1000 := by rw [hn]; exact hs.n
  rw [← hn] at CR ⊢
  have HN := hide hn
  clear h hn hr hs
  by_cases hok : Ok Good (pcs l)
  · have HOK := hide hok
    have HYES := hide (show ∀ i (hi : i < l.length), Has (l[i]).s t → atR (pcs l) t = some (l[i]).r from fun i hi h9 => by
      unfold atR
      rw [if_pos hok]
      exact (atP_some hok).2 ⟨(l[i]).pc, by rw [← pcs_at l i hi]; exact List.getElem_mem _, h9, rfl⟩)
    have HNO := hide (show (∀ (j : Nat) (hj : j < l.length), ¬ Has (l[j]).s t) → atR (pcs l) t = none from fun h9 => by
      unfold atR
      rw [if_pos hok]
      refine atP_none.2 fun p hp => ?_
      obtain ⟨j, hj, rfl⟩ := List.getElem_of_mem hp
      rw [pcs_len] at hj
      rw [pcs_at l j hj]
      exact h9 j hj)
    rw [decide_eq_true hok] at CR
    clear hok HOK
    go_enter Try.func14, Try.ntmps14
    go_wp2_with fail
    go_loopw [6] (fun ii wr => ∃ i : Nat, ii = .int .i64 i ∧ i ≤ n ∧ Hid (Below w.heap.size w wr) ∧ Hid (∀ (j : Nat) (hj : j < l.length), j < i → ¬ Has (l[j]).s t)) (fun ii _ => (n - (intOf ii).toNat))
    case atStart => exact ⟨0, rfl, by omega, hide (Below.refl _ _), hide (fun j hj h0 => by omega)⟩
    case round =>
      rename World => wr
      obtain ⟨i, rfl, hi, HB, HF⟩ := hrel
      rcases Nat.lt_or_ge i n with hlt | hge
      · have g1 : (i : Int) < (n : Int) := by omega
        have hil : i < l.length := by rw [← HN.out]; exact hlt
        have C1 := hide (CR.out wr HB.out)
        go_wp2_with fail
        refine C1.out.mono ?_
        rintro e w1 ⟨rfl, hb⟩
        have HB1 := hide (HB.out.trans (hb.mono HB.out.size))
        obtain ⟨b0, off, cap, he, -, -⟩ := (HA.out.later HB1.out (Nat.le_refl _)).at i hil
        rw [← HN.out] at he
        simp only [Value.slice.injEq] at he
        obtain ⟨rfl, _, rfl⟩ := he
        obtain ⟨x, hx⟩ : ∃ x, x = l[i] := ⟨_, rfl⟩
        have HX := hide hx
        have HXM := hide (show x ∈ l from by rw [hx]; exact List.getElem_mem _)
        have CP := hide (show ∀ u : World, Below w.heap.size w u → u.cell? ⟨b0, off + i * 3, none⟩ = some (.int .i64 x.s.1) ∧ u.cell? ⟨b0, off + i * 3 + 1, none⟩ = some (.int .i64 x.s.2) ∧ u.cell? ⟨b0, off + i * 3 + 2, none⟩ = some (.slice x.ro x.r.length x.rc) from fun u hu => by
          have h1 := ((HA.out.later hu (Nat.le_refl _)).got i hil).2
          rw [← hx] at h1
          exact h1)
        obtain ⟨k0, k1, k2⟩ := CP.out w1 HB1.out
        have C2 := Spn.rhas_any x.s.1 x.s.2 t w1
        clear hb HB C1
        by_cases hh : Has (x.s.1, x.s.2) t
        · rw [decide_eq_true hh] at C2
          have C2 := hide C2
          have HV := hide (show atR (pcs l) t = some x.r from by rw [HX.out]; exact HYES.out i hil (by rw [← HX.out]; exact hh))
          clear hx hh
          go_wp2_with fail
          refine C2.out.mono ?_
          rintro e w2 ⟨rfl, hb⟩
          have HB2 := hide (HB1.out.trans (hb.mono HB1.out.size))
          obtain ⟨j0, j1, j2⟩ := CP.out w2 HB2.out
          clear hb HB1 C2 k0 k1 k2
          go_wp2_with fail
          go_ret2
          exact ⟨.inl ⟨x, HXM.out, HV.out, rfl⟩, HB2.out⟩
        · rw [decide_eq_false hh] at C2
          have C2 := hide C2
          have HF2 := hide (show ∀ (j : Nat) (hj : j < l.length), j < i + 1 → ¬ Has (l[j]).s t from fun j hj hji => by
            rcases Nat.lt_or_ge j i with h9 | h9
            · exact HF.out j hj h9
            · obtain rfl : j = i := by omega
              rw [← HX.out]; exact hh)
          clear hx hh
          go_wp2_with fail
          refine C2.out.mono ?_
          rintro e w2 ⟨rfl, hb⟩
          have HB2 := hide (HB1.out.trans (hb.mono HB1.out.size))
          clear hb HB1 C2 k0 k1 k2
          go_wp2_with fail
          go_roundw
          case rel => exact ⟨i + 1, by go_num, by omega, HB2, HF2⟩
          case measure => simp [intOf]; omega
      · obtain rfl : i = n := by omega
        have g1 : ¬ (i : Int) < (i : Int) := by omega
        have HV := hide (HNO.out (fun j hj => HF.out j hj (by rw [HN.out]; exact hj)))
        go_wp2_with fail
        go_ret2
        exact ⟨.inr ⟨HV.out, rfl⟩, HB.out⟩
  · have HV := hide (show atR (pcs l) t = none from if_neg hok)
    rw [decide_eq_false hok] at CR
    clear hok
    have C1 := hide (fun (u : World) (hu : u = w) => CR.out w (Below.refl _ _))
    go_enter Try.func14, Try.ntmps14
    go_wp2_with fail
    go_loopw [6] (fun ii wr => ii = .int .i64 0 ∧ Hid (Below w.heap.size w wr)) (fun ii _ => 0)
    case atStart => exact ⟨rfl, hide (Below.refl _ _)⟩
    case round =>
      rename World => wr
      obtain ⟨rfl, HB⟩ := hrel
      rcases Nat.eq_zero_or_pos n with h0 | hp
      · subst h0
        go_wp2_with fail
        go_ret2
        exact ⟨.inr ⟨HV.out, rfl⟩, HB.out⟩
      · have g1 : (0 : Int) < (n : Int) := by omega
        have C1 := hide (CR.out wr HB.out)
        go_wp2_with fail
        refine C1.out.mono ?_
        rintro e w1 ⟨rfl, hb⟩
        have HB1 := hide (HB.out.trans (hb.mono HB.out.size))
        clear hb HB C1
        go_wp2_with fail
        go_ret2
        exact ⟨.inr ⟨HV.out, rfl⟩, HB1.out⟩
end Prd
end Go.Proofs.Ytoacombaddknfaa
