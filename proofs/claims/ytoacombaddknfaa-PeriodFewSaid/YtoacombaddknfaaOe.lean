/- The document's row and Right of pieces. Condition: no more than a million values a row, a thousand pieces. -/
import Derived.Test.YtoacombaddknfaaOe2
import Derived.Test.YtoacombaddknfaaRefs
import Derived.Test.YtoacombaddknfaaIn
import Derived.Test.YtoacombaddknfaaMan
namespace Go.Proofs.Ytoacombaddknfaa
open Go.RowKit
namespace Prd
open Spn (Sp hide At below_alloc)
open Cod (V RowAt S)
set_option maxHeartbeats 4000000 in
set_option maxRecDepth 100000 in
theorem rrow_any {vs : List V} {sl : Value} {w : World} (h : RowAt vs sl w) (hin : ∀ v ∈ vs, v.inn) (hl : vs.length ≤ 1000000) :
    Calls Try.prog 37 #[sl] w fun e w' => e = .returned (.bool (rowB vs)) ∧ Below w.heap.size w w' := by
  have HA := hide h
  obtain ⟨so, sc, rfl, _⟩ := h
  obtain ⟨n, hn⟩ : ∃ n, n = vs.length := ⟨_, rfl⟩
  rw [← hn] at hl ⊢
  have HN := hide hn
  have HI := hide hin
  clear hn hin
  go_enter Try.func37, Try.ntmps37
  go_wp2_with fail
  go_loopw [3] (fun ii wr => ∃ i : Nat, ii = .int .i64 i ∧ i ≤ n ∧ Hid (Below w.heap.size w wr) ∧ Hid (∀ (j : Nat) (hj : j < vs.length), j < i → (vs[j]).right = true)) (fun ii _ => (n - (intOf ii).toNat))
  case atStart => exact ⟨0, rfl, by omega, hide (Below.refl _ _), hide (fun j hj h0 => by omega)⟩
  case round =>
    rename World => wr
    obtain ⟨i, rfl, hi, HB, HF⟩ := hrel
    rcases Nat.lt_or_ge i n with hlt | hge
    · have g1 : (i : Int) < (n : Int) := by omega
      have hil : i < vs.length := by rw [← HN.out]; exact hlt
      obtain ⟨b0, off, cap, he, hbw, k0, k1, k2, k3⟩ := (HA.out.later HB.out).at i hil
      rw [← HN.out] at he
      simp only [Value.slice.injEq] at he
      obtain ⟨rfl, _, rfl⟩ := he
      obtain ⟨x, hx⟩ : ∃ x, x = vs[i] := ⟨_, rfl⟩
      have hb9 : x.b < 18446744073709551616 := by rw [hx]; exact (HI.out _ (List.getElem_mem hil)).b
      rw [← hx] at k0 k1 k2 k3
      have HX := hide hx
      clear hx
      have C0 := fun w => Ref.right_any x.k x.n x.b (S x.s) hb9 w
      have e0 : Val.rightB x.k x.n x.b (S x.s) = x.right := rfl
      rw [e0] at C0
      clear hb9 e0
      cases hr : x.right with
      | true =>
        rw [hr] at C0
        have HF2 := hide (show ∀ (j : Nat) (hj : j < vs.length), j < i + 1 → (vs[j]).right = true from fun j hj hji => by
          rcases Nat.lt_or_ge j i with h9 | h9
          · exact HF.out j hj h9
          · obtain rfl : j = i := by omega
            rw [← HX.out]; exact hr)
        have C1 := hide C0
        clear C0 hr
        go_wp2_with fail
        refine (C1.out _).mono ?_
        rintro e w2 ⟨rfl, hb⟩
        have HB2 := hide (HB.out.trans (hb.mono HB.out.size))
        clear hb k0 k1 k2 k3
        go_wp2_with fail
        go_roundw
        case rel => exact ⟨i + 1, by go_num, by omega, HB2, HF2⟩
        case measure => simp [intOf]; omega
      | false =>
        rw [hr] at C0
        have HC := hide (rowB_no i hil (by rw [← HX.out]; exact hr))
        have C1 := hide C0
        clear C0 hr
        go_wp2_with fail
        refine (C1.out _).mono ?_
        rintro e w2 ⟨rfl, hb⟩
        have HB2 := hide (HB.out.trans (hb.mono HB.out.size))
        clear hb k0 k1 k2 k3
        go_wp2_with fail
        go_ret
        exact ⟨Spn.ret_bool HC.out.symm, HB2.out⟩
    · obtain rfl : i = n := by omega
      have g1 : ¬ (i : Int) < (i : Int) := by omega
      have HC := hide (rowB_yes (fun j hj => HF.out j hj (by rw [HN.out]; exact hj)))
      go_wp2_with fail
      go_ret
      exact ⟨Spn.ret_bool HC.out.symm, HB.out⟩
end Prd
end Go.Proofs.Ytoacombaddknfaa
