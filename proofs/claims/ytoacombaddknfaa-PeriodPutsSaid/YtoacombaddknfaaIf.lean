/- span.rising: the right ones of some intervals, in the order in which they begin. Condition: no more than 1000 of them. -/
import Derived.Test.YtoacombaddknfaaIe
namespace Go.Proofs.Ytoacombaddknfaa
open Go.RowKit
namespace Spn
def rights (l : List Sp) : List Sp := l.filter fun s => decide (Right s)
theorem rights_snoc (l : List Sp) (s : Sp) : rights (l ++ [s]) = if Right s then rights l ++ [s] else rights l := by
  unfold rights
  rw [List.filter_append]
  by_cases h : Right s <;> simp [h]
theorem rights_len (l : List Sp) : (rights l).length ≤ l.length := List.length_filter_le _ _
theorem rights_take {l : List Sp} {i : Nat} (hi : i < l.length) : rights (l.take (i + 1)) = if Right l[i] then rights (l.take i) ++ [l[i]] else rights (l.take i) := by
  rw [List.take_succ_eq_append_getElem hi, rights_snoc]
theorem tabs {p : Prop} (h : p) : Hid p := h
set_option maxHeartbeats 4000000 in
set_option maxRecDepth 100000 in
theorem rising_any {l : List Sp} {sl : Value} {w : World} (h : SpansAt l sl w) (hl : l.length ≤ 1000) :
    Calls Try.prog 69 #[sl] w fun e w' => ∃ (r : List Sp) (v : Value), e = .returned v ∧ r.Perm (rights l) ∧ r.Pairwise (fun a b => a.1 ≤ b.1) ∧ Row w.heap.size r v w' ∧ Below w.heap.size w w' := by
  obtain ⟨so, sc, rfl, hc1, hc2⟩ := h.form
  obtain ⟨n, hn⟩ : ∃ n, n = l.length := ⟨_, rfl⟩
  have HA := hide h
  have HN := hide hn
  have HL := hide hl
  rw [← hn] at hc1 hl ⊢
  clear h hn
  go_enter Try.func69, Try.ntmps69
  go_wp2_with fail
  go_loopw [3, 8] (fun rv ii wr => ∃ i : Nat, ii = .int .i64 i ∧ i ≤ n ∧ Hid (Row w.heap.size (rights (l.take i)) rv wr) ∧ Hid (Below w.heap.size w wr)) (fun _ ii _ => (n - (intOf ii).toNat))
  case atStart => exact ⟨0, rfl, by omega, hide (Row.nil _ _), hide (Below.refl _ _)⟩
  case round =>
    rename World => wr
    rename Value => rv
    obtain ⟨i, rfl, hi, HR, HB⟩ := hrel
    rcases Nat.lt_or_ge i n with hlt | hge
    · have g1 : (i : Int) < (n : Int) := by omega
      have hil : i < l.length := by rw [← HN.out]; exact hlt
      obtain ⟨b, off, cap, he, hbw, k0, k1⟩ := (HA.out.later HB.out (Nat.le_refl _)).at i hil
      rw [← HN.out] at he
      simp only [Value.slice.injEq] at he
      obtain ⟨rfl, _, rfl⟩ := he
      obtain ⟨x, hx⟩ : ∃ x, x = l[i] := ⟨_, rfl⟩
      rw [← hx] at k0 k1
      have HX := hide hx
      clear hx
      by_cases hr : Right (x.1, x.2)
      · have C1 := fun w => right_yes hr w
        have HRT := hide hr
        clear hr
        go_wp2_with fail
        refine (C1 _).mono ?_
        rintro e w2 ⟨rfl, hb⟩
        obtain ⟨⟨a0, a1, _, _, _⟩, hb2⟩ := box1 hb
        clear hb
        have HR2 := hide (HR.out.later hb2 (Nat.le_refl _))
        have HB2 := hide (HB.out.trans (hb2.mono HB.out.size))
        have HL2 := hide (show (rights (l.take i)).length ≤ 1000 from by
          have h1 := rights_len (l.take i)
          have h2 : (l.take i).length ≤ l.length := by rw [List.length_take]; omega
          have h3 := HL.out
          omega)
        clear hb2 k0 k1
        go_wp2_with (at_builtin; refine wpList_row rfl _ _ rfl rfl rfl (HR2.out.later (below_alloc _ _) (Nat.le_refl _)) (one_at w2 x) ?c1 ?c2 (fun u w3 hu hg hob => ?_))
        case c1 => have := HL2.out; simp; omega
        case c2 => have := HB2.out.size; simp; omega
        have HR3 := hide (show Row w.heap.size (rights (l.take (i + 1))) u w3 from by
          rw [rights_take hil, ← HX.out, if_pos HRT.out]; exact hu)
        have HB3 := hide (show Below w.heap.size w w3 from (HB2.out.trans ((below_alloc w2 _).mono HB2.out.size)).grown hg (by have := HB2.out.size; simp; omega) (fun k hk => (HR2.out.lt k hk).1))
        clear hu hg hob
        go_wp2_with fail
        go_roundw
        case rel => exact ⟨i + 1, by go_num, by omega, HR3, HB3⟩
        case measure => simp [intOf]; omega
      · have C1 := fun w => right_no hr w
        have HRT := hide hr
        clear hr
        go_wp2_with fail
        refine (C1 _).mono ?_
        rintro e w2 ⟨rfl, hb⟩
        obtain ⟨_, hb2⟩ := box1 hb
        clear hb
        have HR3 := hide (show Row w.heap.size (rights (l.take (i + 1))) u3 w2 from by
          rw [rights_take hil, ← HX.out, if_neg HRT.out]; exact HR.out.later hb2 (Nat.le_refl _))
        have HB3 := hide (HB.out.trans (hb2.mono HB.out.size))
        clear hb2 k0 k1
        go_wp2_with fail
        go_roundw
        case rel => exact ⟨i + 1, by go_num, by omega, HR3, HB3⟩
        case measure => simp [intOf]; omega
    · obtain rfl : i = n := by omega
      have g1 : ¬ (i : Int) < (i : Int) := by omega
      have HR3 := hide (show Row w.heap.size (rights l) u3 wr from by
        have := HR.out
        rwa [HN.out, List.take_length] at this)
      have C1 := hide (sort_any HR3.out (by have := rights_len l; have := HL.out; omega))
      go_wp2_with fail
      refine C1.out.mono ?_
      rintro e w2 ⟨rfl, r, hp, hs, hrow, hb⟩
      have HF := hide (show r.Perm (rights l) ∧ r.Pairwise (fun a b => a.1 ≤ b.1) ∧ Row w.heap.size r u3 w2 ∧ Below w.heap.size w w2 from ⟨hp, hs, hrow, HB.out.trans hb⟩)
      clear hp hs hrow hb
      go_wp2_with fail
      go_ret
      exact ⟨r, u3, rfl, HF.out⟩
end Spn
end Go.Proofs.Ytoacombaddknfaa
