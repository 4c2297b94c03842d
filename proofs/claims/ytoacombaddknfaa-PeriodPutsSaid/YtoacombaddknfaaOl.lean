/- The document's Diff. Condition: no more than a million values a row, a thousand pieces. -/
import Derived.Test.YtoacombaddknfaaOk
namespace Go.Proofs.Ytoacombaddknfaa
open Go.RowKit
namespace Prd
open Spn (Sp hide At below_alloc Right rcut Has)
open Cod (V RowAt S)
noncomputable def goesR (a b : List (Sp × List V)) : List (Sp × List V) := if Ok Good a ∧ Ok Good b then goes a b else []
theorem goes_take {l : List Pm} {i : Nat} (hi : i < l.length) (b : List (Sp × List V)) : goes (pcs (l.take (i + 1))) b = goes (pcs (l.take i)) b ++ if (l[i]).pc ∈ b then [] else [(l[i]).pc] := by
  rw [List.take_succ_eq_append_getElem hi, pcs_app]
  unfold goes
  rw [List.filter_append]
  congr 1
  by_cases h : (l[i]).pc ∈ b <;> simp [pcs, h]
set_option maxHeartbeats 8000000 in
set_option maxRecDepth 100000 in
theorem rdiff_any {l l' : List Pm} {sl sl' : Value} {w : World} (h : PcsAt l sl w) (hr : Rows3 l w) (hs : Small l) (h' : PcsAt l' sl' w) (hr' : Rows3 l' w) (hs' : Small l') :
    Calls Try.prog 26 #[sl, sl'] w fun e w' => ∃ (m m' : List Pm) (u u' : Value), e = .returned (.tuple #[u, u']) ∧ PcsAt m u w' ∧ PcsAt m' u' w' ∧ From l m ∧ From l' m' ∧ pcs m = goesR (pcs l) (pcs l') ∧ pcs m' = goesR (pcs l') (pcs l) ∧ Below w.heap.size w w' := by
  have CR := hide (show ∀ u : World, Below w.heap.size w u → Calls Try.prog 16 #[sl] u fun e w' => e = .returned (.bool (decide (Ok Good (pcs l)))) ∧ Below u.heap.size u w' from fun u hu => rokay_any (h.later hu (Nat.le_refl _)) (hr.later hu) hs)
  have CR' := hide (show ∀ u : World, Below w.heap.size w u → Calls Try.prog 16 #[sl'] u fun e w' => e = .returned (.bool (decide (Ok Good (pcs l')))) ∧ Below u.heap.size u w' from fun u hu => rokay_any (h'.later hu (Nat.le_refl _)) (hr'.later hu) hs')
  have CA := hide (show ∀ (u : World) (y : Pm), Below w.heap.size w u → y ∈ l → Calls Try.prog 48 #[sl', .agg #[.int .i64 y.s.1, .int .i64 y.s.2, .slice y.ro y.r.length y.rc]] u fun e w' => e = .returned (.bool (decide (y.pc ∈ pcs l'))) ∧ Below u.heap.size u w' from fun u y hu hy =>
    among_any (h'.later hu (Nat.le_refl _)) (hr'.later hu) hs' y ((hr y hy).later hu) (hs.r y hy))
  have CA' := hide (show ∀ (u : World) (y : Pm), Below w.heap.size w u → y ∈ l' → Calls Try.prog 48 #[sl, .agg #[.int .i64 y.s.1, .int .i64 y.s.2, .slice y.ro y.r.length y.rc]] u fun e w' => e = .returned (.bool (decide (y.pc ∈ pcs l))) ∧ Below u.heap.size u w' from fun u y hu hy =>
    among_any (h.later hu (Nat.le_refl _)) (hr.later hu) hs y ((hr' y hy).later hu) (hs'.r y hy))
  obtain ⟨so, sc, rfl, _, _⟩ := h.form
  obtain ⟨so', sc', rfl, _, _⟩ := h'.form
  have HA := hide h
  have HA' := hide h'
  obtain ⟨n, hn⟩ : ∃ n, n = l.length := ⟨_, rfl⟩
  obtain ⟨n', hn'⟩ : ∃ n', n' = l'.length := ⟨_, rfl⟩
  have hl : n ≤ 1000 := by rw [hn]; exact hs.n
  have hl' : n' ≤ 1000 := by rw [hn']; exact hs'.n
  rw [← hn] at CR CA' ⊢
  rw [← hn'] at CR' CA ⊢
  have HN := hide hn
  have HN' := hide hn'
  clear h hn hr hs h' hn' hr' hs'
  by_cases hok : Ok Good (pcs l)
  · rw [decide_eq_true hok] at CR
    by_cases hok' : Ok Good (pcs l')
    · have HD := hide (show goesR (pcs l) (pcs l') = goes (pcs l) (pcs l') from if_pos ⟨hok, hok'⟩)
      have HD' := hide (show goesR (pcs l') (pcs l) = goes (pcs l') (pcs l) from if_pos ⟨hok', hok⟩)
      rw [decide_eq_true hok'] at CR'
      clear hok hok'
      have C1 := hide (CR.out w (Below.refl _ _))
      go_enter Try.func26, Try.ntmps26
      go_wp2_with fail
      refine C1.out.mono ?_
      rintro e w1 ⟨rfl, hb⟩
      have HB1 := hide hb
      have C2 := hide (CR'.out w1 hb)
      clear hb C1 CR CR'
      go_wp2_with fail
      refine C2.out.mono ?_
      rintro e w2 ⟨rfl, hb⟩
      have HB2 := hide (HB1.out.trans (hb.mono HB1.out.size))
      clear hb HB1 C2
      go_wp2_with fail
      go_loopw [6, 8] (fun ov ii wr => ∃ (i : Nat) (m : List Pm), ii = .int .i64 i ∧ i ≤ n ∧ Hid (Row3 54 w.heap.size m ov wr) ∧ Hid (Below w.heap.size w wr) ∧ Hid (From l m) ∧ Hid (pcs m = goes (pcs (l.take i)) (pcs l'))) (fun _ ii _ => (n - (intOf ii).toNat))
      case atStart => exact ⟨0, [], rfl, by omega, hide (Row3.nil _ _ _), HB2, hide (From.nil l), hide rfl⟩
      case round =>
        rename World => wr
        obtain ⟨i, m, rfl, hi, HO, HB, HF, HP⟩ := hrel
        clear HB2
        rcases Nat.lt_or_ge i n with hlt | hge
        · have g1 : (i : Int) < (n : Int) := by omega
          have hil : i < l.length := by rw [← HN.out]; exact hlt
          obtain ⟨b0, off, cap, he, -, -⟩ := (HA.out.later HB.out (Nat.le_refl _)).at i hil
          rw [← HN.out] at he
          simp only [Value.slice.injEq] at he
          obtain ⟨rfl, _, rfl⟩ := he
          obtain ⟨x, hx⟩ : ∃ x, x = l[i] := ⟨_, rfl⟩
          have HXM := hide (show x ∈ l from by rw [hx]; exact List.getElem_mem _)
          have HTK := hide (show goes (pcs (l.take (i + 1))) (pcs l') = pcs m ++ if x.pc ∈ pcs l' then [] else [x.pc] from by rw [goes_take hil, HP.out, hx])
          have HML := hide (show m.length ≤ 1000 from by
            have h1 := congrArg List.length HP.out
            rw [pcs_len] at h1
            have h2 := goes_le (pcs (l.take i)) (pcs l')
            rw [pcs_len, List.length_take] at h2
            omega)
          have CP := hide (show ∀ u : World, Below w.heap.size w u → u.cell? ⟨b0, off + i * 3, none⟩ = some (.int .i64 x.s.1) ∧ u.cell? ⟨b0, off + i * 3 + 1, none⟩ = some (.int .i64 x.s.2) ∧ u.cell? ⟨b0, off + i * 3 + 2, none⟩ = some (.slice x.ro x.r.length x.rc) from fun u hu => by
            have h1 := ((HA.out.later hu (Nat.le_refl _)).got i hil).2
            rw [← hx] at h1
            exact h1)
          have C3 := CA.out wr x HB.out HXM.out
          obtain ⟨k0, k1, k2⟩ := CP.out wr HB.out
          clear hx
          by_cases hin : x.pc ∈ pcs l'
          · rw [decide_eq_true hin] at C3
            have C3 := hide C3
            have HP2 := hide (show pcs m = goes (pcs (l.take (i + 1))) (pcs l') from by rw [HTK.out, if_pos hin, List.append_nil])
            clear hin
            go_wp2_with fail
            refine C3.out.mono ?_
            rintro e w4 ⟨rfl, hb⟩
            have HO4 := hide (HO.out.later hb (Nat.le_refl _))
            have HB4 := hide (HB.out.trans (hb.mono HB.out.size))
            clear hb C3 k0 k1 k2
            go_wp2_with fail
            go_roundw
            case rel => exact ⟨i + 1, _, by go_num, by omega, HO4, HB4, HF, HP2⟩
            case measure => simp [intOf]; omega
          · rw [decide_eq_false hin] at C3
            have C3 := hide C3
            have HP2 := hide (show pcs (m ++ [x]) = goes (pcs (l.take (i + 1))) (pcs l') from by rw [HTK.out, if_neg hin, pcs_app]; rfl)
            clear hin
            go_wp2_with fail
            refine C3.out.mono ?_
            rintro e w4 ⟨rfl, hb⟩
            have HO4 := hide (HO.out.later hb (Nat.le_refl _))
            have HB4 := hide (HB.out.trans (hb.mono HB.out.size))
            obtain ⟨j0, j1, j2⟩ := CP.out w4 (HB.out.trans (hb.mono HB.out.size))
            clear hb C3 k0 k1 k2
            have HB5 := hide (HB4.out.trans ((below_alloc w4 (.cells #[.int .i64 x.s.1, .int .i64 x.s.2, .slice x.ro x.r.length x.rc] 54)).mono HB4.out.size))
            have HO5 := hide (HO4.out.later (below_alloc w4 (.cells #[.int .i64 x.s.1, .int .i64 x.s.2, .slice x.ro x.r.length x.rc] 54)) (Nat.le_refl _))
            have HF2 := hide (show From l (m ++ [x]) from HF.out.app (fun y hy => ⟨x, HXM.out, by rw [List.mem_singleton.1 hy], by rw [List.mem_singleton.1 hy], by rw [List.mem_singleton.1 hy]⟩))
            go_wp2_with (at_builtin; refine wpList_row3 tyR rfl _ _ rfl rfl rfl HO5.out (one3_at w4 x _ rfl) (by have := HML.out; simp; omega) HB5.out.size ?_)
            intro u9 w9 hu hg hob
            have HO9 := hide hu
            have HB9 := hide (HB5.out.grown hg HB5.out.size (fun k hk => (HO5.out.lt k hk).1))
            clear hu hg hob HB5 HO5
            go_wp2_with fail
            go_roundw
            case rel => exact ⟨i + 1, _, by go_num, by omega, HO9, HB9, HF2, HP2⟩
            case measure => simp [intOf]; omega
        · obtain rfl : i = n := by omega
          have g1 : ¬ (i : Int) < (i : Int) := by omega
          have HPA := hide (show pcs m = goesR (pcs l) (pcs l') from by rw [HP.out, HD.out, HN.out, List.take_length])
          clear HP HD
          go_wp2_with fail
          obtain ⟨z, hz⟩ : ∃ z, z = wr.heap.size := ⟨_, rfl⟩
          have HZ := hide hz
          have HGP := hide (show ∀ u, Below wr.heap.size wr u → PcsAt m u6 u from fun u hu => HO.out.pieces.later hu (Nat.le_refl _))
          clear hz
          go_loopw [7, 9] (fun ov ii wk => ∃ (k : Nat) (m' : List Pm), ii = .int .i64 k ∧ k ≤ n' ∧ Hid (Row3 54 wr.heap.size m' ov wk) ∧ Hid (Below wr.heap.size wr wk) ∧ Hid (From l' m') ∧ Hid (pcs m' = goes (pcs (l'.take k)) (pcs l))) (fun _ ii _ => (n' - (intOf ii).toNat))
          case atStart => exact ⟨0, [], rfl, by omega, hide (Row3.nil _ _ _), hide (Below.refl _ _), hide (From.nil l'), hide rfl⟩
          case round =>
            rename World => wk
            obtain ⟨k, m', rfl, hk, HOk, HBk, HFk, HPk⟩ := hrel
            have HBw := hide (HB.out.trans (HBk.out.mono HB.out.size))
            rcases Nat.lt_or_ge k n' with hlt | hge
            · have g1 : (k : Int) < (n' : Int) := by omega
              have hil : k < l'.length := by rw [← HN'.out]; exact hlt
              obtain ⟨b0, off, cap, he, -, -⟩ := (HA'.out.later HBw.out (Nat.le_refl _)).at k hil
              rw [← HN'.out] at he
              simp only [Value.slice.injEq] at he
              obtain ⟨rfl, _, rfl⟩ := he
              obtain ⟨x, hx⟩ : ∃ x, x = l'[k] := ⟨_, rfl⟩
              have HXM := hide (show x ∈ l' from by rw [hx]; exact List.getElem_mem _)
              have HTK := hide (show goes (pcs (l'.take (k + 1))) (pcs l) = pcs m' ++ if x.pc ∈ pcs l then [] else [x.pc] from by rw [goes_take hil, HPk.out, hx])
              have HML := hide (show m'.length ≤ 1000 from by
                have h1 := congrArg List.length HPk.out
                rw [pcs_len] at h1
                have h2 := goes_le (pcs (l'.take k)) (pcs l)
                rw [pcs_len, List.length_take] at h2
                omega)
              have CP := hide (show ∀ u : World, Below w.heap.size w u → u.cell? ⟨b0, off + k * 3, none⟩ = some (.int .i64 x.s.1) ∧ u.cell? ⟨b0, off + k * 3 + 1, none⟩ = some (.int .i64 x.s.2) ∧ u.cell? ⟨b0, off + k * 3 + 2, none⟩ = some (.slice x.ro x.r.length x.rc) from fun u hu => by
                have h1 := ((HA'.out.later hu (Nat.le_refl _)).got k hil).2
                rw [← hx] at h1
                exact h1)
              have C3 := CA'.out wk x HBw.out HXM.out
              obtain ⟨k0, k1, k2⟩ := CP.out wk HBw.out
              clear hx
              by_cases hin : x.pc ∈ pcs l
              · rw [decide_eq_true hin] at C3
                have C3 := hide C3
                have HP2 := hide (show pcs m' = goes (pcs (l'.take (k + 1))) (pcs l) from by rw [HTK.out, if_pos hin, List.append_nil])
                clear hin
                go_wp2_with fail
                refine C3.out.mono ?_
                rintro e w4 ⟨rfl, hb⟩
                have HO4 := hide (HOk.out.later hb (Nat.le_refl _))
                have HB4 := hide (HBk.out.trans (hb.mono HBk.out.size))
                clear hb C3 k0 k1 k2
                go_wp2_with fail
                go_roundw
                case rel => exact ⟨k + 1, _, by go_num, by omega, HO4, HB4, HFk, HP2⟩
                case measure => simp [intOf]; omega
              · rw [decide_eq_false hin] at C3
                have C3 := hide C3
                have HP2 := hide (show pcs (m' ++ [x]) = goes (pcs (l'.take (k + 1))) (pcs l) from by rw [HTK.out, if_neg hin, pcs_app]; rfl)
                clear hin
                go_wp2_with fail
                refine C3.out.mono ?_
                rintro e w4 ⟨rfl, hb⟩
                have HO4 := hide (HOk.out.later hb (Nat.le_refl _))
                have HB4 := hide (HBk.out.trans (hb.mono HBk.out.size))
                obtain ⟨j0, j1, j2⟩ := CP.out w4 (HBw.out.trans (hb.mono HBw.out.size))
                clear hb C3 k0 k1 k2
                have HB5 := hide (HB4.out.trans ((below_alloc w4 (.cells #[.int .i64 x.s.1, .int .i64 x.s.2, .slice x.ro x.r.length x.rc] 54)).mono HB4.out.size))
                have HO5 := hide (HO4.out.later (below_alloc w4 (.cells #[.int .i64 x.s.1, .int .i64 x.s.2, .slice x.ro x.r.length x.rc] 54)) (Nat.le_refl _))
                have HF2 := hide (show From l' (m' ++ [x]) from HFk.out.app (fun y hy => ⟨x, HXM.out, by rw [List.mem_singleton.1 hy], by rw [List.mem_singleton.1 hy], by rw [List.mem_singleton.1 hy]⟩))
                go_wp2_with (at_builtin; refine wpList_row3 tyR rfl _ _ rfl rfl rfl HO5.out (one3_at w4 x _ rfl) (by have := HML.out; simp; omega) HB5.out.size ?_)
                intro u9 w9 hu hg hob
                have HO9 := hide hu
                have HB9 := hide (HB5.out.grown hg HB5.out.size (fun k hk => (HO5.out.lt k hk).1))
                clear hu hg hob HB5 HO5
                go_wp2_with fail
                go_roundw
                case rel => exact ⟨k + 1, _, by go_num, by omega, HO9, HB9, HF2, HP2⟩
                case measure => simp [intOf]; omega
            · obtain rfl : k = n' := by omega
              have g1 : ¬ (k : Int) < (k : Int) := by omega
              have HPB := hide (show pcs m' = goesR (pcs l') (pcs l) from by rw [HPk.out, HD'.out, HN'.out, List.take_length])
              go_wp2_with fail
              go_ret2
              exact ⟨m, m', _, _, rfl, HGP.out _ HBk.out, HOk.out.pieces, HF.out, HFk.out, HPA.out, HPB.out, HBw.out⟩
    · have HD := hide (show goesR (pcs l) (pcs l') = [] from if_neg fun h9 => hok' h9.2)
      have HD' := hide (show goesR (pcs l') (pcs l) = [] from if_neg fun h9 => hok' h9.1)
      rw [decide_eq_false hok'] at CR'
      clear hok hok'
      have C1 := hide (CR.out w (Below.refl _ _))
      go_enter Try.func26, Try.ntmps26
      go_wp2_with fail
      refine C1.out.mono ?_
      rintro e w1 ⟨rfl, hb⟩
      have HB1 := hide hb
      have C2 := hide (CR'.out w1 hb)
      clear hb C1 CR CR'
      go_wp2_with fail
      refine C2.out.mono ?_
      rintro e w2 ⟨rfl, hb⟩
      have HB2 := hide (HB1.out.trans (hb.mono HB1.out.size))
      clear hb HB1 C2
      go_wp2_with fail
      go_ret2
      exact ⟨[], [], _, _, rfl, (Row3.nil 54 0 _).pieces, (Row3.nil 54 0 _).pieces, From.nil l, From.nil l', HD.out.symm, HD'.out.symm, HB2.out⟩
  · have HD := hide (show goesR (pcs l) (pcs l') = [] from if_neg fun h9 => hok h9.1)
    have HD' := hide (show goesR (pcs l') (pcs l) = [] from if_neg fun h9 => hok h9.2)
    rw [decide_eq_false hok] at CR
    clear hok
    have C1 := hide (CR.out w (Below.refl _ _))
    go_enter Try.func26, Try.ntmps26
    go_wp2_with fail
    refine C1.out.mono ?_
    rintro e w1 ⟨rfl, hb⟩
    have HB1 := hide hb
    clear hb C1 CR CR'
    go_wp2_with fail
    go_ret2
    exact ⟨[], [], _, _, rfl, (Row3.nil 54 0 _).pieces, (Row3.nil 54 0 _).pieces, From.nil l, From.nil l', HD.out.symm, HD'.out.symm, HB1.out⟩
end Prd
end Go.Proofs.Ytoacombaddknfaa
