/- The document's Put. Condition: no more than a million values a row, a thousand pieces. -/
import Derived.Test.YtoacombaddknfaaOi
namespace Go.Proofs.Ytoacombaddknfaa
open Go.RowKit
namespace Prd
open Spn (Sp hide At below_alloc Right rcut)
open Cod (V RowAt S)
noncomputable def putP (l : List (Sp × List V)) (s : Sp) (r : List V) : List (Sp × List V) := if Ok Good l ∧ Right s ∧ Good r then lay (away l s) (s, r) else l
theorem lay_split {d : List (Sp × List V)} {x : Sp × List V} : ∀ (i : Nat), i ≤ d.length → (∀ (j : Nat) (hj : j < d.length), j < i → (d[j]).1.1 < x.1.1) → (∀ (hi : i < d.length), ¬ (d[i]).1.1 < x.1.1) → lay d x = d.take i ++ x :: d.drop i := by
  induction d with
  | nil => intro i hi _ _; have : i = 0 := by simpa using hi
           subst this; rfl
  | cons p d ih =>
    intro i hi h1 h2
    unfold lay
    cases i with
    | zero =>
      have := h2 (by simp)
      rw [List.takeWhile_cons_of_neg (by simpa using this), List.dropWhile_cons_of_neg (by simpa using this)]
      rfl
    | succ i =>
      have h0 := h1 0 (by simp) (by omega)
      have := ih i (by simpa using hi) (fun j hj hji => h1 (j + 1) (by simpa using hj) (by omega)) (fun hi2 => h2 (by simpa using hi2))
      unfold lay at this
      rw [List.takeWhile_cons_of_pos (by simpa using h0), List.dropWhile_cons_of_pos (by simpa using h0)]
      simp only [List.cons_append, List.take_succ_cons, List.drop_succ_cons, this]
theorem flat3_drop (l : List Pm) (i : Nat) : flat3 (l.drop i) = (flat3 l).drop (i * 3) := by
  induction l generalizing i with
  | nil => simp [flat3]
  | cons x l ih =>
    cases i with
    | zero => simp
    | succ i =>
      have e : flat3 (x :: l) = x.cells ++ flat3 l := rfl
      rw [List.drop_succ_cons, ih, e, show (i + 1) * 3 = x.cells.length + i * 3 by show _ = 3 + i * 3; omega, List.drop_append]
      simp
theorem add_none (b off j : Nat) : (⟨b, off, none⟩ : Addr).add j = ⟨b, off + j, none⟩ := by unfold Addr.add; split <;> simp_all
theorem PcsAt.cut {d : List Pm} {ao : Option Addr} {cap : Nat} {w : World} (h : PcsAt d (.slice ao d.length cap) w) (i : Nat) (hi : i ≤ d.length) : PcsAt (d.drop i) (sliced ao i d.length cap 3) w := by
  obtain ⟨ao', cap', he, hc, hm, h2⟩ := h
  simp only [Value.slice.injEq, true_and] at he
  obtain ⟨rfl, rfl⟩ := he
  unfold sliced
  rw [List.length_drop.symm]
  refine ⟨_, _, rfl, by rw [List.length_drop]; omega, by omega, ?_⟩
  by_cases hci : cap = i
  · have e0 : d.drop i = [] := List.drop_eq_nil_of_le (by omega)
    exact .inl ⟨e0, fun _ => by omega⟩
  · rw [if_neg hci]
    rcases h2 with ⟨e, hn⟩ | ⟨b, off, rfl, hlt, hcell⟩
    · subst e
      have : i = 0 := by simpa using hi
      subst this
      cases ao with
      | none => have := hn rfl; omega
      | some ad => exact .inl ⟨rfl, fun e => by cases e⟩
    · by_cases hd : d.drop i = []
      · exact .inl ⟨hd, fun e => by cases e⟩
      · refine .inr ⟨b, off + i * 3, ?_, hlt, fun j hj => ?_⟩
        · have e : (⟨b, off, none⟩ : Addr).add (i * 3) = ⟨b, off + i * 3, none⟩ := by unfold Addr.add; split <;> simp_all
          simp [e]
        · rw [List.length_drop] at hj
          rw [flat3_drop, List.getElem?_drop, ← hcell (i * 3 + j) (by omega)]
          congr 2
          omega
set_option maxHeartbeats 8000000 in
set_option maxRecDepth 100000 in
theorem rput_any {l : List Pm} {sl : Value} {w : World} (h : PcsAt l sl w) (hr : Rows3 l w) (hs : Small l) (hn4 : l.length ≤ 400) (x0 : Pm) (hx : RowAt x0.r x0.sl w) (hxl : x0.r.length ≤ 1000000) (hxi : ∀ v ∈ x0.r, v.inn) :
    Calls Try.prog 19 #[sl, .agg #[.int .i64 x0.s.1, .int .i64 x0.s.2], .slice x0.ro x0.r.length x0.rc] w fun e w' => ∃ (m : List Pm) (v : Value), e = .returned v ∧ PcsAt m v w' ∧ From (l ++ [x0]) m ∧ pcs m = putP (pcs l) x0.s x0.r ∧ Below w.heap.size w w' := by
  have hb0 := below_alloc w (.cells #[.int .i64 x0.s.1, .int .i64 x0.s.2] 24)
  have C1 := hide (rokay_any (h.later hb0 (Nat.le_refl _)) (hr.later hb0) hs)
  have HA := hide h
  have HR := hide hr
  have HS := hide hs
  have HL4 := hide hn4
  have CRW := hide (show ∀ u : World, Below w.heap.size w u → Calls Try.prog 37 #[.slice x0.ro x0.r.length x0.rc] u fun e w' => e = .returned (.bool (rowB x0.r)) ∧ Below u.heap.size u w' from fun u hu => rrow_any (hx.later hu) hxi hxl)
  clear hb0 h hr hs hx hxl hxi hn4
  have HFL := hide (show From (l ++ [x0]) l from fun y hy => ⟨y, by simp [hy], rfl, rfl, rfl⟩)
  by_cases hok : Ok Good (pcs l)
  · rw [decide_eq_true hok] at C1
    by_cases hrs : Right (x0.s.1, x0.s.2)
    · have C2 := hide (fun w => Spn.rright_yes hrs w)
      cases hrb : rowB x0.r with
      | true =>
        have HD := hide (show putP (pcs l) x0.s x0.r = lay (away (pcs l) x0.s) (x0.s, x0.r) from if_pos ⟨hok, hrs, hrb⟩)
        have HDP := hide (show dropP (pcs l) x0.s = away (pcs l) x0.s from if_pos ⟨hok, hrs⟩)
        have HRB := hide hrb
        clear hok hrs hrb
        go_enter Try.func19, Try.ntmps19
        go_wp2_with fail
        refine C1.out.mono ?_
        rintro e w1 ⟨rfl, hb⟩
        obtain ⟨hA1, hb1⟩ := Spn.box1 hb
        have HA1 := hide hA1
        have HB1 := hide hb1
        obtain ⟨a0, a1, _, _, _⟩ := hA1
        clear hb hb1 C1
        go_wp2_with fail
        refine (C2.out _).mono ?_
        rintro e w2 ⟨rfl, hb⟩
        have HA2 := hide (HA1.out.later hb HA1.out.lt)
        have HB2 := hide (HB1.out.trans (hb.mono HB1.out.size))
        have C3 := CRW.out w2 HB2.out
        rw [HRB.out] at C3
        have C3 := hide C3
        clear hb HA1 HB1 a0 a1 C2 CRW
        go_wp2_with fail
        refine C3.out.mono ?_
        rintro e w3 ⟨rfl, hb⟩
        have HA3 := hide (HA2.out.later hb HA2.out.lt)
        have HB3 := hide (HB2.out.trans (hb.mono HB2.out.size))
        obtain ⟨a0, a1, _, _, _⟩ := HA3.out
        have C4 := hide (rdrop_any (HA.out.later HB3.out (Nat.le_refl _)) (HR.out.later HB3.out) HS.out x0.s.1 x0.s.2)
        clear hb HA2 HB2 C3
        go_wp2_with fail
        refine C4.out.mono ?_
        rintro e w5 ⟨d, dv, rfl, hd, hfd, hpd, hb⟩
        have HA5 := hide (HA3.out.later hb HA3.out.lt)
        have HB5 := hide (HB3.out.trans (hb.mono HB3.out.size))
        have HDA := hide hd
        have HFD := hide hfd
        have HPD := hide (show pcs d = away (pcs l) x0.s from by rw [hpd]; exact HDP.out)
        obtain ⟨dao, dcap, rfl, hdc, hdm⟩ := hd.form
        obtain ⟨n, hn⟩ : ∃ n, n = d.length := ⟨_, rfl⟩
        have hl : n ≤ 800 := by
          rw [hn, ← pcs_len d, HPD.out]
          have h1 := away_len (pcs l) x0.s
          rw [pcs_len] at h1
          have := HL4.out
          omega
        rw [← hn] at hdc ⊢
        have HN := hide hn
        have HDM := hide hdm
        clear hd hfd hpd hb hn hdm HA3 HB3 C4 a0 a1
        go_wp2_with fail
        go_loopw [7, 9] (fun ov ii wr => ∃ i : Nat, ii = .int .i64 i ∧ i ≤ n ∧ Hid (Row3 54 w5.heap.size (d.take i) ov wr) ∧ Hid (Below w5.heap.size w5 wr) ∧ Hid (∀ (j : Nat) (hj : j < d.length), j < i → (d[j]).s.1 < x0.s.1)) (fun _ ii _ => (n - (intOf ii).toNat))
        case atStart => exact ⟨0, rfl, by omega, hide (Row3.nil _ _ _), hide (Below.refl _ _), hide (fun j hj h0 => by omega)⟩
        case round =>
          rename World => wr
          obtain ⟨i, rfl, hi, HOV, HB, HF⟩ := hrel
          have HBA := hide (show Below w.heap.size w wr from HB5.out.trans (HB.out.mono HB5.out.size))
          have HS5 := hide (show ∀ u : World, Below w5.heap.size w5 u → u.cell? ⟨w.heap.size, 0, none⟩ = some (.int .i64 x0.s.1) ∧ u.cell? ⟨w.heap.size, 1, none⟩ = some (.int .i64 x0.s.2) from fun u hu => ⟨(HA5.out.later hu HA5.out.lt).c0, (HA5.out.later hu HA5.out.lt).c1⟩)
          have HBD := hide HB.out.drew
          have HOD := hide (HOV.out.later (Below.refl _ _).drew (Nat.le_refl _))
          have HLM := hide (show (d.take i).length ≤ 1000 from by rw [List.length_take]; omega)
          have HFIN := hide (show (∀ hi : i < d.length, ¬ (d[i]).s.1 < x0.s.1) → pcs (d.take i ++ [x0] ++ d.drop i) = putP (pcs l) x0.s x0.r from fun hno => by
            rw [HD.out, ← HPD.out, lay_split (x := (x0.s, x0.r)) i (by rw [pcs_len, ← HN.out]; exact hi) (fun j hj hji => by
              rw [pcs_len] at hj
              rw [pcs_at d j hj]; exact HF.out j hj hji) (fun hi2 => by
              rw [pcs_len] at hi2
              rw [pcs_at d i hi2]; exact hno hi2)]
            simp [pcs, List.map_take, List.map_drop, Pm.pc])
          have HFR := hide (show From (l ++ [x0]) (d.take i ++ [x0] ++ d.drop i) from by
            refine From.app (From.app (fun y hy => ?_) (fun y hy => ?_)) (fun y hy => ?_)
            · exact (HFL.out.trans HFD.out) y (List.mem_of_mem_take hy)
            · exact ⟨y, by simp at hy; simp [hy], rfl, rfl, rfl⟩
            · exact (HFL.out.trans HFD.out) y (List.mem_of_mem_drop hy))
          rcases Nat.lt_or_ge i n with hlt | hge
          · have g1 : (i : Int) < (n : Int) := by omega
            have hil : i < d.length := by rw [← HN.out]; exact hlt
            obtain ⟨b0, off, cap, he, _, _⟩ := (HDA.out.later HB.out (Nat.le_refl _)).at i hil
            rw [← HN.out] at he
            simp only [Value.slice.injEq] at he
            obtain ⟨rfl, _, rfl⟩ := he
            have HTK := hide (List.take_succ_eq_append_getElem hil)
            obtain ⟨x, hx⟩ : ∃ x, x = d[i] := ⟨_, rfl⟩
            have HX := hide hx
            rw [← hx] at HTK
            have CP := hide (show ∀ u : World, Below w5.heap.size w5 u → u.cell? ⟨b0, off + i * 3, none⟩ = some (.int .i64 x.s.1) ∧ u.cell? ⟨b0, off + i * 3 + 1, none⟩ = some (.int .i64 x.s.2) ∧ u.cell? ⟨b0, off + i * 3 + 2, none⟩ = some (.slice x.ro x.r.length x.rc) from fun u hu => by
              have h1 := ((HDA.out.later hu (Nat.le_refl _)).got i hil).2
              rw [← hx] at h1
              exact h1)
            have CE := hide (show ∀ u : World, Below w5.heap.size w5 u → (u.cell? ⟨b0, off + i * 3, none⟩ = some (.int .i64 x.s.1) ∧ u.cell? ⟨w.heap.size, 0, none⟩ = some (.int .i64 x0.s.1)) from fun u hu => ⟨(CP.out u hu).1, (HS5.out u hu).1⟩)
            clear hx
            by_cases hlo : x.s.1 < x0.s.1
            · have HF2 := hide (show ∀ (j : Nat) (hj : j < d.length), j < i + 1 → (d[j]).s.1 < x0.s.1 from fun j hj hji => by
                rcases Nat.lt_or_ge j i with h9 | h9
                · exact HF.out j hj h9
                · obtain rfl : j = i := by omega
                  rw [← HX.out]; exact hlo)
              clear HFIN HFR
              go_wp2_with fail
              refine wp_region_held_drew (S := fun u => u.cell? ⟨b0, off + i * 3, none⟩ = some (.int .i64 x.s.1) ∧ u.cell? ⟨w.heap.size, 0, none⟩ = some (.int .i64 x0.s.1)) (by kernel_rfl) (CE.out _ HBD.out) (fun hHeld => ?_)
              refine Man.t1 0 hHeld ?_
              (try simp only [Act.put, Mqa, Mqb, Mqc])
              refine Man.t1 1 hHeld ?_
              (try simp only [Act.put, Mqa, Mqb, Mqc])
              refine Man.t1 2 hHeld ?_
              (try simp only [Act.put, Mqa, Mqb, Mqc])
              refine Man.t1 3 hHeld ?_
              (try simp only [Act.put, Mqa, Mqb, Mqc])
              refine Man.t1 4 hHeld ?_
              (try simp only [Act.put, Mqa, Mqb, Mqc])
              refine Man.t1 5 hHeld ?_
              (try simp only [Act.put, Mqa, Mqb, Mqc])
              refine Man.t1 6 hHeld ?_
              (try simp only [Act.put, Mqa, Mqb, Mqc])
              refine Man.t1 7 hHeld ?_
              (try simp only [Act.put, Mqa, Mqb, Mqc])
              refine Man.t1 8 hHeld ?_
              (try simp only [Act.put, Mqa, Mqb, Mqc])
              refine Man.t1 9 hHeld ?_
              (try simp only [Act.put, Mqa, Mqb, Mqc])
              refine Man.t1 10 hHeld ?_
              (try simp only [Act.put, Mqa, Mqb, Mqc])
              refine Man.t1 11 hHeld ?_
              (try simp only [Act.put, Mqa, Mqb, Mqc])
              refine Man.t1 12 hHeld ?_
              (try simp only [Act.put, Mqa, Mqb, Mqc])
              refine Man.t1 13 hHeld ?_
              (try simp only [Act.put, Mqa, Mqb, Mqc])
              refine Man.t1 14 hHeld ?_
              (try simp only [Act.put, Mqa, Mqb, Mqc])
              refine wpAnyH_done (by kernel_rfl) ?_ _
              obtain ⟨wd, hwd⟩ : ∃ wd, wd = wr.drew := ⟨_, rfl⟩
              rw [← hwd] at HBD HOD ⊢
              clear hwd HB HOV hHeld
              obtain ⟨k0, k1, k2⟩ := CP.out wd HBD.out
              have HB1 := hide (HBD.out.trans ((below_alloc wd (.cells #[.int .i64 x.s.1, .int .i64 x.s.2, .slice x.ro x.r.length x.rc] 54)).mono HBD.out.size))
              have HO1 := hide (HOD.out.later (below_alloc wd (.cells #[.int .i64 x.s.1, .int .i64 x.s.2, .slice x.ro x.r.length x.rc] 54)) (Nat.le_refl _))
              go_wp2_with (at_builtin; refine wpList_row3 tyR rfl _ _ rfl rfl rfl HO1.out (one3_at wd x _ rfl) (by have := HLM.out; simp; omega) HB1.out.size ?_)
              intro u w7 hu hg hob
              have HR7 := hide (show Row3 54 w5.heap.size (d.take (i + 1)) u w7 from by rw [HTK.out]; exact hu)
              have HB7 := hide (HB1.out.grown hg HB1.out.size (fun k hk => (HO1.out.lt k hk).1))
              clear hu hg hob HB1 HO1
              go_wp2_with fail
              go_roundw
              case rel => exact ⟨i + 1, by go_num, by omega, HR7, HB7, HF2⟩
              case measure => simp [intOf]; omega
            · have hlo2 : decide (x.s.1 < x0.s.1) = false := decide_eq_false hlo
              have HE := hide (HFIN.out (fun _ => by rw [← HX.out]; exact hlo))
              go_wp2_with fail
              refine wp_region_held_drew (S := fun u => u.cell? ⟨b0, off + i * 3, none⟩ = some (.int .i64 x.s.1) ∧ u.cell? ⟨w.heap.size, 0, none⟩ = some (.int .i64 x0.s.1)) (by kernel_rfl) (CE.out _ HBD.out) (fun hHeld => ?_)
              refine Man.t1 0 hHeld ?_
              (try simp only [Act.put, Mqa, Mqb, Mqc])
              refine Man.t1 1 hHeld ?_
              (try simp only [Act.put, Mqa, Mqb, Mqc])
              refine Man.t1 2 hHeld ?_
              (try simp only [Act.put, Mqa, Mqb, Mqc])
              refine Man.t1 3 hHeld ?_
              (try simp only [Act.put, Mqa, Mqb, Mqc])
              refine Man.t1 4 hHeld ?_
              (try simp only [Act.put, Mqa, Mqb, Mqc])
              refine Man.t1 5 hHeld ?_
              (try simp only [Act.put, Mqa, Mqb, Mqc])
              refine Man.t1 6 hHeld ?_
              (try simp only [Act.put, Mqa, Mqb, Mqc])
              refine Man.t1 7 hHeld ?_
              (try simp only [Act.put, Mqa, Mqb, Mqc])
              refine Man.t1 8 hHeld ?_
              (try simp only [Act.put, Mqa, Mqb, Mqc])
              refine Man.t1 9 hHeld ?_
              (try simp only [Act.put, Mqa, Mqb, Mqc])
              refine Man.t1 10 hHeld ?_
              (try simp only [Act.put, Mqa, Mqb, Mqc])
              refine Man.t1 11 hHeld ?_
              (try simp only [Act.put, Mqa, Mqb, Mqc])
              refine Man.t1 12 hHeld ?_
              (try simp only [Act.put, Mqa, Mqb, Mqc])
              refine Man.t1 13 hHeld ?_
              (try simp only [Act.put, Mqa, Mqb, Mqc])
              refine Man.t1 14 hHeld ?_
              (try simp only [Act.put, Mqa, Mqb, Mqc])
              refine wpAnyH_done (by kernel_rfl) ?_ _
              obtain ⟨wd, hwd⟩ : ∃ wd, wd = wr.drew := ⟨_, rfl⟩
              rw [← hwd] at HBD HOD ⊢
              clear hwd HB HOV hHeld
              obtain ⟨s0, s1⟩ := HS5.out wd HBD.out
              have HB1 := hide (HBD.out.trans ((below_alloc wd (.cells #[.int .i64 x0.s.1, .int .i64 x0.s.2, .slice x0.ro x0.r.length x0.rc] 54)).mono HBD.out.size))
              have HO1 := hide (HOD.out.later (below_alloc wd (.cells #[.int .i64 x0.s.1, .int .i64 x0.s.2, .slice x0.ro x0.r.length x0.rc] 54)) (Nat.le_refl _))
              have hin : (i : Int) ≤ (n : Int) := by omega
              have hi0 : (0 : Int) ≤ (i : Int) := by omega
              have HIL := hide (show i ≤ d.length from by rw [← HN.out]; omega)
              go_wp2_with (at_builtin; refine wpList_row3 tyR rfl _ _ rfl rfl rfl HO1.out (one3_at wd x0 _ rfl) (by have := HLM.out; simp; omega) HB1.out.size ?_)
              intro u w7 hu hg hob
              have HR7 := hide hu
              have HB7 := hide (HB1.out.grown hg HB1.out.size (fun k hk => (HO1.out.lt k hk).1))
              have HCUT := hide (show PcsAt (d.drop i) (sliced (some ⟨b0, off, none⟩) i n dcap 3) w7 from by have h9 := (HDA.out.later HB7.out (Nat.le_refl _)).cut i HIL.out; rw [← HN.out] at h9; exact h9)
              clear hu hg hob HB1 HO1 s0 s1
              have HCUTL := hide (show ((d.take i ++ [x0]).length + (d.drop i).length ≤ 100000) from by have := HIL.out; have := HN.out; simp; omega)
              rcases Nat.decEq dcap i with hcap | hcap
              · go_wp2_with (at_builtin; refine wpList_row3 tyR rfl _ _ rfl rfl rfl HR7.out (by conv => { arg 2; whnf }; simpa [sliced, hcap, add_none] using HCUT.out) HCUTL.out HB7.out.size ?_)
                intro u9 w9 hu hg hob
                have HP9 := hide (show PcsAt (d.take i ++ [x0] ++ d.drop i) u9 w9 from by have h9 := hu.pieces; simpa using h9)
                have HB9 := hide (HB5.out.trans ((HB7.out.grown hg HB7.out.size (fun k hk => (HR7.out.lt k hk).1)).mono HB5.out.size))
                clear hu hg hob
                go_wp2_with fail
                go_ret
                exact ⟨d.take i ++ [x0] ++ d.drop i, u9, rfl, HP9.out, HFR.out, HE.out, HB9.out⟩
              · go_wp2_with (at_builtin; refine wpList_row3 tyR rfl _ _ rfl rfl rfl HR7.out (by conv => { arg 2; whnf }; simpa [sliced, hcap, add_none] using HCUT.out) HCUTL.out HB7.out.size ?_)
                intro u9 w9 hu hg hob
                have HP9 := hide (show PcsAt (d.take i ++ [x0] ++ d.drop i) u9 w9 from by have h9 := hu.pieces; simpa using h9)
                have HB9 := hide (HB5.out.trans ((HB7.out.grown hg HB7.out.size (fun k hk => (HR7.out.lt k hk).1)).mono HB5.out.size))
                clear hu hg hob
                go_wp2_with fail
                go_ret
                exact ⟨d.take i ++ [x0] ++ d.drop i, u9, rfl, HP9.out, HFR.out, HE.out, HB9.out⟩
          · obtain rfl : i = n := by omega
            have g1 : ¬ (i : Int) < (i : Int) := by omega
            have HE := hide (HFIN.out (fun hi9 => by have := HN.out; omega))
            have CE := hide (show ∀ u : World, Below w5.heap.size w5 u → (u.cell? ⟨w.heap.size, 0, none⟩ = some (.int .i64 x0.s.1)) from fun u hu => (HS5.out u hu).1)
            go_wp2_with fail
            refine wp_region_held_drew (S := fun u => u.cell? ⟨w.heap.size, 0, none⟩ = some (.int .i64 x0.s.1)) (by kernel_rfl) (CE.out _ HBD.out) (fun hHeld => ?_)
            refine Man.t1 0 hHeld ?_
            (try simp only [Act.put, Mqa, Mqb, Mqc])
            refine Man.t1 1 hHeld ?_
            (try simp only [Act.put, Mqa, Mqb, Mqc])
            refine Man.t1 2 hHeld ?_
            (try simp only [Act.put, Mqa, Mqb, Mqc])
            refine Man.t1 3 hHeld ?_
            (try simp only [Act.put, Mqa, Mqb, Mqc])
            refine Man.t1 4 hHeld ?_
            (try simp only [Act.put, Mqa, Mqb, Mqc])
            refine Man.take0 (i := 5) rfl (by kernel_rfl) (by kernel_rfl) (by kernel_rfl) (fun _ _ _ h => h) (by rfl) hHeld ?_
            (try simp only [Act.put, Mqa, Mqb, Mqc])
            refine Man.take0 (i := 6) rfl (by kernel_rfl) (by kernel_rfl) (by kernel_rfl) (fun _ _ _ h => h) (by rfl) hHeld ?_
            (try simp only [Act.put, Mqa, Mqb, Mqc])
            refine Man.take0 (i := 7) rfl (by kernel_rfl) (by kernel_rfl) (by kernel_rfl) (fun _ _ _ h => h) (by rfl) hHeld ?_
            (try simp only [Act.put, Mqa, Mqb, Mqc])
            refine Man.take0 (i := 8) rfl (by kernel_rfl) (by kernel_rfl) (by kernel_rfl) (fun _ _ _ h => h) (by rfl) hHeld ?_
            (try simp only [Act.put, Mqa, Mqb, Mqc])
            refine Man.take0 (i := 9) rfl (by kernel_rfl) (by kernel_rfl) (by kernel_rfl) (fun _ _ _ h => h) (by rfl) hHeld ?_
            (try simp only [Act.put, Mqa, Mqb, Mqc])
            refine Man.take0 (i := 10) rfl (by kernel_rfl) (by kernel_rfl) (by kernel_rfl) (fun _ _ _ h => h) (by rfl) hHeld ?_
            (try simp only [Act.put, Mqa, Mqb, Mqc])
            refine Man.take0 (i := 11) rfl (by kernel_rfl) (by kernel_rfl) (by kernel_rfl) (fun _ _ _ h => h) (by rfl) hHeld ?_
            (try simp only [Act.put, Mqa, Mqb, Mqc])
            refine Man.take0 (i := 12) rfl (by kernel_rfl) (by kernel_rfl) (by kernel_rfl) (fun _ _ _ h => h) (by rfl) hHeld ?_
            (try simp only [Act.put, Mqa, Mqb, Mqc])
            refine Man.take0 (i := 13) rfl (by kernel_rfl) (by kernel_rfl) (by kernel_rfl) (fun _ _ _ h => h) (by rfl) hHeld ?_
            (try simp only [Act.put, Mqa, Mqb, Mqc])
            refine Man.t1 14 hHeld ?_
            (try simp only [Act.put, Mqa, Mqb, Mqc])
            refine wpAnyH_done (by kernel_rfl) ?_ _
            obtain ⟨wd, hwd⟩ : ∃ wd, wd = wr.drew := ⟨_, rfl⟩
            rw [← hwd] at HBD HOD ⊢
            clear hwd HB HOV hHeld
            obtain ⟨s0, s1⟩ := HS5.out wd HBD.out
            have HB1 := hide (HBD.out.trans ((below_alloc wd (.cells #[.int .i64 x0.s.1, .int .i64 x0.s.2, .slice x0.ro x0.r.length x0.rc] 54)).mono HBD.out.size))
            have HO1 := hide (HOD.out.later (below_alloc wd (.cells #[.int .i64 x0.s.1, .int .i64 x0.s.2, .slice x0.ro x0.r.length x0.rc] 54)) (Nat.le_refl _))
            have hin : (i : Int) ≤ (i : Int) := by omega
            have hi0 : (0 : Int) ≤ (i : Int) := by omega
            have HIL := hide (show i ≤ d.length from by rw [← HN.out]; omega)
            go_wp2_with (at_builtin; refine wpList_row3 tyR rfl _ _ rfl rfl rfl HO1.out (one3_at wd x0 _ rfl) (by have := HLM.out; simp; omega) HB1.out.size ?_)
            intro u w7 hu hg hob
            have HR7 := hide hu
            have HB7 := hide (HB1.out.grown hg HB1.out.size (fun k hk => (HO1.out.lt k hk).1))
            have HCUT := hide (show PcsAt (d.drop i) (sliced dao i i dcap 3) w7 from by have h9 := (HDA.out.later HB7.out (Nat.le_refl _)).cut i HIL.out; rw [← HN.out] at h9; exact h9)
            clear hu hg hob HB1 HO1 s0 s1
            have HCUTL := hide (show ((d.take i ++ [x0]).length + (d.drop i).length ≤ 100000) from by have := HIL.out; have := HN.out; simp; omega)
            rcases Nat.decEq dcap i with hcap | hcap
            · go_wp2_with (at_builtin; refine wpList_row3 tyR rfl _ _ rfl rfl rfl HR7.out (by conv => { arg 2; whnf }; simpa [sliced, hcap, add_none] using HCUT.out) HCUTL.out HB7.out.size ?_)
              intro u9 w9 hu hg hob
              have HP9 := hide (show PcsAt (d.take i ++ [x0] ++ d.drop i) u9 w9 from by have h9 := hu.pieces; simpa using h9)
              have HB9 := hide (HB5.out.trans ((HB7.out.grown hg HB7.out.size (fun k hk => (HR7.out.lt k hk).1)).mono HB5.out.size))
              clear hu hg hob
              go_wp2_with fail
              go_ret
              exact ⟨d.take i ++ [x0] ++ d.drop i, u9, rfl, HP9.out, HFR.out, HE.out, HB9.out⟩
            · go_wp2_with (at_builtin; refine wpList_row3 tyR rfl _ _ rfl rfl rfl HR7.out (by conv => { arg 2; whnf }; simpa [sliced, hcap, add_none] using HCUT.out) HCUTL.out HB7.out.size ?_)
              intro u9 w9 hu hg hob
              have HP9 := hide (show PcsAt (d.take i ++ [x0] ++ d.drop i) u9 w9 from by have h9 := hu.pieces; simpa using h9)
              have HB9 := hide (HB5.out.trans ((HB7.out.grown hg HB7.out.size (fun k hk => (HR7.out.lt k hk).1)).mono HB5.out.size))
              clear hu hg hob
              go_wp2_with fail
              go_ret
              exact ⟨d.take i ++ [x0] ++ d.drop i, u9, rfl, HP9.out, HFR.out, HE.out, HB9.out⟩
      | false =>
        have HD := hide (show putP (pcs l) x0.s x0.r = pcs l from if_neg (fun h9 => by rw [show rowB x0.r = true from h9.2.2] at hrb; cases hrb))
        have HRB := hide hrb
        clear hok hrs hrb
        go_enter Try.func19, Try.ntmps19
        go_wp2_with fail
        refine C1.out.mono ?_
        rintro e w1 ⟨rfl, hb⟩
        obtain ⟨hA1, hb1⟩ := Spn.box1 hb
        have HB1 := hide hb1
        obtain ⟨a0, a1, _, _, _⟩ := hA1
        clear hb hb1 C1
        go_wp2_with fail
        refine (C2.out _).mono ?_
        rintro e w2 ⟨rfl, hb⟩
        have HB2 := hide (HB1.out.trans (hb.mono HB1.out.size))
        have C3 := CRW.out w2 HB2.out
        rw [HRB.out] at C3
        have C3 := hide C3
        clear hb HB1 a0 a1 C2 CRW
        go_wp2_with fail
        refine C3.out.mono ?_
        rintro e w3 ⟨rfl, hb⟩
        have HB3 := hide (HB2.out.trans (hb.mono HB2.out.size))
        clear hb HB2 C3
        go_wp2_with fail
        go_ret
        exact ⟨l, sl, rfl, HA.out.later HB3.out (Nat.le_refl _), HFL.out, HD.out.symm, HB3.out⟩
    · have C2 := hide (fun w => Spn.rright_no hrs w)
      have HD := hide (show putP (pcs l) x0.s x0.r = pcs l from if_neg (fun h9 => hrs h9.2.1))
      clear hok hrs
      go_enter Try.func19, Try.ntmps19
      go_wp2_with fail
      refine C1.out.mono ?_
      rintro e w1 ⟨rfl, hb⟩
      obtain ⟨hA1, hb1⟩ := Spn.box1 hb
      have HB1 := hide hb1
      obtain ⟨a0, a1, _, _, _⟩ := hA1
      clear hb hb1 C1
      go_wp2_with fail
      refine (C2.out _).mono ?_
      rintro e w2 ⟨rfl, hb⟩
      have HB2 := hide (HB1.out.trans (hb.mono HB1.out.size))
      clear hb
      go_wp2_with fail
      go_ret
      exact ⟨l, sl, rfl, HA.out.later HB2.out (Nat.le_refl _), HFL.out, HD.out.symm, HB2.out⟩
  · rw [decide_eq_false hok] at C1
    have HD := hide (show putP (pcs l) x0.s x0.r = pcs l from if_neg (fun h9 => hok h9.1))
    clear hok
    go_enter Try.func19, Try.ntmps19
    go_wp2_with fail
    refine C1.out.mono ?_
    rintro e w1 ⟨rfl, hb⟩
    obtain ⟨_, hb1⟩ := Spn.box1 hb
    have HB2 := hide hb1
    clear hb hb1 C1
    go_wp2_with fail
    go_ret
    exact ⟨l, sl, rfl, HA.out.later HB2.out (Nat.le_refl _), HFL.out, HD.out.symm, HB2.out⟩
end Prd
end Go.Proofs.Ytoacombaddknfaa
