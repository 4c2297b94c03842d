/- IndexStabs: an item is among those that have a time just if it has it, and Overlap of that time alone tells the same; all items are in order: for all scripts of calls, all times. No other condition. -/
import Derived.Test.YtapdhelioecneaaJmax
import Derived.Test.YtapdhelioecneaaWy
import Derived.Test.YtapdhelioecneaaFra
import Derived.WideKeyPair
import Derived.SizedLaws
namespace Go.Proofs.Ytapdhelioecneaa
open Go.ChangeShapes Go.WideShapes Go.ChangeAt Go.RowKit
open Go.ChangeMaps (open_string shut_string)
namespace LaIndexStabs
open Idx
theorem filt_next {P : It → Bool} {M : List It} {i : Nat} (hi : i < M.length) (hp : P M[i] = true) : ∃ h : ((M.take i).filter P).length < (M.filter P).length, (M.filter P)[((M.take i).filter P).length] = M[i] := by
  have e : M.filter P = (M.take i).filter P ++ M[i] :: (M.drop (i + 1)).filter P := by
    conv => lhs; rw [← List.take_append_drop i M, List.drop_eq_getElem_cons hi, List.filter_append, List.filter_cons, if_pos hp]
  refine ⟨by rw [e, List.length_append, List.length_cons]; omega, ?_⟩
  have key : ∀ (a b : List It) (n : Nat) (hn : n < b.length), a = b → b[n]? = some M[i] → b[n] = M[i] := fun a b n hn _ h9 => by rw [List.getElem?_eq_getElem hn] at h9; exact Option.some.inj h9
  refine key _ _ _ _ rfl ?_
  conv => lhs; rw [e]
  rw [List.getElem?_append_right (Nat.le_refl _), Nat.sub_self]; rfl
theorem filt_yes {P : It → Bool} {M : List It} {i : Nat} (hi : i < M.length) (hp : P M[i] = true) : ((M.take (i + 1)).filter P).length = ((M.take i).filter P).length + 1 := by
  rw [List.take_succ_eq_append_getElem hi, List.filter_append, List.filter_cons, if_pos hp, List.length_append]; rfl
theorem filt_no {P : It → Bool} {M : List It} {i : Nat} (hi : i < M.length) (hp : P M[i] = false) : ((M.take (i + 1)).filter P).length = ((M.take i).filter P).length := by
  rw [List.take_succ_eq_append_getElem hi, List.filter_append, List.filter_cons, if_neg (by rw [hp]; simp), List.length_append]; rfl
theorem stab_over {M : List It} (h : Ok M) (t : Int) (_ : 0 ≤ t) (_ : t < 1099511627776) : over M [] [] t (t + 1) = stab M [] [] t := by
  refine List.filter_congr fun x hx => ?_
  have hr := h.one x hx
  unfold RightI at hr
  unfold stabB overB
  congr 1
  rw [Bool.eq_iff_iff, Bool.and_eq_true, decide_eq_true_iff, decide_eq_true_iff, decide_eq_true_iff]
  omega
theorem stab_wild {M : List It} (h : Ok M) (t : Int) (h1 : t < 0 ∨ t ≥ 1099511627776) : stab M [] [] t = [] := by
  unfold stab
  rw [List.filter_eq_nil_iff]
  intro x hx h9
  have hr := h.one x hx
  unfold RightI at hr
  unfold stabB at h9
  rw [Bool.and_eq_true, Bool.and_eq_true, decide_eq_true_iff, decide_eq_true_iff] at h9
  omega
/-- All items, those that have the time, the index. -/
structure Sx (PX : Nat → Int → (Nat → Prop) → List It → World → Prop) (R : Nat) (F : Nat → Prop) (M L : List It) (vm vl : Value) (w0 w : World) : Prop where
  a : ItemsAt M vm w
  l : ItemsAt L vl w
  b : Below w0.heap.size w0 w
  x : PX R 3 F M w
theorem Sx.later {PX : Nat → Int → (Nat → Prop) → List It → World → Prop} (K : Con PX) {R : Nat} {F : Nat → Prop} {M L : List It} {vm vl : Value} {w0 w w' : World} (h : Sx PX R F M L vm vl w0 w) (hb : Below w.heap.size w w') : Sx PX R F M L vm vl w0 w' :=
  ⟨h.a.later hb (Nat.le_refl _), h.l.later hb (Nat.le_refl _), h.b.trans (hb.mono h.b.size), K.later h.x hb (Nat.le_refl _)⟩
set_option maxHeartbeats 8000000 in
set_option maxRecDepth 100000 in
theorem walk_stabs {PX : Nat → Int → (Nat → Prop) → List It → World → Prop} (K : Con PX) {l : List Opv} {sl : Value} {w : World} (h : OpsAt l sl w) (hin : ∀ o ∈ l, o.inn) (t : Int) (ht : In64 t) :
    Calls Try.prog 5 #[sl, .int .i64 t] w fun e w' => e = .returned (.bool true) ∧ Below w.heap.size w w' := by
  have HA := hide h
  have HIN := hide hin
  have HT64 := hide ht
  clear h hin ht
  go_enter Try.func5, Try.ntmps5
  go_wp2_with fail
  refine (K.new 3 _ (by kernel_rfl)).mono ?_
  rintro e w1 ⟨R, F1, rfl, hp, hf, hb⟩
  have P1 := hide hp
  have G1 := hide hf
  have B1 := hide hb
  clear hp hf hb
  go_wp2_with fail
  refine (build_any K HA.out HIN.out B1.out P1.out G1.out (fit_nil _)).mono ?_
  rintro e w2 ⟨rfl, F2, hp, ht⟩
  have P2 := hide hp
  have B2 := hide (B1.out.trans (ht.1.below G1.out B1.out.size))
  have G2 := hide (show ∀ k, F2 k → w.heap.size ≤ k from fun k hk => (ht.2.2 k hk).elim (fun e9 => G1.out k e9) (fun e9 => Nat.le_trans B1.out.size e9.1))
  have HFM := hide (show Fit 998 (buildL [] l) from (((fit_nil 700).steps (l.take 200) (fun o ho => HIN.out o (List.mem_of_mem_take ho))).mono (by rw [List.length_take]; omega)))
  have HF9 := hide (show Fit 900 (buildL [] l) from (((fit_nil 700).steps (l.take 200) (fun o ho => HIN.out o (List.mem_of_mem_take ho))).mono (by rw [List.length_take]; omega)))
  clear hp ht P1 B1
  obtain ⟨M, hM⟩ : ∃ M, M = buildL [] l := ⟨_, rfl⟩
  rw [← hM] at P2 HFM HF9
  clear hM
  go_wp2_with fail
  refine (K.all P2.out HFM.out).mono ?_
  rintro e w3 ⟨va, rfl, ha, _, hb⟩
  obtain ⟨so, sc, rfl, _, _⟩ := ha.form
  have P3 := hide (K.later P2.out hb (Nat.le_refl _))
  have B3 := hide (B2.out.trans (hb.mono B2.out.size))
  have A3 := hide ha
  clear ha hb P2 B2
  obtain ⟨n, hn⟩ : ∃ n, n = M.length := ⟨_, rfl⟩
  rw [← hn] at A3 ⊢
  have HN := hide hn
  clear hn
  go_wp2_with fail
  refine (K.stab P3.out HFM.out [] [] t (by decide) (by decide) HT64.out).mono ?_
  rintro e w4 ⟨vb, rfl, ha, _, hb⟩
  obtain ⟨lo, lc, rfl, _, _⟩ := ha.form
  have T4 := hide (show Sx PX R F2 M (stab M [] [] t) (.slice so n sc) (.slice lo (stab M [] [] t).length lc) w w4 from ⟨A3.out.later hb (Nat.le_refl _), ha, B3.out.trans (hb.mono B3.out.size), K.later P3.out hb (Nat.le_refl _)⟩)
  clear ha hb P3 B3 A3
  obtain ⟨L, hL⟩ : ∃ L, L = stab M [] [] t := ⟨_, rfl⟩
  rw [← hL] at T4 ⊢
  have HL := hide hL
  clear hL
  obtain ⟨p, hp⟩ : ∃ p, p = L.length := ⟨_, rfl⟩
  rw [← hp] at T4 ⊢
  have HP := hide hp
  clear hp
  go_wp2_with fail
  go_loopw [9, 10] (fun kk ii wr => ∃ i c : Nat, ii = .int .i64 i ∧ i ≤ n ∧ kk = .int .i64 c ∧ c ≤ p ∧ Hid (c = (stab (M.take i) [] [] t).length) ∧ Hid (Sx PX R F2 M L (.slice so n sc) (.slice lo p lc) w wr)) (fun _ ii _ => (n - (intOf ii).toNat))
  case atStart => exact ⟨0, 0, rfl, by omega, rfl, by omega, hide rfl, T4⟩
  case round =>
    clear T4
    rename World => wr
    obtain ⟨i, c, rfl, hi, rfl, hcp, HC, HS⟩ := hrel
    rcases Nat.lt_or_ge i n with hlt | hge
    · have g1 : (i : Int) < (n : Int) := by omega
      have hil : i < M.length := by rw [← HN.out]; exact hlt
      obtain ⟨wd, hwd⟩ : ∃ wd, wd = wr.drew := ⟨_, rfl⟩
      have HD := hide (show Sx PX R F2 M L (.slice so n sc) (.slice lo p lc) w wd from by rw [hwd]; exact HS.out.later K (Below.refl _ _).drew)
      clear HS
      have HDA := HD.out.a
      rw [HN.out] at HDA
      obtain ⟨b0, off, cap, he, hbw, k0, k1, k2, k3⟩ := HDA.at i hil
      rw [← HN.out] at he HDA
      simp only [Value.slice.injEq, true_and] at he
      obtain ⟨rfl, rfl⟩ := he
      have HY := hide (fun (j : Nat) (hj : j < M.length) => (show ItemsAt M (.slice (some ⟨b0, off, none⟩) n sc) wd from HDA).got j hj)
      have HYES := hide (fun (h9 : stabB [] [] t M[i] = true) => (⟨filt_next hil h9, filt_yes hil h9⟩ : (∃ h : (stab (M.take i) [] [] t).length < (stab M [] [] t).length, (stab M [] [] t)[(stab (M.take i) [] [] t).length] = M[i]) ∧ (stab (M.take (i + 1)) [] [] t).length = (stab (M.take i) [] [] t).length + 1))
      have HNO := hide (fun (h9 : stabB [] [] t M[i] = false) => (filt_no hil h9 : (stab (M.take (i + 1)) [] [] t).length = (stab (M.take i) [] [] t).length))
      have HUP := hide (fun (j : Nat) (hj : j < M.length) (hji : j < i) => up_at HFM.out.ok.up j i hj hil hji)
      rw [← HL.out] at HYES
      obtain ⟨x, hx⟩ : ∃ x, x = M[i] := ⟨_, rfl⟩
      rw [← hx] at k0 k1 k2 k3 HYES HNO
      have HUP2 := hide (fun (j : Nat) (hj : j < M.length) (hji : j < i) => (by have := HUP.out j hj hji; rw [← hx] at this; exact this : aheadB M[j] x.k x.s = true))
      clear hx hbw HDA HUP
      have HWD := hide hwd
      clear hwd
      by_cases hi0 : 0 < i
      · obtain ⟨j, hj⟩ : ∃ j, i = j + 1 := ⟨i - 1, by omega⟩
        have gj : (i : Int) - 1 = (j : Int) := by omega
        have gjn : (j : Int) < (n : Int) := by omega
        have hnn : (n : Int) ≤ 998 := by have := HFM.out.n; rw [← HN.out] at this; omega
        have wj : IntKind.i64.wrap (j : Int) = (j : Int) := by simp only [IntKind.wrap_i64]; omega
        have hjl : j < M.length := by rw [← HN.out]; omega
        have hup := HUP2.out j hjl (by omega)
        obtain ⟨-, y0, y1, -, -⟩ := HY.out j hjl
        obtain ⟨y, hy⟩ : ∃ y, y = M[j] := ⟨_, rfl⟩
        rw [← hy] at y0 y1 hup
        clear hy hj hjl
        rcases ahead_iff.1 hup with h1 | ⟨h1, h2⟩
        · have e1 : Op.bytesLess x.k y.k = false := less_asymm _ _ h1
          have e2 : (y.k == x.k) = false := by rw [beq_eq_false_iff_ne]; intro e9; rw [e9, less_irrefl] at h1; cases h1
          clear hup
          go_wp2_with fail
          refine wp_region_held_drew (S := fun u => u.cell? ⟨b0, off + j * 4, none⟩ = some (.string (S y.k)) ∧ u.cell? ⟨b0, off + j * 4 + 1, none⟩ = some (.int .i64 y.s) ∧ u.cell? ⟨b0, off + i * 4, none⟩ = some (.string (S x.k)) ∧ u.cell? ⟨b0, off + i * 4 + 1, none⟩ = some (.int .i64 x.s) ∧ u.cell? ⟨b0, off + i * 4 + 2, none⟩ = some (.int .i64 x.e) ∧ u.cell? ⟨b0, off + i * 4 + 3, none⟩ = some (.int .i64 x.id)) (by kernel_rfl) (by rw [← HWD.out]; exact ⟨y0, y1, k0, k1, k2, k3⟩) (fun hHeld => ?_)
          rw [← HWD.out] at hHeld ⊢
          refine Man.t1 0 hHeld ?_
          (try simp only [Act.put, Mqa, Mqb, Mqc])
          refine Man.t1 1 hHeld ?_
          (try simp only [Act.put, Mqa, Mqb, Mqc])
          refine Man.t1 2 hHeld ?_
          (try simp only [Act.put, Mqa, Mqb, Mqc])
          refine Man.t1 3 hHeld ?_
          (try simp only [Act.put, Mqa, Mqb, Mqc])
          refine Man.t1 4 hHeld ?_
          (try simp only [Act.put, Mqa, Mqb, Mqc])
          refine Man.t1 5 hHeld ?_
          (try simp only [Act.put, Mqa, Mqb, Mqc])
          refine Man.t1 6 hHeld ?_
          (try simp only [Act.put, Mqa, Mqb, Mqc])
          refine Man.t1 7 hHeld ?_
          (try simp only [Act.put, Mqa, Mqb, Mqc])
          refine Man.t1 8 hHeld ?_
          (try simp only [Act.put, Mqa, Mqb, Mqc])
          refine Man.t1 9 hHeld ?_
          (try simp only [Act.put, Mqa, Mqb, Mqc])
          refine Man.t1 10 hHeld ?_
          (try simp only [Act.put, Mqa, Mqb, Mqc])
          refine Man.t1 11 hHeld ?_
          (try simp only [Act.put, Mqa, Mqb, Mqc])
          refine Man.t1 12 hHeld ?_
          (try simp only [Act.put, Mqa, Mqb, Mqc])
          refine Man.t1 13 hHeld ?_
          (try simp only [Act.put, Mqa, Mqb, Mqc])
          refine Man.t1 14 hHeld ?_
          (try simp only [Act.put, Mqa, Mqb, Mqc])
          refine Man.t1 15 hHeld ?_
          (try simp only [Act.put, Mqa, Mqb, Mqc])
          refine Man.t1 16 hHeld ?_
          (try simp only [Act.put, Mqa, Mqb, Mqc])
          refine Man.t1 17 hHeld ?_
          (try simp only [Act.put, Mqa, Mqb, Mqc])
          refine Man.t1 18 hHeld ?_
          (try simp only [Act.put, Mqa, Mqb, Mqc])
          refine Man.t1 19 hHeld ?_
          (try simp only [Act.put, Mqa, Mqb, Mqc])
          refine Man.t1 20 hHeld ?_
          (try simp only [Act.put, Mqa, Mqb, Mqc])
          refine Man.t1 21 hHeld ?_
          (try simp only [Act.put, Mqa, Mqb, Mqc])
          refine Man.t1 22 hHeld ?_
          (try simp only [Act.put, Mqa, Mqb, Mqc])
          refine Man.t1 23 hHeld ?_
          (try simp only [Act.put, Mqa, Mqb, Mqc])
          refine Man.t1 24 hHeld ?_
          (try simp only [Act.put, Mqa, Mqb, Mqc])
          refine Man.t1 25 hHeld ?_
          (try simp only [Act.put, Mqa, Mqb, Mqc])
          refine Man.t1 26 hHeld ?_
          (try simp only [Act.put, Mqa, Mqb, Mqc])
          refine Man.t1 27 hHeld ?_
          (try simp only [Act.put, Mqa, Mqb, Mqc])
          refine Man.t1 28 hHeld ?_
          (try simp only [Act.put, Mqa, Mqb, Mqc])
          refine Man.take0 (i := 29) rfl (by kernel_rfl) (by kernel_rfl) (by kernel_rfl) (fun _ _ _ h => h) (by rfl) hHeld ?_
          (try simp only [Act.put, Mqa, Mqb, Mqc])
          refine Man.take0 (i := 30) rfl (by kernel_rfl) (by kernel_rfl) (by kernel_rfl) (fun _ _ _ h => h) (by rfl) hHeld ?_
          (try simp only [Act.put, Mqa, Mqb, Mqc])
          refine Man.take0 (i := 31) rfl (by kernel_rfl) (by kernel_rfl) (by kernel_rfl) (fun _ _ _ h => h) (by rfl) hHeld ?_
          (try simp only [Act.put, Mqa, Mqb, Mqc])
          refine Man.take0 (i := 32) rfl (by kernel_rfl) (by kernel_rfl) (by kernel_rfl) (fun _ _ _ h => h) (by rfl) hHeld ?_
          (try simp only [Act.put, Mqa, Mqb, Mqc])
          refine Man.take0 (i := 33) rfl (by kernel_rfl) (by kernel_rfl) (by kernel_rfl) (fun _ _ _ h => h) (by rfl) hHeld ?_
          (try simp only [Act.put, Mqa, Mqb, Mqc])
          refine Man.take0 (i := 34) rfl (by kernel_rfl) (by kernel_rfl) (by kernel_rfl) (fun _ _ _ h => h) (by rfl) hHeld ?_
          (try simp only [Act.put, Mqa, Mqb, Mqc])
          refine Man.take0 (i := 35) rfl (by kernel_rfl) (by kernel_rfl) (by kernel_rfl) (fun _ _ _ h => h) (by rfl) hHeld ?_
          (try simp only [Act.put, Mqa, Mqb, Mqc])
          refine Man.take0 (i := 36) rfl (by kernel_rfl) (by kernel_rfl) (by kernel_rfl) (fun _ _ _ h => h) (by rfl) hHeld ?_
          (try simp only [Act.put, Mqa, Mqb, Mqc])
          refine Man.take0 (i := 37) rfl (by kernel_rfl) (by kernel_rfl) (by kernel_rfl) (fun _ _ _ h => h) (by rfl) hHeld ?_
          (try simp only [Act.put, Mqa, Mqb, Mqc])
          refine Man.take0 (i := 38) rfl (by kernel_rfl) (by kernel_rfl) (by kernel_rfl) (fun _ _ _ h => h) (by rfl) hHeld ?_
          (try simp only [Act.put, Mqa, Mqb, Mqc])
          refine Man.take0 (i := 39) rfl (by kernel_rfl) (by kernel_rfl) (by kernel_rfl) (fun _ _ _ h => h) (by rfl) hHeld ?_
          (try simp only [Act.put, Mqa, Mqb, Mqc])
          refine Man.take0 (i := 40) rfl (by kernel_rfl) (by kernel_rfl) (by kernel_rfl) (fun _ _ _ h => h) (by rfl) hHeld ?_
          (try simp only [Act.put, Mqa, Mqb, Mqc])
          refine Man.t1 41 hHeld ?_
          (try simp only [Act.put, Mqa, Mqb, Mqc])
          refine Man.t1 42 hHeld ?_
          (try simp only [Act.put, Mqa, Mqb, Mqc])
          refine Man.t1 43 hHeld ?_
          (try simp only [Act.put, Mqa, Mqb, Mqc])
          refine wpAnyH_done (by kernel_rfl) ?_ _
          by_cases s1 : x.s ≤ t
          · by_cases s2 : t < x.e
            · obtain ⟨⟨hc1, hc2⟩, hc3⟩ := HYES.out (by unfold stabB; rw [among_all, decide_eq_true s1, decide_eq_true s2]; rfl)
              have HC3 := hide (show c + 1 = (stab (M.take (i + 1)) [] [] t).length from by rw [hc3, ← HC.out])
              have HDL := HD.out.l
              rw [HP.out] at HDL
              obtain ⟨lb, lof, lcap, he, -, m0, m1, m2, m3⟩ := HDL.at _ hc1
              rw [hc2, ← HC.out] at m0 m1 m2 m3
              rw [← HC.out, ← HP.out] at hc1
              rw [← HP.out] at he
              simp only [Value.slice.injEq, true_and] at he
              obtain ⟨rfl, rfl⟩ := he
              have q4 : ¬ (c : Int) ≥ (p : Int) := by omega
              have q5 : (c : Int) < (p : Int) := by omega
              have q6 : ¬ p ≤ c := by omega
              have hpp : p ≤ 998 := by rw [HP.out, HL.out]; exact Nat.le_trans (List.length_filter_le _ _) HFM.out.n
              clear hc2 hc3 HDL hHeld
              go_wp2_with fail
              obtain ⟨we, hwe⟩ : ∃ we, we = wd.drew := ⟨_, rfl⟩
              have HE := hide (show Sx PX R F2 M L (.slice (some ⟨b0, off, none⟩) n sc) (.slice (some ⟨lb, lof, none⟩) p lc) w we from by rw [hwe]; exact HD.out.later K (Below.refl _ _).drew)
              have neq := neI_no x
              refine wp_region_held_drew (S := fun u => (u.cell? ⟨b0, off + i * 4, none⟩ = some (.string (S x.k)) ∧ u.cell? ⟨b0, off + i * 4 + 1, none⟩ = some (.int .i64 x.s) ∧ u.cell? ⟨b0, off + i * 4 + 2, none⟩ = some (.int .i64 x.e) ∧ u.cell? ⟨b0, off + i * 4 + 3, none⟩ = some (.int .i64 x.id)) ∧ u.cell? ⟨lb, lof + c * 4, none⟩ = some (.string (S x.k)) ∧ u.cell? ⟨lb, lof + c * 4 + 1, none⟩ = some (.int .i64 x.s) ∧ u.cell? ⟨lb, lof + c * 4 + 2, none⟩ = some (.int .i64 x.e) ∧ u.cell? ⟨lb, lof + c * 4 + 3, none⟩ = some (.int .i64 x.id)) (by kernel_rfl) (by rw [← hwe, hwe]; exact ⟨⟨k0, k1, k2, k3⟩, m0, m1, m2, m3⟩) (fun hHeld => ?_)
              rw [← hwe] at hHeld ⊢
              clear hwe k0 k1 k2 k3 m0 m1 m2 m3 HD
              refine Man.t1 0 hHeld ?_
              (try simp only [Act.put, Mqa, Mqb, Mqc])
              refine Man.t1 1 hHeld ?_
              (try simp only [Act.put, Mqa, Mqb, Mqc])
              refine Man.t1 2 hHeld ?_
              (try simp only [Act.put, Mqa, Mqb, Mqc])
              refine Man.t1 3 hHeld ?_
              (try simp only [Act.put, Mqa, Mqb, Mqc])
              refine Man.t1 4 hHeld ?_
              (try simp only [Act.put, Mqa, Mqb, Mqc])
              refine Man.t1 5 hHeld ?_
              (try simp only [Act.put, Mqa, Mqb, Mqc])
              refine Man.t1 6 hHeld ?_
              (try simp only [Act.put, Mqa, Mqb, Mqc])
              refine Man.t1 7 hHeld ?_
              (try simp only [Act.put, Mqa, Mqb, Mqc])
              refine Man.t1 8 hHeld ?_
              (try simp only [Act.put, Mqa, Mqb, Mqc])
              refine Man.t1 9 hHeld ?_
              (try simp only [Act.put, Mqa, Mqb, Mqc])
              refine Man.t1 10 hHeld ?_
              (try simp only [Act.put, Mqa, Mqb, Mqc])
              refine Man.t1 11 hHeld ?_
              (try simp only [Act.put, Mqa, Mqb, Mqc])
              refine Man.t1 12 hHeld ?_
              (try simp only [Act.put, Mqa, Mqb, Mqc])
              refine Man.t1 13 hHeld ?_
              (try simp only [Act.put, Mqa, Mqb, Mqc])
              refine Man.t1 14 hHeld ?_
              (try simp only [Act.put, Mqa, Mqb, Mqc])
              refine wpAnyH_done (by kernel_rfl) ?_ _
              go_wp2_with fail
              go_roundw
              case rel => exact ⟨i + 1, c + 1, by go_num, by omega, by go_num, by omega, HC3, HE⟩
              case measure => simp [intOf]; omega
            · have HC3 := hide (show c = (stab (M.take (i + 1)) [] [] t).length from HC.out.trans (HNO.out (by unfold stabB; rw [decide_eq_false s2]; simp)).symm)
              clear hHeld
              go_wp2_with fail
              go_roundw
              case rel => exact ⟨i + 1, c, by go_num, by omega, rfl, hcp, HC3, HD⟩
              case measure => simp [intOf]; omega
          · have HC3 := hide (show c = (stab (M.take (i + 1)) [] [] t).length from HC.out.trans (HNO.out (by unfold stabB; rw [decide_eq_false s1]; simp)).symm)
            clear hHeld
            go_wp2_with fail
            go_roundw
            case rel => exact ⟨i + 1, c, by go_num, by omega, rfl, hcp, HC3, HD⟩
            case measure => simp [intOf]; omega
        · have e1 : Op.bytesLess x.k y.k = false := by rw [h1]; exact less_irrefl _
          have e2 : (y.k == x.k) = true := by rw [h1]; simp
          have e3 : ¬ y.s ≥ x.s := by omega
          clear hup h1 h2
          go_wp2_with fail
          refine wp_region_held_drew (S := fun u => u.cell? ⟨b0, off + j * 4, none⟩ = some (.string (S y.k)) ∧ u.cell? ⟨b0, off + j * 4 + 1, none⟩ = some (.int .i64 y.s) ∧ u.cell? ⟨b0, off + i * 4, none⟩ = some (.string (S x.k)) ∧ u.cell? ⟨b0, off + i * 4 + 1, none⟩ = some (.int .i64 x.s) ∧ u.cell? ⟨b0, off + i * 4 + 2, none⟩ = some (.int .i64 x.e) ∧ u.cell? ⟨b0, off + i * 4 + 3, none⟩ = some (.int .i64 x.id)) (by kernel_rfl) (by rw [← HWD.out]; exact ⟨y0, y1, k0, k1, k2, k3⟩) (fun hHeld => ?_)
          rw [← HWD.out] at hHeld ⊢
          refine Man.t1 0 hHeld ?_
          (try simp only [Act.put, Mqa, Mqb, Mqc])
          refine Man.t1 1 hHeld ?_
          (try simp only [Act.put, Mqa, Mqb, Mqc])
          refine Man.t1 2 hHeld ?_
          (try simp only [Act.put, Mqa, Mqb, Mqc])
          refine Man.t1 3 hHeld ?_
          (try simp only [Act.put, Mqa, Mqb, Mqc])
          refine Man.t1 4 hHeld ?_
          (try simp only [Act.put, Mqa, Mqb, Mqc])
          refine Man.t1 5 hHeld ?_
          (try simp only [Act.put, Mqa, Mqb, Mqc])
          refine Man.t1 6 hHeld ?_
          (try simp only [Act.put, Mqa, Mqb, Mqc])
          refine Man.t1 7 hHeld ?_
          (try simp only [Act.put, Mqa, Mqb, Mqc])
          refine Man.t1 8 hHeld ?_
          (try simp only [Act.put, Mqa, Mqb, Mqc])
          refine Man.t1 9 hHeld ?_
          (try simp only [Act.put, Mqa, Mqb, Mqc])
          refine Man.t1 10 hHeld ?_
          (try simp only [Act.put, Mqa, Mqb, Mqc])
          refine Man.t1 11 hHeld ?_
          (try simp only [Act.put, Mqa, Mqb, Mqc])
          refine Man.t1 12 hHeld ?_
          (try simp only [Act.put, Mqa, Mqb, Mqc])
          refine Man.t1 13 hHeld ?_
          (try simp only [Act.put, Mqa, Mqb, Mqc])
          refine Man.t1 14 hHeld ?_
          (try simp only [Act.put, Mqa, Mqb, Mqc])
          refine Man.t1 15 hHeld ?_
          (try simp only [Act.put, Mqa, Mqb, Mqc])
          refine Man.t1 16 hHeld ?_
          (try simp only [Act.put, Mqa, Mqb, Mqc])
          refine Man.t1 17 hHeld ?_
          (try simp only [Act.put, Mqa, Mqb, Mqc])
          refine Man.t1 18 hHeld ?_
          (try simp only [Act.put, Mqa, Mqb, Mqc])
          refine Man.t1 19 hHeld ?_
          (try simp only [Act.put, Mqa, Mqb, Mqc])
          refine Man.t1 20 hHeld ?_
          (try simp only [Act.put, Mqa, Mqb, Mqc])
          refine Man.t1 21 hHeld ?_
          (try simp only [Act.put, Mqa, Mqb, Mqc])
          refine Man.t1 22 hHeld ?_
          (try simp only [Act.put, Mqa, Mqb, Mqc])
          refine Man.t1 23 hHeld ?_
          (try simp only [Act.put, Mqa, Mqb, Mqc])
          refine Man.t1 24 hHeld ?_
          (try simp only [Act.put, Mqa, Mqb, Mqc])
          refine Man.t1 25 hHeld ?_
          (try simp only [Act.put, Mqa, Mqb, Mqc])
          refine Man.t1 26 hHeld ?_
          (try simp only [Act.put, Mqa, Mqb, Mqc])
          refine Man.t1 27 hHeld ?_
          (try simp only [Act.put, Mqa, Mqb, Mqc])
          refine Man.t1 28 hHeld ?_
          (try simp only [Act.put, Mqa, Mqb, Mqc])
          refine Man.t1 29 hHeld ?_
          (try simp only [Act.put, Mqa, Mqb, Mqc])
          refine Man.t1 30 hHeld ?_
          (try simp only [Act.put, Mqa, Mqb, Mqc])
          refine Man.t1 31 hHeld ?_
          (try simp only [Act.put, Mqa, Mqb, Mqc])
          refine Man.t1 32 hHeld ?_
          (try simp only [Act.put, Mqa, Mqb, Mqc])
          refine Man.t1 33 hHeld ?_
          (try simp only [Act.put, Mqa, Mqb, Mqc])
          refine Man.t1 34 hHeld ?_
          (try simp only [Act.put, Mqa, Mqb, Mqc])
          refine Man.t1 35 hHeld ?_
          (try simp only [Act.put, Mqa, Mqb, Mqc])
          refine Man.t1 36 hHeld ?_
          (try simp only [Act.put, Mqa, Mqb, Mqc])
          refine Man.t1 37 hHeld ?_
          (try simp only [Act.put, Mqa, Mqb, Mqc])
          refine Man.t1 38 hHeld ?_
          (try simp only [Act.put, Mqa, Mqb, Mqc])
          refine Man.t1 39 hHeld ?_
          (try simp only [Act.put, Mqa, Mqb, Mqc])
          refine Man.t1 40 hHeld ?_
          (try simp only [Act.put, Mqa, Mqb, Mqc])
          refine Man.t1 41 hHeld ?_
          (try simp only [Act.put, Mqa, Mqb, Mqc])
          refine Man.t1 42 hHeld ?_
          (try simp only [Act.put, Mqa, Mqb, Mqc])
          refine Man.t1 43 hHeld ?_
          (try simp only [Act.put, Mqa, Mqb, Mqc])
          refine wpAnyH_done (by kernel_rfl) ?_ _
          by_cases s1 : x.s ≤ t
          · by_cases s2 : t < x.e
            · obtain ⟨⟨hc1, hc2⟩, hc3⟩ := HYES.out (by unfold stabB; rw [among_all, decide_eq_true s1, decide_eq_true s2]; rfl)
              have HC3 := hide (show c + 1 = (stab (M.take (i + 1)) [] [] t).length from by rw [hc3, ← HC.out])
              have HDL := HD.out.l
              rw [HP.out] at HDL
              obtain ⟨lb, lof, lcap, he, -, m0, m1, m2, m3⟩ := HDL.at _ hc1
              rw [hc2, ← HC.out] at m0 m1 m2 m3
              rw [← HC.out, ← HP.out] at hc1
              rw [← HP.out] at he
              simp only [Value.slice.injEq, true_and] at he
              obtain ⟨rfl, rfl⟩ := he
              have q4 : ¬ (c : Int) ≥ (p : Int) := by omega
              have q5 : (c : Int) < (p : Int) := by omega
              have q6 : ¬ p ≤ c := by omega
              have hpp : p ≤ 998 := by rw [HP.out, HL.out]; exact Nat.le_trans (List.length_filter_le _ _) HFM.out.n
              clear hc2 hc3 HDL hHeld
              go_wp2_with fail
              obtain ⟨we, hwe⟩ : ∃ we, we = wd.drew := ⟨_, rfl⟩
              have HE := hide (show Sx PX R F2 M L (.slice (some ⟨b0, off, none⟩) n sc) (.slice (some ⟨lb, lof, none⟩) p lc) w we from by rw [hwe]; exact HD.out.later K (Below.refl _ _).drew)
              have neq := neI_no x
              refine wp_region_held_drew (S := fun u => (u.cell? ⟨b0, off + i * 4, none⟩ = some (.string (S x.k)) ∧ u.cell? ⟨b0, off + i * 4 + 1, none⟩ = some (.int .i64 x.s) ∧ u.cell? ⟨b0, off + i * 4 + 2, none⟩ = some (.int .i64 x.e) ∧ u.cell? ⟨b0, off + i * 4 + 3, none⟩ = some (.int .i64 x.id)) ∧ u.cell? ⟨lb, lof + c * 4, none⟩ = some (.string (S x.k)) ∧ u.cell? ⟨lb, lof + c * 4 + 1, none⟩ = some (.int .i64 x.s) ∧ u.cell? ⟨lb, lof + c * 4 + 2, none⟩ = some (.int .i64 x.e) ∧ u.cell? ⟨lb, lof + c * 4 + 3, none⟩ = some (.int .i64 x.id)) (by kernel_rfl) (by rw [← hwe, hwe]; exact ⟨⟨k0, k1, k2, k3⟩, m0, m1, m2, m3⟩) (fun hHeld => ?_)
              rw [← hwe] at hHeld ⊢
              clear hwe k0 k1 k2 k3 m0 m1 m2 m3 HD
              refine Man.t1 0 hHeld ?_
              (try simp only [Act.put, Mqa, Mqb, Mqc])
              refine Man.t1 1 hHeld ?_
              (try simp only [Act.put, Mqa, Mqb, Mqc])
              refine Man.t1 2 hHeld ?_
              (try simp only [Act.put, Mqa, Mqb, Mqc])
              refine Man.t1 3 hHeld ?_
              (try simp only [Act.put, Mqa, Mqb, Mqc])
              refine Man.t1 4 hHeld ?_
              (try simp only [Act.put, Mqa, Mqb, Mqc])
              refine Man.t1 5 hHeld ?_
              (try simp only [Act.put, Mqa, Mqb, Mqc])
              refine Man.t1 6 hHeld ?_
              (try simp only [Act.put, Mqa, Mqb, Mqc])
              refine Man.t1 7 hHeld ?_
              (try simp only [Act.put, Mqa, Mqb, Mqc])
              refine Man.t1 8 hHeld ?_
              (try simp only [Act.put, Mqa, Mqb, Mqc])
              refine Man.t1 9 hHeld ?_
              (try simp only [Act.put, Mqa, Mqb, Mqc])
              refine Man.t1 10 hHeld ?_
              (try simp only [Act.put, Mqa, Mqb, Mqc])
              refine Man.t1 11 hHeld ?_
              (try simp only [Act.put, Mqa, Mqb, Mqc])
              refine Man.t1 12 hHeld ?_
              (try simp only [Act.put, Mqa, Mqb, Mqc])
              refine Man.t1 13 hHeld ?_
              (try simp only [Act.put, Mqa, Mqb, Mqc])
              refine Man.t1 14 hHeld ?_
              (try simp only [Act.put, Mqa, Mqb, Mqc])
              refine wpAnyH_done (by kernel_rfl) ?_ _
              go_wp2_with fail
              go_roundw
              case rel => exact ⟨i + 1, c + 1, by go_num, by omega, by go_num, by omega, HC3, HE⟩
              case measure => simp [intOf]; omega
            · have HC3 := hide (show c = (stab (M.take (i + 1)) [] [] t).length from HC.out.trans (HNO.out (by unfold stabB; rw [decide_eq_false s2]; simp)).symm)
              clear hHeld
              go_wp2_with fail
              go_roundw
              case rel => exact ⟨i + 1, c, by go_num, by omega, rfl, hcp, HC3, HD⟩
              case measure => simp [intOf]; omega
          · have HC3 := hide (show c = (stab (M.take (i + 1)) [] [] t).length from HC.out.trans (HNO.out (by unfold stabB; rw [decide_eq_false s1]; simp)).symm)
            clear hHeld
            go_wp2_with fail
            go_roundw
            case rel => exact ⟨i + 1, c, by go_num, by omega, rfl, hcp, HC3, HD⟩
            case measure => simp [intOf]; omega
      · go_wp2_with fail
        refine wp_region_held_drew (S := fun u => u.cell? ⟨b0, off + i * 4, none⟩ = some (.string (S x.k)) ∧ u.cell? ⟨b0, off + i * 4 + 1, none⟩ = some (.int .i64 x.s) ∧ u.cell? ⟨b0, off + i * 4 + 2, none⟩ = some (.int .i64 x.e) ∧ u.cell? ⟨b0, off + i * 4 + 3, none⟩ = some (.int .i64 x.id)) (by kernel_rfl) (by rw [← HWD.out]; exact ⟨k0, k1, k2, k3⟩) (fun hHeld => ?_)
        rw [← HWD.out] at hHeld ⊢
        refine Man.t1 0 hHeld ?_
        (try simp only [Act.put, Mqa, Mqb, Mqc])
        refine Man.t1 1 hHeld ?_
        (try simp only [Act.put, Mqa, Mqb, Mqc])
        refine Man.t1 2 hHeld ?_
        (try simp only [Act.put, Mqa, Mqb, Mqc])
        refine Man.take0 (i := 3) rfl (by kernel_rfl) (by kernel_rfl) (by kernel_rfl) (fun _ _ _ h => h) (by rfl) hHeld ?_
        (try simp only [Act.put, Mqa, Mqb, Mqc])
        refine Man.take0 (i := 4) rfl (by kernel_rfl) (by kernel_rfl) (by kernel_rfl) (fun _ _ _ h => h) (by rfl) hHeld ?_
        (try simp only [Act.put, Mqa, Mqb, Mqc])
        refine Man.take0 (i := 5) rfl (by kernel_rfl) (by kernel_rfl) (by kernel_rfl) (fun _ _ _ h => h) (by rfl) hHeld ?_
        (try simp only [Act.put, Mqa, Mqb, Mqc])
        refine Man.take0 (i := 6) rfl (by kernel_rfl) (by kernel_rfl) (by kernel_rfl) (fun _ _ _ h => h) (by rfl) hHeld ?_
        (try simp only [Act.put, Mqa, Mqb, Mqc])
        refine Man.take0 (i := 7) rfl (by kernel_rfl) (by kernel_rfl) (by kernel_rfl) (fun _ _ _ h => h) (by rfl) hHeld ?_
        (try simp only [Act.put, Mqa, Mqb, Mqc])
        refine Man.take0 (i := 8) rfl (by kernel_rfl) (by kernel_rfl) (by kernel_rfl) (fun _ _ _ h => h) (by rfl) hHeld ?_
        (try simp only [Act.put, Mqa, Mqb, Mqc])
        refine Man.take0 (i := 9) rfl (by kernel_rfl) (by kernel_rfl) (by kernel_rfl) (fun _ _ _ h => h) (by rfl) hHeld ?_
        (try simp only [Act.put, Mqa, Mqb, Mqc])
        refine Man.take0 (i := 10) rfl (by kernel_rfl) (by kernel_rfl) (by kernel_rfl) (fun _ _ _ h => h) (by rfl) hHeld ?_
        (try simp only [Act.put, Mqa, Mqb, Mqc])
        refine Man.take0 (i := 11) rfl (by kernel_rfl) (by kernel_rfl) (by kernel_rfl) (fun _ _ _ h => h) (by rfl) hHeld ?_
        (try simp only [Act.put, Mqa, Mqb, Mqc])
        refine Man.take0 (i := 12) rfl (by kernel_rfl) (by kernel_rfl) (by kernel_rfl) (fun _ _ _ h => h) (by rfl) hHeld ?_
        (try simp only [Act.put, Mqa, Mqb, Mqc])
        refine Man.take0 (i := 13) rfl (by kernel_rfl) (by kernel_rfl) (by kernel_rfl) (fun _ _ _ h => h) (by rfl) hHeld ?_
        (try simp only [Act.put, Mqa, Mqb, Mqc])
        refine Man.take0 (i := 14) rfl (by kernel_rfl) (by kernel_rfl) (by kernel_rfl) (fun _ _ _ h => h) (by rfl) hHeld ?_
        (try simp only [Act.put, Mqa, Mqb, Mqc])
        refine Man.take0 (i := 15) rfl (by kernel_rfl) (by kernel_rfl) (by kernel_rfl) (fun _ _ _ h => h) (by rfl) hHeld ?_
        (try simp only [Act.put, Mqa, Mqb, Mqc])
        refine Man.take0 (i := 16) rfl (by kernel_rfl) (by kernel_rfl) (by kernel_rfl) (fun _ _ _ h => h) (by rfl) hHeld ?_
        (try simp only [Act.put, Mqa, Mqb, Mqc])
        refine Man.take0 (i := 17) rfl (by kernel_rfl) (by kernel_rfl) (by kernel_rfl) (fun _ _ _ h => h) (by rfl) hHeld ?_
        (try simp only [Act.put, Mqa, Mqb, Mqc])
        refine Man.take0 (i := 18) rfl (by kernel_rfl) (by kernel_rfl) (by kernel_rfl) (fun _ _ _ h => h) (by rfl) hHeld ?_
        (try simp only [Act.put, Mqa, Mqb, Mqc])
        refine Man.take0 (i := 19) rfl (by kernel_rfl) (by kernel_rfl) (by kernel_rfl) (fun _ _ _ h => h) (by rfl) hHeld ?_
        (try simp only [Act.put, Mqa, Mqb, Mqc])
        refine Man.take0 (i := 20) rfl (by kernel_rfl) (by kernel_rfl) (by kernel_rfl) (fun _ _ _ h => h) (by rfl) hHeld ?_
        (try simp only [Act.put, Mqa, Mqb, Mqc])
        refine Man.take0 (i := 21) rfl (by kernel_rfl) (by kernel_rfl) (by kernel_rfl) (fun _ _ _ h => h) (by rfl) hHeld ?_
        (try simp only [Act.put, Mqa, Mqb, Mqc])
        refine Man.take0 (i := 22) rfl (by kernel_rfl) (by kernel_rfl) (by kernel_rfl) (fun _ _ _ h => h) (by rfl) hHeld ?_
        (try simp only [Act.put, Mqa, Mqb, Mqc])
        refine Man.take0 (i := 23) rfl (by kernel_rfl) (by kernel_rfl) (by kernel_rfl) (fun _ _ _ h => h) (by rfl) hHeld ?_
        (try simp only [Act.put, Mqa, Mqb, Mqc])
        refine Man.take0 (i := 24) rfl (by kernel_rfl) (by kernel_rfl) (by kernel_rfl) (fun _ _ _ h => h) (by rfl) hHeld ?_
        (try simp only [Act.put, Mqa, Mqb, Mqc])
        refine Man.take0 (i := 25) rfl (by kernel_rfl) (by kernel_rfl) (by kernel_rfl) (fun _ _ _ h => h) (by rfl) hHeld ?_
        (try simp only [Act.put, Mqa, Mqb, Mqc])
        refine Man.take0 (i := 26) rfl (by kernel_rfl) (by kernel_rfl) (by kernel_rfl) (fun _ _ _ h => h) (by rfl) hHeld ?_
        (try simp only [Act.put, Mqa, Mqb, Mqc])
        refine Man.take0 (i := 27) rfl (by kernel_rfl) (by kernel_rfl) (by kernel_rfl) (fun _ _ _ h => h) (by rfl) hHeld ?_
        (try simp only [Act.put, Mqa, Mqb, Mqc])
        refine Man.take0 (i := 28) rfl (by kernel_rfl) (by kernel_rfl) (by kernel_rfl) (fun _ _ _ h => h) (by rfl) hHeld ?_
        (try simp only [Act.put, Mqa, Mqb, Mqc])
        refine Man.take0 (i := 29) rfl (by kernel_rfl) (by kernel_rfl) (by kernel_rfl) (fun _ _ _ h => h) (by rfl) hHeld ?_
        (try simp only [Act.put, Mqa, Mqb, Mqc])
        refine Man.take0 (i := 30) rfl (by kernel_rfl) (by kernel_rfl) (by kernel_rfl) (fun _ _ _ h => h) (by rfl) hHeld ?_
        (try simp only [Act.put, Mqa, Mqb, Mqc])
        refine Man.take0 (i := 31) rfl (by kernel_rfl) (by kernel_rfl) (by kernel_rfl) (fun _ _ _ h => h) (by rfl) hHeld ?_
        (try simp only [Act.put, Mqa, Mqb, Mqc])
        refine Man.take0 (i := 32) rfl (by kernel_rfl) (by kernel_rfl) (by kernel_rfl) (fun _ _ _ h => h) (by rfl) hHeld ?_
        (try simp only [Act.put, Mqa, Mqb, Mqc])
        refine Man.take0 (i := 33) rfl (by kernel_rfl) (by kernel_rfl) (by kernel_rfl) (fun _ _ _ h => h) (by rfl) hHeld ?_
        (try simp only [Act.put, Mqa, Mqb, Mqc])
        refine Man.take0 (i := 34) rfl (by kernel_rfl) (by kernel_rfl) (by kernel_rfl) (fun _ _ _ h => h) (by rfl) hHeld ?_
        (try simp only [Act.put, Mqa, Mqb, Mqc])
        refine Man.take0 (i := 35) rfl (by kernel_rfl) (by kernel_rfl) (by kernel_rfl) (fun _ _ _ h => h) (by rfl) hHeld ?_
        (try simp only [Act.put, Mqa, Mqb, Mqc])
        refine Man.take0 (i := 36) rfl (by kernel_rfl) (by kernel_rfl) (by kernel_rfl) (fun _ _ _ h => h) (by rfl) hHeld ?_
        (try simp only [Act.put, Mqa, Mqb, Mqc])
        refine Man.take0 (i := 37) rfl (by kernel_rfl) (by kernel_rfl) (by kernel_rfl) (fun _ _ _ h => h) (by rfl) hHeld ?_
        (try simp only [Act.put, Mqa, Mqb, Mqc])
        refine Man.take0 (i := 38) rfl (by kernel_rfl) (by kernel_rfl) (by kernel_rfl) (fun _ _ _ h => h) (by rfl) hHeld ?_
        (try simp only [Act.put, Mqa, Mqb, Mqc])
        refine Man.take0 (i := 39) rfl (by kernel_rfl) (by kernel_rfl) (by kernel_rfl) (fun _ _ _ h => h) (by rfl) hHeld ?_
        (try simp only [Act.put, Mqa, Mqb, Mqc])
        refine Man.take0 (i := 40) rfl (by kernel_rfl) (by kernel_rfl) (by kernel_rfl) (fun _ _ _ h => h) (by rfl) hHeld ?_
        (try simp only [Act.put, Mqa, Mqb, Mqc])
        refine Man.take0 (i := 41) rfl (by kernel_rfl) (by kernel_rfl) (by kernel_rfl) (fun _ _ _ h => h) (by rfl) hHeld ?_
        (try simp only [Act.put, Mqa, Mqb, Mqc])
        refine Man.take0 (i := 42) rfl (by kernel_rfl) (by kernel_rfl) (by kernel_rfl) (fun _ _ _ h => h) (by rfl) hHeld ?_
        (try simp only [Act.put, Mqa, Mqb, Mqc])
        refine Man.t1 43 hHeld ?_
        (try simp only [Act.put, Mqa, Mqb, Mqc])
        refine wpAnyH_done (by kernel_rfl) ?_ _
        by_cases s1 : x.s ≤ t
        · by_cases s2 : t < x.e
          · obtain ⟨⟨hc1, hc2⟩, hc3⟩ := HYES.out (by unfold stabB; rw [among_all, decide_eq_true s1, decide_eq_true s2]; rfl)
            have HC3 := hide (show c + 1 = (stab (M.take (i + 1)) [] [] t).length from by rw [hc3, ← HC.out])
            have HDL := HD.out.l
            rw [HP.out] at HDL
            obtain ⟨lb, lof, lcap, he, -, m0, m1, m2, m3⟩ := HDL.at _ hc1
            rw [hc2, ← HC.out] at m0 m1 m2 m3
            rw [← HC.out, ← HP.out] at hc1
            rw [← HP.out] at he
            simp only [Value.slice.injEq, true_and] at he
            obtain ⟨rfl, rfl⟩ := he
            have q4 : ¬ (c : Int) ≥ (p : Int) := by omega
            have q5 : (c : Int) < (p : Int) := by omega
            have q6 : ¬ p ≤ c := by omega
            have hpp : p ≤ 998 := by rw [HP.out, HL.out]; exact Nat.le_trans (List.length_filter_le _ _) HFM.out.n
            clear hc2 hc3 HDL hHeld
            go_wp2_with fail
            obtain ⟨we, hwe⟩ : ∃ we, we = wd.drew := ⟨_, rfl⟩
            have HE := hide (show Sx PX R F2 M L (.slice (some ⟨b0, off, none⟩) n sc) (.slice (some ⟨lb, lof, none⟩) p lc) w we from by rw [hwe]; exact HD.out.later K (Below.refl _ _).drew)
            have neq := neI_no x
            refine wp_region_held_drew (S := fun u => (u.cell? ⟨b0, off + i * 4, none⟩ = some (.string (S x.k)) ∧ u.cell? ⟨b0, off + i * 4 + 1, none⟩ = some (.int .i64 x.s) ∧ u.cell? ⟨b0, off + i * 4 + 2, none⟩ = some (.int .i64 x.e) ∧ u.cell? ⟨b0, off + i * 4 + 3, none⟩ = some (.int .i64 x.id)) ∧ u.cell? ⟨lb, lof + c * 4, none⟩ = some (.string (S x.k)) ∧ u.cell? ⟨lb, lof + c * 4 + 1, none⟩ = some (.int .i64 x.s) ∧ u.cell? ⟨lb, lof + c * 4 + 2, none⟩ = some (.int .i64 x.e) ∧ u.cell? ⟨lb, lof + c * 4 + 3, none⟩ = some (.int .i64 x.id)) (by kernel_rfl) (by rw [← hwe, hwe]; exact ⟨⟨k0, k1, k2, k3⟩, m0, m1, m2, m3⟩) (fun hHeld => ?_)
            rw [← hwe] at hHeld ⊢
            clear hwe k0 k1 k2 k3 m0 m1 m2 m3 HD
            refine Man.t1 0 hHeld ?_
            (try simp only [Act.put, Mqa, Mqb, Mqc])
            refine Man.t1 1 hHeld ?_
            (try simp only [Act.put, Mqa, Mqb, Mqc])
            refine Man.t1 2 hHeld ?_
            (try simp only [Act.put, Mqa, Mqb, Mqc])
            refine Man.t1 3 hHeld ?_
            (try simp only [Act.put, Mqa, Mqb, Mqc])
            refine Man.t1 4 hHeld ?_
            (try simp only [Act.put, Mqa, Mqb, Mqc])
            refine Man.t1 5 hHeld ?_
            (try simp only [Act.put, Mqa, Mqb, Mqc])
            refine Man.t1 6 hHeld ?_
            (try simp only [Act.put, Mqa, Mqb, Mqc])
            refine Man.t1 7 hHeld ?_
            (try simp only [Act.put, Mqa, Mqb, Mqc])
            refine Man.t1 8 hHeld ?_
            (try simp only [Act.put, Mqa, Mqb, Mqc])
            refine Man.t1 9 hHeld ?_
            (try simp only [Act.put, Mqa, Mqb, Mqc])
            refine Man.t1 10 hHeld ?_
            (try simp only [Act.put, Mqa, Mqb, Mqc])
            refine Man.t1 11 hHeld ?_
            (try simp only [Act.put, Mqa, Mqb, Mqc])
            refine Man.t1 12 hHeld ?_
            (try simp only [Act.put, Mqa, Mqb, Mqc])
            refine Man.t1 13 hHeld ?_
            (try simp only [Act.put, Mqa, Mqb, Mqc])
            refine Man.t1 14 hHeld ?_
            (try simp only [Act.put, Mqa, Mqb, Mqc])
            refine wpAnyH_done (by kernel_rfl) ?_ _
            go_wp2_with fail
            go_roundw
            case rel => exact ⟨i + 1, c + 1, by go_num, by omega, by go_num, by omega, HC3, HE⟩
            case measure => simp [intOf]; omega
          · have HC3 := hide (show c = (stab (M.take (i + 1)) [] [] t).length from HC.out.trans (HNO.out (by unfold stabB; rw [decide_eq_false s2]; simp)).symm)
            clear hHeld
            go_wp2_with fail
            go_roundw
            case rel => exact ⟨i + 1, c, by go_num, by omega, rfl, hcp, HC3, HD⟩
            case measure => simp [intOf]; omega
        · have HC3 := hide (show c = (stab (M.take (i + 1)) [] [] t).length from HC.out.trans (HNO.out (by unfold stabB; rw [decide_eq_false s1]; simp)).symm)
          clear hHeld
          go_wp2_with fail
          go_roundw
          case rel => exact ⟨i + 1, c, by go_num, by omega, rfl, hcp, HC3, HD⟩
          case measure => simp [intOf]; omega
    · obtain rfl : i = n := by omega
      have g1 : ¬ (i : Int) < (i : Int) := by omega
      have hcq : c = p := by rw [HC.out, HN.out, List.take_length, HP.out, HL.out]
      obtain rfl := hcq
      clear hcp hi hge
      by_cases h0 : t < 0
      · have q0 : ((c : Int) == 0) = true := by
          have : c = 0 := by rw [HP.out, HL.out, stab_wild HFM.out.ok t (.inl h0)]; rfl
          rw [this]; rfl
        go_wp2_with fail
        refine (known_any K _).mono ?_
        rintro e w9 ⟨rfl, hb⟩
        have B9 := hide (HS.out.b.trans (hb.mono HS.out.b.size))
        clear hb
        go_wp2_with fail
        go_ret
        exact ⟨rfl, B9.out⟩

      · by_cases h1 : t ≥ 1099511627776
        · have q0 : ((c : Int) == 0) = true := by
            have : c = 0 := by rw [HP.out, HL.out, stab_wild HFM.out.ok t (.inr h1)]; rfl
            rw [this]; rfl
          go_wp2_with fail
          refine (known_any K _).mono ?_
          rintro e w9 ⟨rfl, hb⟩
          have B9 := hide (HS.out.b.trans (hb.mono HS.out.b.size))
          clear hb
          go_wp2_with fail
          go_ret
          exact ⟨rfl, B9.out⟩

        · have HOV := hide (stab_over HFM.out.ok t (by omega) (by omega))
          have HIO := hide (show In64 (t + 1) from by unfold In64; omega)
          obtain ⟨t1, ht1⟩ : ∃ t1, t1 = t + 1 := ⟨_, rfl⟩
          have HT1 := hide ht1
          rw [← ht1] at HOV HIO
          clear ht1
          go_wp2_with fail
          rw [← HT1.out]
          refine (K.over HS.out.x HFM.out [] [] t t1 (by decide) (by decide) HT64.out HIO.out).mono ?_
          rintro e w5 ⟨vc, rfl, ha, _, hb⟩
          rw [HOV.out, ← HL.out] at ha
          obtain ⟨mo, mc, rfl, _, _⟩ := ha.form
          have HS5 := hide (HS.out.later K hb)
          have A5 := hide ha
          clear ha hb HS
          rw [← HP.out] at A5 ⊢
          go_wp2_with fail
          refine (plain_any A5.out (show L.length ≤ 1000 from by rw [HL.out]; exact Nat.le_trans (List.length_filter_le _ _) (by have := HFM.out.n; omega))).mono ?_
          rintro e w6 ⟨vd, rfl, ha, hb⟩
          have A6 := hide ha
          have HS6 := hide (HS5.out.later K hb)
          clear ha hb HS5 A5
          go_wp2_with fail
          refine (plain_any HS6.out.l (show L.length ≤ 1000 from by rw [HL.out]; exact Nat.le_trans (List.length_filter_le _ _) (by have := HFM.out.n; omega))).mono ?_
          rintro e w7 ⟨ve, rfl, ha, hb⟩
          have A7 := hide ha
          have HS7 := hide (HS6.out.later K hb)
          have A76 := hide (A6.out.later hb (Nat.le_refl _))
          clear ha hb HS6 A6
          go_wp2_with fail
          refine (same_any A76.out A7.out (show L.length ≤ 1000 from by rw [HL.out]; exact Nat.le_trans (List.length_filter_le _ _) (by have := HFM.out.n; omega))).mono ?_
          rintro e w8 ⟨rfl, hb⟩
          rw [decide_eq_true (rfl : L = L)]
          have HS := hide (HS7.out.later K hb)
          clear hb HS7 A7 A76
          go_wp2_with fail
          refine (known_any K _).mono ?_
          rintro e w9 ⟨rfl, hb⟩
          have B9 := hide (HS.out.b.trans (hb.mono HS.out.b.size))
          clear hb
          go_wp2_with fail
          go_ret
          exact ⟨rfl, B9.out⟩

theorem laidOut : laidOutB Try.prog = true := by kernel_rfl
set_option maxRecDepth 100000 in
theorem contract (H : Type) (enc : TypeId × Value → H) (W : World) (base : Nat) (args : Array Value) (ds gs : List (DataW H)) (before : List MemPlace)
    (hval : ∀ (j : Nat) t v, Try.f5.params[j]? = some t → args[j]? = some v → Value.okWide Try.prog W .any base t v)
    (hW : DataW.Whole enc Try.prog Try.f5.params.toList Rows.indexStabsSpec.vars false W args.toList ds gs before)
    (hsz0 : (DataW.weightsEach Try.prog (Try.f5.params.toList ++ Rows.indexStabsSpec.plain.varTypes Try.prog) (ds ++ gs)).all (· ≤ reachBytes) = true) :
    Calls Try.prog 5 args W fun e W' => ∃ v, e = .returned v ∧ Rows.indexStabsSpec.post enc Try.prog Try.f5 false true false false W args v W' := by
  have hW' := hW
  obtain ⟨p, q, hA0, hV, rfl, hfz, hnd⟩ := hW
  have hA : DataW.TrodAll enc Try.prog W 0 (fun _ => true) true Try.f5.params.toList args.toList ds p := hA0
  rw [Try.params5] at hA hval hsz0
  obtain ⟨v0, vs0, d0, ds0, p0, q0, hargs, rfl, rfl, h0, r0⟩ := trodAll_cons hA
  obtain ⟨v1, vs1, d1, ds1, p1, q1, rfl, rfl, rfl, h1, r1⟩ := trodAll_cons r0
  obtain ⟨rfl, rfl, rfl⟩ := trodAll_nil r1
  obtain rfl : args = #[v0, v1] := by cases args; simp_all
  obtain ⟨rfl, rfl⟩ := trodVars_none hV
  have hsz := fun n hn => of_decide_eq_true (List.all_eq_true.1 hsz0 n hn)
  obtain ⟨t, rfl, hd1, hp1, wt⟩ := open_int Try.underlying3 (hval 1 3 v1 rfl rfl) h1
  have bt := bounds_i64 wt
  obtain ⟨l, hml, hil⟩ := Idx.open_ops (hval 0 22 v0 rfl rfl) h0 (fun n hn => hsz n (DataW.weights_mem_each (j := 0) (t := 22) rfl rfl n hn))
  clear hA0 hsz0
  simp only [List.append_nil] at hW'
  have hlt : ∀ x ∈ p0 ++ p1, x.block < W.heap.size := fun x hx => hW'.lt x (by simpa using hx)
  have walk := walk_stabs con_px hml hil t bt
  refine walk.mono fun e W' ⟨he, hg⟩ => ?_
  subst he
  refine ⟨_, rfl, Fr.post_made (pa := p0 ++ p1) (pv := []) hW' (fun _ _ _ => trodAll_cons_mk (shut_bool Try.underlying4 _) trodAll_mk0) (fun sp hsp => ?_) (fun _ _ => rfl) (by simp) hg (ok_one (by kernel_rfl) rfl (okWide_bool_mk Try.underlying4 _))⟩
  have g0 : DataW.Trod enc Try.prog W' 0 sp true 22 _ d0 p0 := WideElems.Trod_stays laidOut (by kernel_rfl) (of_decide_eq_true (by kernel_rfl)) h0 (fun x hx => hg.same (hlt x (by simp [hx]))) (fun x hx => hsp x (by simp [hx]))
  have g1 : DataW.Trod enc Try.prog W' 0 sp true 3 _ d1 p1 := WideElems.Trod_stays laidOut (by kernel_rfl) (of_decide_eq_true (by kernel_rfl)) h1 (fun x hx => hg.same (hlt x (by simp [hx]))) (fun x hx => hsp x (by simp [hx]))
  have hT := (trodAll_cons_mk g0 (trodAll_cons_mk g1 trodAll_mk0))
  simp only [List.append_nil] at hT
  exact hT
set_option maxRecDepth 100000 in
theorem lifted (os : Os) (started : os.Started) (H : Type) (enc : TypeId × Value → H) :
    ReturnsInHanded {} Try.checked os 5 .any (Rows.indexStabsSpec.pre6 enc Try.prog Try.f5 Rows.indexStabsRow.domain false) (Rows.indexStabsSpec.post enc Try.prog Try.f5 false true false false) := by
  refine returnsInHanded_of_change_sized (C := Try.checked) Fr.own started (by kernel_rfl) Try.func5
    (ChangeSpec.witness6 (enc := enc) (C := Try.checked) false ⟨#[], #[.slice none 0 0, .int .i64 0], []⟩ 8 (by kernel_rfl) (by kernel_rfl) (by kernel_rfl) (by kernel_rfl)) ?_
  intro W base args ds gs before hval hW _ hsz _
  exact contract H enc W base args ds gs before hval hW hsz
theorem said : Rows.IndexStabsSaid :=
  OpenClaim.holds_of_wide 5 Try.f5 rfl rfl rfl rfl rfl rfl rfl ⟨rfl, rfl, rfl, rfl, rfl⟩ rfl rfl rfl rfl rfl (by kernel_rfl) Try.func5 (by kernel_rfl)
    (of_decide_eq_true (by kernel_rfl)) (by unfold Func.isWrapper; first | (rw [if_pos (by decide +kernel)]; kernel_rfl) | (rw [if_neg (by decide +kernel)]; exact ⟨rfl, rfl⟩))
    (fun os started H enc _ => lifted os started H enc)
end LaIndexStabs
end Go.Proofs.Ytapdhelioecneaa
