/- IndexCloses: an item that is closed is found ahead of its end as before, and no more from it on; no other item changes: for all scripts of calls, all calls, all times. No other condition. -/
import Derived.Test.YtapdhelioecneaaJpl0
import Derived.Test.YtapdhelioecneaaWy
import Derived.Test.YtapdhelioecneaaFra
import Derived.WideKeyPair
import Derived.SizedLaws
namespace Go.Proofs.Ytapdhelioecneaa
open Go.ChangeShapes Go.WideShapes Go.ChangeAt Go.RowKit
open Go.ChangeMaps (open_string shut_string)
namespace LaIndexCloses
open Idx
/-- The index, what was told, the call's box. -/
structure Cg (PX : Nat → Int → (Nat → Prop) → List It → World → Prop) (R : Nat) (F : Nat → Prop) (M WAS : List It) (va : Value) (o : Opv) (bo : Nat) (w0 w : World) : Prop where
  x : PX R 2 F M w
  f : ∀ k, F k → w0.heap.size ≤ k
  a : ItemsAt WAS va w
  n : Off WAS va F w
  ob : OB o bo w
  lo : bo < w.heap.size ∧ ¬ F bo
  b : Below w0.heap.size w0 w
theorem Cg.later {PX : Nat → Int → (Nat → Prop) → List It → World → Prop} (K : Con PX) {R : Nat} {F : Nat → Prop} {M WAS : List It} {va : Value} {o : Opv} {bo : Nat} {w0 w w' : World} (h : Cg PX R F M WAS va o bo w0 w) (hb : Below w.heap.size w w') : Cg PX R F M WAS va o bo w0 w' :=
  ⟨K.later h.x hb (Nat.le_refl _), h.f, h.a.later hb (Nat.le_refl _), h.n.later hb.size, h.ob.kept (hb.block bo h.lo.1), ⟨Nat.lt_of_lt_of_le h.lo.1 hb.size, h.lo.2⟩, h.b.trans (hb.mono h.b.size)⟩
theorem Cg.chg {PX : Nat → Int → (Nat → Prop) → List It → World → Prop} {R : Nat} {F : Nat → Prop} {M M' WAS : List It} {va : Value} {o : Opv} {bo : Nat} {w0 w w' : World} {c : Int} {e : Ending} {x : It} {bi : Nat} (h : Cg PX R F M WAS va o bo w0 w) (hx : Bx x bi w) (hi : ¬ F bi) (hc : ChgX PX R 2 F c M' w e w') :
    e = .returned (.int .i64 c) ∧ Bx x bi w' ∧ ∃ F', Cg PX R F' M' WAS va o bo w0 w' := by
  obtain ⟨h1, F', h2, h3, h4, h5⟩ := hc.next h.b h.f
  obtain ⟨h6, h7⟩ := h.a.to h.n h5
  refine ⟨h1, hx.kept h5.size (h5.keeps hx.lt hi), F', h2, h3, h6, h7, h.ob.kept (h5.keeps h.lo.1 h.lo.2), ⟨Nat.lt_of_lt_of_le h.lo.1 h5.size, fun e9 => ?_⟩, h4⟩
  rcases h5.2.2 bo e9 with e8 | e8
  · exact h.lo.2 e8
  · have := h.lo.1; omega
/-- What becomes of an item that was told. -/
def nowG (x : It) (t e : Int) (y : It) : Option It := if y = x then (if e ≤ t then none else some ⟨y.k, y.s, e, y.id⟩) else some y
theorem filt_map (P : It → Bool) (f : It → It) (g : It → Option It) : ∀ M : List It, (∀ y, y ∈ M → (P y = true → g y = if P (f y) = true then some (f y) else none) ∧ (P y = false → P (f y) = false)) → (M.map f).filter P = (M.filter P).filterMap g
  | [], _ => rfl
  | y :: M, h => by
    have ih := filt_map P f g M (fun z hz => h z (List.mem_cons_of_mem _ hz))
    obtain ⟨h1, h2⟩ := h y List.mem_cons_self
    rw [List.map_cons, List.filter_cons, List.filter_cons]
    cases hp : P y with
    | true =>
      have h3 := h1 hp
      rw [if_pos rfl, List.filterMap_cons, h3, ih]
      cases hq : P (f y) <;> simp
    | false =>
      rw [h2 hp, ih]
      simp
theorem now_is {M : List It} (h : Ok M) {k : List UInt8} {s e t : Int} {x : It} (hg : getI M k s = some x) (hx : x.e = 1099511627776) (he2 : e < 1099511627776) : stab (clo M k s e) [] [] t = (stab M [] [] t).filterMap (nowG x t e) := by
  unfold stab clo
  refine filt_map _ _ _ M (fun y hy => ?_)
  obtain ⟨hxm, hxk, hxs⟩ := (getI_iff h.up).1 hg
  by_cases hyx : y.k = k ∧ y.s = s
  · have hy2 : y = x := by
      have := (getI_iff h.up).2 ⟨hy, hyx.1, hyx.2⟩
      rw [hg] at this
      exact (Option.some.inj this).symm
    subst hy2
    rw [if_pos hyx]
    unfold nowG stabB
    rw [if_pos rfl, among_all, hx]
    constructor
    · intro h1
      rw [Bool.true_and, Bool.and_eq_true, decide_eq_true_iff, decide_eq_true_iff] at h1
      by_cases h2 : e ≤ t
      · rw [if_pos h2, if_neg (by rw [decide_eq_false (show ¬ t < e by omega)]; simp)]
      · rw [if_neg h2, if_pos (by rw [decide_eq_true h1.1, decide_eq_true (show t < e by omega)]; rfl)]
    · intro h1
      rw [Bool.true_and, Bool.and_eq_false_iff, decide_eq_false_iff_not, decide_eq_false_iff_not] at h1
      rw [Bool.true_and, Bool.and_eq_false_iff, decide_eq_false_iff_not, decide_eq_false_iff_not]
      show ¬ y.s ≤ t ∨ ¬ t < e
      omega
  · rw [if_neg hyx]
    have hne : y ≠ x := fun e9 => hyx (by rw [e9]; exact ⟨hxk, hxs⟩)
    unfold nowG
    rw [if_neg hne]
    exact ⟨fun h1 => by rw [if_pos h1], fun h1 => h1⟩
theorem fm_next {g : It → Option It} {L : List It} {i : Nat} (hi : i < L.length) {z : It} (hz : g L[i] = some z) : ∃ h : ((L.take i).filterMap g).length < (L.filterMap g).length, (L.filterMap g)[((L.take i).filterMap g).length] = z := by
  have e : L.filterMap g = (L.take i).filterMap g ++ z :: (L.drop (i + 1)).filterMap g := by
    conv => lhs; rw [← List.take_append_drop i L, List.drop_eq_getElem_cons hi, List.filterMap_append, List.filterMap_cons, hz]
  refine ⟨by rw [e, List.length_append, List.length_cons]; omega, ?_⟩
  have key : ∀ (b : List It) (n : Nat) (hn : n < b.length), b[n]? = some z → b[n] = z := fun b n hn h9 => by rw [List.getElem?_eq_getElem hn] at h9; exact Option.some.inj h9
  refine key _ _ _ ?_
  conv => lhs; rw [e]
  rw [List.getElem?_append_right (Nat.le_refl _), Nat.sub_self]; rfl
theorem fm_yes {g : It → Option It} {L : List It} {i : Nat} (hi : i < L.length) {z : It} (hz : g L[i] = some z) : ((L.take (i + 1)).filterMap g).length = ((L.take i).filterMap g).length + 1 := by
  rw [List.take_succ_eq_append_getElem hi, List.filterMap_append, List.filterMap_cons, hz, List.length_append]; rfl
theorem fm_no {g : It → Option It} {L : List It} {i : Nat} (hi : i < L.length) (hz : g L[i] = none) : ((L.take (i + 1)).filterMap g).length = ((L.take i).filterMap g).length := by
  rw [List.take_succ_eq_append_getElem hi, List.filterMap_append, List.filterMap_cons, hz, List.length_append]; rfl
/-- What was told, what is told now, the boxes: what holds all along the loop. -/
structure Cl (WAS NOW : List It) (va vn : Value) (o : Opv) (bo : Nat) (x : It) (bi : Nat) (w0 w : World) : Prop where
  a : ItemsAt WAS va w
  n : ItemsAt NOW vn w
  c3 : w.cell? ⟨bo, 3, none⟩ = some (.int .i64 o.i.e)
  lo : bo < w.heap.size
  bx : Bx x bi w
  b : Below w0.heap.size w0 w
theorem Cl.later {WAS NOW : List It} {va vn : Value} {o : Opv} {bo : Nat} {x : It} {bi : Nat} {w0 w w' : World} (h : Cl WAS NOW va vn o bo x bi w0 w) (hb : Below w.heap.size w w') : Cl WAS NOW va vn o bo x bi w0 w' :=
  ⟨h.a.later hb (Nat.le_refl _), h.n.later hb (Nat.le_refl _), by rw [hb.cell (p := ⟨bo, 3, none⟩) h.lo]; exact h.c3, Nat.lt_of_lt_of_le h.lo hb.size, h.bx.later hb h.bx.lt, h.b.trans (hb.mono h.b.size)⟩
theorem clo_why {M : List It} {k : List UInt8} {s e fc : Int} {x : It} (hx : x = gotI (getI M k s)) (hf : fc = gotC (getI M k s)) (hg : cloC M k s e ≠ 0) : fc = 4 ∨ (fc = 0 ∧ x.e ≠ 1099511627776) ∨ (fc = 0 ∧ x.e = 1099511627776 ∧ e ≤ x.s) ∨ (fc = 0 ∧ x.e = 1099511627776 ∧ ¬ e ≤ x.s ∧ e ≥ 1099511627776) := by
  unfold cloC at hg
  cases h : getI M k s with
  | none => exact .inl (by rw [hf, h]; rfl)
  | some y =>
    have h1 : x = y := by rw [hx, h]; rfl
    have h2 : fc = 0 := by rw [hf, h]; rfl
    obtain ⟨_, _, _, h3⟩ := getI_some h
    rw [h] at hg
    dsimp only at hg
    rw [h1, h3]
    by_cases h4 : y.e = 1099511627776
    · rw [if_neg (by omega)] at hg
      split at hg
      · omega
      · exact absurd rfl hg
    · exact .inr (.inl ⟨h2, h4⟩)
set_option maxHeartbeats 8000000 in
set_option maxRecDepth 100000 in
theorem walk_closes {PX : Nat → Int → (Nat → Prop) → List It → World → Prop} (K : Con PX) {l : List Opv} {sl : Value} {w : World} (h : OpsAt l sl w) (hin : ∀ o ∈ l, o.inn) (o : Opv) (ho : o.inn) (t : Int) (ht : In64 t) :
    Calls Try.prog 8 #[sl, .agg #[.int .i64 o.kind, .string (S o.i.k), .int .i64 o.i.s, .int .i64 o.i.e, .int .i64 o.i.id, .string (S o.hi), .int .i64 o.t, .int .i64 o.u], .int .i64 t] w fun e w' => e = .returned (.bool true) ∧ Below w.heap.size w w' := by
  have HIN := hide hin
  have HO := hide ho
  have HT := hide ht
  obtain ⟨wb, hwb⟩ : ∃ wb, wb = w.alloc (.cells #[.int .i64 o.kind, .string (S o.i.k), .int .i64 o.i.s, .int .i64 o.i.e, .int .i64 o.i.id, .string (S o.hi), .int .i64 o.t, .int .i64 o.u] 33) := ⟨_, rfl⟩
  have HBW := hide (show Below w.heap.size w wb from by rw [hwb]; exact below_alloc _ _)
  have HA := hide (h.later HBW.out (Nat.le_refl _))
  obtain ⟨bo, hbo⟩ : ∃ bo, bo = w.heap.size := ⟨_, rfl⟩
  have HOB := hide (show OB o bo wb ∧ bo < wb.heap.size from by rw [hwb, hbo]; exact ⟨OB.new o w 33, by simp⟩)
  have HWB := hide hwb
  have HBO := hide hbo
  clear h hin ho ht hwb hbo
  go_enter Try.func8, Try.ntmps8
  go_wp2_with fail
  rw [← HWB.out, ← HBO.out]
  refine (K.new 2 _ (by kernel_rfl)).mono ?_
  rintro e w1 ⟨R, F1, rfl, hp, hf, hb⟩
  have P1 := hide hp
  have G1 := hide hf
  have B1 := hide hb
  have OB1 := hide (HOB.out.1.kept (hb.block bo HOB.out.2))
  clear hp hf hb
  obtain ⟨-, o1, -, -, -, -, -, -⟩ := OB1.out
  rcases Nat.lt_or_ge 100 o.i.k.length with hk | hk
  · have q3 : (100 : Int) < (o.i.k.length : Int) := by omega
    go_wp2_with fail
    refine (known_any K _).mono ?_
    rintro e w9 ⟨rfl, hb⟩
    have B9 := hide (HBW.out.trans ((B1.out.trans (hb.mono B1.out.size)).mono HBW.out.size))
    clear hb
    go_wp2_with fail
    go_ret
    exact ⟨rfl, B9.out⟩
  · have q3 : ¬ (100 : Int) < (o.i.k.length : Int) := by omega
    have HKL := hide (show o.i.k.length ≤ 140737488351232 by omega)
    go_wp2_with fail
    refine (build_any K HA.out HIN.out B1.out P1.out G1.out (fit_nil _)).mono ?_
    rintro e w2 ⟨rfl, F2, hp, ht⟩
    have P2 := hide hp
    have hB2 : Below wb.heap.size wb w2 := B1.out.trans (ht.1.below G1.out B1.out.size)
    have G2 := hide (show ∀ k, F2 k → wb.heap.size ≤ k from fun k hk => (ht.2.2 k hk).elim (fun e9 => G1.out k e9) (fun e9 => Nat.le_trans B1.out.size e9.1))
    have OB2 := hide (HOB.out.1.kept (hB2.block bo HOB.out.2))
    have HLO := hide (show bo < w2.heap.size ∧ ¬ F2 bo from ⟨Nat.lt_of_lt_of_le HOB.out.2 hB2.size, fun e9 => by have := G2.out bo e9; have := HOB.out.2; omega⟩)
    have B2 := hide (HBW.out.trans (hB2.mono HBW.out.size))
    have HFM := hide (show Fit 997 (buildL [] l) from (((fit_nil 700).steps (l.take 200) (fun o ho => HIN.out o (List.mem_of_mem_take ho))).mono (by rw [List.length_take]; omega)))
    clear hp ht P1 B1 hB2 q3 hk o1 OB1
    obtain ⟨M, hM⟩ : ∃ M, M = buildL [] l := ⟨_, rfl⟩
    rw [← hM] at P2 HFM
    clear hM
    have HF8 := hide (HFM.out.mono (show 997 ≤ 998 by decide))
    go_wp2_with fail
    refine (K.stab P2.out HF8.out [] [] t (by decide) (by decide) HT.out).mono ?_
    rintro e w3 ⟨va, rfl, ha, hown, hb⟩
    have T3 := hide (show Cg PX R F2 M (stab M [] [] t) va o bo w w3 from ⟨K.later P2.out hb (Nat.le_refl _), fun k hk => Nat.le_trans HBW.out.size (G2.out k hk), ha, fun hL g hg => ⟨(hown hL g hg).2, fun e9 => by have := K.fl P2.out g e9; have := (hown hL g hg).1; omega⟩, OB2.out.kept (hb.block bo HLO.out.1), ⟨Nat.lt_of_lt_of_le HLO.out.1 hb.size, HLO.out.2⟩, B2.out.trans (hb.mono B2.out.size)⟩)
    clear ha hown hb P2 G2 OB2 HLO B2
    obtain ⟨WAS, hWAS⟩ : ∃ WAS, WAS = stab M [] [] t := ⟨_, rfl⟩
    rw [← hWAS] at T3
    have HWAS := hide hWAS
    clear hWAS
    obtain ⟨-, o1, o2, -, -, -, -, -⟩ := T3.out.ob
    go_wp2_with fail
    refine (K.get T3.out.x HF8.out o.i.k o.i.s HKL.out HO.out.i.s).mono ?_
    intro e w4 h9
    obtain ⟨rfl, hb⟩ : e = .returned (.tuple #[.agg #[.string (S (gotI (getI M o.i.k o.i.s)).k), .int .i64 (gotI (getI M o.i.k o.i.s)).s, .int .i64 (gotI (getI M o.i.k o.i.s)).e, .int .i64 (gotI (getI M o.i.k o.i.s)).id], .int .i64 (gotC (getI M o.i.k o.i.s))]) ∧ Below w3.heap.size w3 w4 := h9
    have T4 := hide (T3.out.later K hb)
    clear hb T3 o1 o2
    obtain ⟨x, hx⟩ : ∃ x, x = gotI (getI M o.i.k o.i.s) := ⟨_, rfl⟩
    obtain ⟨fc, hfc⟩ : ∃ fc, fc = gotC (getI M o.i.k o.i.s) := ⟨_, rfl⟩
    rw [← hx, ← hfc]
    have HX := hide hx
    have HFC := hide hfc
    clear hx hfc
    obtain ⟨bi, hbi⟩ : ∃ bi, bi = w4.heap.size := ⟨_, rfl⟩
    obtain ⟨w5, hw5⟩ : ∃ w5, w5 = w4.alloc (.cells #[.string (S x.k), .int .i64 x.s, .int .i64 x.e, .int .i64 x.id] 31) := ⟨_, rfl⟩
    have HB5 := hide (show Bx x bi w5 ∧ ¬ F2 bi from by rw [hw5, hbi]; exact ⟨Bx.new w4 x 31, fun e9 => by have := K.fl T4.out.x _ e9; omega⟩)
    have T5 := hide (show Cg PX R F2 M WAS va o bo w w5 from by rw [hw5]; exact T4.out.later K (below_alloc w4 _))
    obtain ⟨-, o1, o2, o3, -, -, -, -⟩ := T5.out.ob
    have HW5 := hide hw5
    have HBI := hide hbi
    rw [hw5] at o1 o2 o3
    clear hw5 hbi T4
    go_wp2_with fail
    rw [← HW5.out, ← HBI.out]
    refine (K.close T5.out.x HF8.out o.i.k o.i.s o.i.e HKL.out HO.out.i.s HO.out.i.e).mono ?_
    intro e w6 hc
    obtain ⟨rfl, hbx, F3, hcg⟩ := T5.out.chg HB5.out.1 HB5.out.2 hc
    have T6 := hide hcg
    have HB6 := hide hbx
    clear hc hcg hbx o1 o2 o3 T5 HB5
    obtain ⟨g, hg⟩ : ∃ g, g = cloC M o.i.k o.i.s o.i.e := ⟨_, rfl⟩
    obtain ⟨M', hM'⟩ : ∃ M', M' = cloL M o.i.k o.i.s o.i.e := ⟨_, rfl⟩
    rw [← hM'] at T6
    rw [← hg]
    have HG := hide hg
    have HM' := hide hM'
    have HF9 := hide (show Fit 998 M' from by rw [hM']; exact (HFM.out.clo _ _ _).mono (by decide))
    clear hg hM'
    go_wp2_with fail
    refine (K.stab T6.out.x HF9.out [] [] t (by decide) (by decide) HT.out).mono ?_
    rintro e w7 ⟨vn, rfl, ha, _, hb⟩
    have T7 := hide (show Cl WAS (stab M' [] [] t) va vn o bo x bi w w7 from ⟨T6.out.a.later hb (Nat.le_refl _), ha, by rw [hb.cell (p := ⟨bo, 3, none⟩) T6.out.lo.1]; exact T6.out.ob.2.2.2.1, Nat.lt_of_lt_of_le T6.out.lo.1 hb.size, HB6.out.later hb HB6.out.lt, T6.out.b.trans (hb.mono T6.out.b.size)⟩)
    clear ha hb T6 HB6
    have HLL := hide (show WAS.length ≤ 998 from by rw [HWAS.out]; exact Nat.le_trans (List.length_filter_le _ _) HF8.out.n)
    by_cases hg0 : g = 0
    · subst hg0
      have HN9 := hide (show stab M' [] [] t = WAS.filterMap (nowG x t o.i.e) from by
        obtain ⟨x2, h1, h2, h3, h4⟩ := cloC_zero HG.out.symm
        have hx2 : x = x2 := by rw [HX.out, h1]; rfl
        rw [HM'.out, HWAS.out]
        unfold cloL
        rw [if_pos HG.out.symm, now_is HF8.out.ok h1 h2 h4, hx2])
      obtain ⟨NOW, hNOW⟩ : ∃ NOW, NOW = stab M' [] [] t := ⟨_, rfl⟩
      rw [← hNOW] at T7 HN9
      have HLN := hide (show NOW.length ≤ 998 from by rw [hNOW]; exact Nat.le_trans (List.length_filter_le _ _) HF9.out.n)
      clear hNOW
      obtain ⟨so, sc, rfl, _, _⟩ := T7.out.a.form
      obtain ⟨no, nc, rfl, _, _⟩ := T7.out.n.form
      obtain ⟨p, hp⟩ : ∃ p, p = WAS.length := ⟨_, rfl⟩
      obtain ⟨q, hq⟩ : ∃ q, q = NOW.length := ⟨_, rfl⟩
      rw [← hp, ← hq] at T7 ⊢
      have HP := hide hp
      have HQ := hide hq
      clear hp hq
      go_wp2_with fail
      go_loopw [14, 15] (fun kk ii wr => ∃ i c : Nat, ii = .int .i64 i ∧ i ≤ p ∧ kk = .int .i64 c ∧ c ≤ q ∧ Hid (c = ((WAS.take i).filterMap (nowG x t o.i.e)).length) ∧ Hid (Cl WAS NOW (.slice so p sc) (.slice no q nc) o bo x bi w wr)) (fun _ ii _ => (p - (intOf ii).toNat))
      case atStart => exact ⟨0, 0, rfl, by omega, rfl, by omega, hide rfl, T7⟩
      case round =>
        clear T7
        rename World => wr
        obtain ⟨i, c, rfl, hi, rfl, hcp, HC, HS⟩ := hrel
        rcases Nat.lt_or_ge i p with hlt | hge
        · have g1 : (i : Int) < (p : Int) := by omega
          have hil : i < WAS.length := by rw [← HP.out]; exact hlt
          have HSA := HS.out.a
          rw [HP.out] at HSA
          obtain ⟨b0, off, cap, he, _, k0, k1, k2, k3⟩ := HSA.at i hil
          rw [← HP.out] at he
          simp only [Value.slice.injEq, true_and] at he
          obtain ⟨rfl, rfl⟩ := he
          have HYES := hide (fun (z : It) (h9 : nowG x t o.i.e WAS[i] = some z) => (⟨fm_next hil h9, fm_yes hil h9⟩ : (∃ h : ((WAS.take i).filterMap (nowG x t o.i.e)).length < (WAS.filterMap (nowG x t o.i.e)).length, (WAS.filterMap (nowG x t o.i.e))[((WAS.take i).filterMap (nowG x t o.i.e)).length] = z) ∧ ((WAS.take (i + 1)).filterMap (nowG x t o.i.e)).length = ((WAS.take i).filterMap (nowG x t o.i.e)).length + 1))
          have HNO := hide (fun (h9 : nowG x t o.i.e WAS[i] = none) => (fm_no hil h9 : ((WAS.take (i + 1)).filterMap (nowG x t o.i.e)).length = ((WAS.take i).filterMap (nowG x t o.i.e)).length))
          rw [← HN9.out] at HYES
          obtain ⟨y, hy⟩ : ∃ y, y = WAS[i] := ⟨_, rfl⟩
          rw [← hy] at k0 k1 k2 k3 HYES HNO
          clear hy HSA
          have HD := hide (HS.out.later (below_alloc wr (.cells #[.string (S y.k), .int .i64 y.s, .int .i64 y.e, .int .i64 y.id] 31)))
          obtain ⟨y0, y1, y2, y3, -⟩ := Bx.new wr y 31
          obtain ⟨x0, x1, x2, x3, -⟩ := HD.out.bx
          have c3 := HD.out.c3
          have hpp : p ≤ 998 := by rw [HP.out]; exact HLL.out
          by_cases hyx : y = x
          · have e9 : neI y x = false := by rw [hyx]; exact neI_no x
            by_cases he : t ≥ o.i.e
            · have HC3 := hide (show c = ((WAS.take (i + 1)).filterMap (nowG x t o.i.e)).length from HC.out.trans (HNO.out (by unfold nowG; rw [if_pos hyx, if_pos he])).symm)
              clear hyx
              go_wp2_with fail
              go_roundw
              case rel => exact ⟨i + 1, c, by go_num, by omega, rfl, hcp, HC3, HD⟩
              case measure => simp [intOf]; omega
            · have HZ := hide (show nowG x t o.i.e y = some ⟨y.k, y.s, o.i.e, y.id⟩ from by unfold nowG; rw [if_pos hyx, if_neg (show ¬ o.i.e ≤ t from he)])
              obtain ⟨z, hz⟩ : ∃ z : It, z = ⟨y.k, y.s, o.i.e, y.id⟩ := ⟨_, rfl⟩
              rw [← hz] at HZ
              have HW := hide (show wr.alloc (.cells #[.string (S y.k), .int .i64 y.s, .int .i64 o.i.e, .int .i64 y.id] 31) = wr.alloc (.cells #[.string (S z.k), .int .i64 z.s, .int .i64 z.e, .int .i64 z.id] 31) from by rw [hz])
              clear hyx hz
              obtain ⟨⟨hc1, hc2⟩, hc3⟩ := HYES.out z HZ.out
              rw [← HC.out] at hc3
              have HC3 := hide (show c + 1 = ((WAS.take (i + 1)).filterMap (nowG x t o.i.e)).length from hc3.symm)
              obtain ⟨we, hwe⟩ : ∃ we, we = (wr.alloc (.cells #[.string (S z.k), .int .i64 z.s, .int .i64 z.e, .int .i64 z.id] 31)).drew := ⟨_, rfl⟩
              have HE := hide (show Cl WAS NOW (.slice (some ⟨b0, off, none⟩) p sc) (.slice no q nc) o bo x bi w we from by rw [hwe]; exact (HS.out.later (below_alloc wr _)).later (Below.refl _ _).drew)
              have HDL := HE.out.n
              rw [HQ.out] at HDL
              obtain ⟨lb, lof, lcap, he2, -, m0, m1, m2, m3⟩ := HDL.at _ hc1
              rw [hc2, ← HC.out] at m0 m1 m2 m3
              rw [← HC.out, ← HQ.out] at hc1
              rw [← HQ.out] at he2
              simp only [Value.slice.injEq, true_and] at he2
              obtain ⟨rfl, rfl⟩ := he2
              have BZ := hide (show Bx z wr.heap.size we from by rw [hwe]; exact (Bx.new wr z 31).kept (Nat.le_refl _) rfl)
              have HWE := hide hwe
              have q4 : ¬ (c : Int) ≥ (q : Int) := by omega
              have q5 : (c : Int) < (q : Int) := by omega
              have q6 : ¬ q ≤ c := by omega
              have hqq : q ≤ 998 := by rw [HQ.out]; exact HLN.out
              clear hc2 hc3 HDL hwe
              go_wp2_with fail
              have neq := neI_no z
              refine wp_region_held_drew (S := fun u => (u.cell? ⟨wr.heap.size, 0, none⟩ = some (.string (S z.k)) ∧ u.cell? ⟨wr.heap.size, 1, none⟩ = some (.int .i64 z.s) ∧ u.cell? ⟨wr.heap.size, 2, none⟩ = some (.int .i64 z.e) ∧ u.cell? ⟨wr.heap.size, 3, none⟩ = some (.int .i64 z.id)) ∧ u.cell? ⟨lb, lof + c * 4, none⟩ = some (.string (S z.k)) ∧ u.cell? ⟨lb, lof + c * 4 + 1, none⟩ = some (.int .i64 z.s) ∧ u.cell? ⟨lb, lof + c * 4 + 2, none⟩ = some (.int .i64 z.e) ∧ u.cell? ⟨lb, lof + c * 4 + 3, none⟩ = some (.int .i64 z.id)) (by kernel_rfl) (by rw [HW.out, ← HWE.out]; exact ⟨⟨BZ.out.c0, BZ.out.c1, BZ.out.c2, BZ.out.c3⟩, m0, m1, m2, m3⟩) (fun hHeld => ?_)
              rw [HW.out, ← HWE.out] at hHeld ⊢
              clear m0 m1 m2 m3 y0 y1 y2 y3 x0 x1 x2 x3 c3 k0 k1 k2 k3
              refine Man.t1 0 hHeld ?_
              (try simp only [Act.put, Mqa, Mqb, Mqc])
              refine Man.t1 1 hHeld ?_
              (try simp only [Act.put, Mqa, Mqb, Mqc])
              refine Man.t1 2 hHeld ?_
              (try simp only [Act.put, Mqa, Mqb, Mqc])
              refine Man.t1 3 hHeld ?_
              (try simp only [Act.put, Mqa, Mqb, Mqc])
              refine Man.t1 4 hHeld ?_
              (try simp only [Act.put, Mqa, Mqb, Mqc])
              refine Man.t1 5 hHeld ?_
              (try simp only [Act.put, Mqa, Mqb, Mqc])
              refine Man.t1 6 hHeld ?_
              (try simp only [Act.put, Mqa, Mqb, Mqc])
              refine Man.t1 7 hHeld ?_
              (try simp only [Act.put, Mqa, Mqb, Mqc])
              refine Man.t1 8 hHeld ?_
              (try simp only [Act.put, Mqa, Mqb, Mqc])
              refine Man.t1 9 hHeld ?_
              (try simp only [Act.put, Mqa, Mqb, Mqc])
              refine Man.t1 10 hHeld ?_
              (try simp only [Act.put, Mqa, Mqb, Mqc])
              refine Man.t1 11 hHeld ?_
              (try simp only [Act.put, Mqa, Mqb, Mqc])
              refine wpAnyH_done (by kernel_rfl) ?_ _
              go_wp2_with fail
              go_roundw
              case rel => exact ⟨i + 1, c + 1, by go_num, by omega, by go_num, by omega, HC3, HE⟩
              case measure => simp [intOf]; omega
          · have e9 : neI y x = true := neI_yes hyx
            obtain ⟨z, hz⟩ : ∃ z : It, z = y := ⟨_, rfl⟩
            have HZ := hide (show nowG x t o.i.e y = some z from by rw [hz]; unfold nowG; rw [if_neg hyx])
            have HW := hide (show wr.alloc (.cells #[.string (S y.k), .int .i64 y.s, .int .i64 y.e, .int .i64 y.id] 31) = wr.alloc (.cells #[.string (S z.k), .int .i64 z.s, .int .i64 z.e, .int .i64 z.id] 31) from by rw [hz])
            clear hyx hz
            obtain ⟨⟨hc1, hc2⟩, hc3⟩ := HYES.out z HZ.out
            rw [← HC.out] at hc3
            have HC3 := hide (show c + 1 = ((WAS.take (i + 1)).filterMap (nowG x t o.i.e)).length from hc3.symm)
            obtain ⟨we, hwe⟩ : ∃ we, we = (wr.alloc (.cells #[.string (S z.k), .int .i64 z.s, .int .i64 z.e, .int .i64 z.id] 31)).drew := ⟨_, rfl⟩
            have HE := hide (show Cl WAS NOW (.slice (some ⟨b0, off, none⟩) p sc) (.slice no q nc) o bo x bi w we from by rw [hwe]; exact (HS.out.later (below_alloc wr _)).later (Below.refl _ _).drew)
            have HDL := HE.out.n
            rw [HQ.out] at HDL
            obtain ⟨lb, lof, lcap, he2, -, m0, m1, m2, m3⟩ := HDL.at _ hc1
            rw [hc2, ← HC.out] at m0 m1 m2 m3
            rw [← HC.out, ← HQ.out] at hc1
            rw [← HQ.out] at he2
            simp only [Value.slice.injEq, true_and] at he2
            obtain ⟨rfl, rfl⟩ := he2
            have BZ := hide (show Bx z wr.heap.size we from by rw [hwe]; exact (Bx.new wr z 31).kept (Nat.le_refl _) rfl)
            have HWE := hide hwe
            have q4 : ¬ (c : Int) ≥ (q : Int) := by omega
            have q5 : (c : Int) < (q : Int) := by omega
            have q6 : ¬ q ≤ c := by omega
            have hqq : q ≤ 998 := by rw [HQ.out]; exact HLN.out
            clear hc2 hc3 HDL hwe
            go_wp2_with fail
            have neq := neI_no z
            refine wp_region_held_drew (S := fun u => (u.cell? ⟨wr.heap.size, 0, none⟩ = some (.string (S z.k)) ∧ u.cell? ⟨wr.heap.size, 1, none⟩ = some (.int .i64 z.s) ∧ u.cell? ⟨wr.heap.size, 2, none⟩ = some (.int .i64 z.e) ∧ u.cell? ⟨wr.heap.size, 3, none⟩ = some (.int .i64 z.id)) ∧ u.cell? ⟨lb, lof + c * 4, none⟩ = some (.string (S z.k)) ∧ u.cell? ⟨lb, lof + c * 4 + 1, none⟩ = some (.int .i64 z.s) ∧ u.cell? ⟨lb, lof + c * 4 + 2, none⟩ = some (.int .i64 z.e) ∧ u.cell? ⟨lb, lof + c * 4 + 3, none⟩ = some (.int .i64 z.id)) (by kernel_rfl) (by rw [HW.out, ← HWE.out]; exact ⟨⟨BZ.out.c0, BZ.out.c1, BZ.out.c2, BZ.out.c3⟩, m0, m1, m2, m3⟩) (fun hHeld => ?_)
            rw [HW.out, ← HWE.out] at hHeld ⊢
            clear m0 m1 m2 m3 y0 y1 y2 y3 x0 x1 x2 x3 c3 k0 k1 k2 k3
            refine Man.t1 0 hHeld ?_
            (try simp only [Act.put, Mqa, Mqb, Mqc])
            refine Man.t1 1 hHeld ?_
            (try simp only [Act.put, Mqa, Mqb, Mqc])
            refine Man.t1 2 hHeld ?_
            (try simp only [Act.put, Mqa, Mqb, Mqc])
            refine Man.t1 3 hHeld ?_
            (try simp only [Act.put, Mqa, Mqb, Mqc])
            refine Man.t1 4 hHeld ?_
            (try simp only [Act.put, Mqa, Mqb, Mqc])
            refine Man.t1 5 hHeld ?_
            (try simp only [Act.put, Mqa, Mqb, Mqc])
            refine Man.t1 6 hHeld ?_
            (try simp only [Act.put, Mqa, Mqb, Mqc])
            refine Man.t1 7 hHeld ?_
            (try simp only [Act.put, Mqa, Mqb, Mqc])
            refine Man.t1 8 hHeld ?_
            (try simp only [Act.put, Mqa, Mqb, Mqc])
            refine Man.t1 9 hHeld ?_
            (try simp only [Act.put, Mqa, Mqb, Mqc])
            refine Man.t1 10 hHeld ?_
            (try simp only [Act.put, Mqa, Mqb, Mqc])
            refine Man.t1 11 hHeld ?_
            (try simp only [Act.put, Mqa, Mqb, Mqc])
            refine wpAnyH_done (by kernel_rfl) ?_ _
            go_wp2_with fail
            go_roundw
            case rel => exact ⟨i + 1, c + 1, by go_num, by omega, by go_num, by omega, HC3, HE⟩
            case measure => simp [intOf]; omega
        · obtain rfl : i = p := by omega
          have g1 : ¬ (i : Int) < (i : Int) := by omega
          have hcq : c = q := by rw [HC.out, HP.out, List.take_length, HQ.out, HN9.out]
          obtain rfl := hcq
          clear hcp hi hge
          go_wp2_with fail
          refine (known_any K _).mono ?_
          rintro e w9 ⟨rfl, hb⟩
          have B9 := hide (HS.out.b.trans (hb.mono HS.out.b.size))
          clear hb
          go_wp2_with fail
          go_ret
          exact ⟨rfl, B9.out⟩
    · have q1 : (g == 0) = false := by rw [beq_eq_false_iff_ne]; exact hg0
      have HN9 := hide (show stab M' [] [] t = WAS from by
        rw [HM'.out, HWAS.out]
        unfold cloL
        rw [if_neg (fun e9 => hg0 (HG.out.trans e9))])
      rw [HN9.out] at T7
      obtain ⟨x0, x1, x2, x3, -⟩ := T7.out.bx
      have c3 := T7.out.c3
      rcases clo_why HX.out HFC.out (fun e9 => hg0 (HG.out.trans e9)) with h1 | ⟨h1, h2⟩ | ⟨h1, h2, h3⟩ | ⟨h1, h2, h3, h4⟩
      · subst h1
        clear HN9
        go_wp2_with fail
        refine (plain_any T7.out.a (Nat.le_trans HLL.out (by decide))).mono ?_
        rintro e w8 ⟨vd, rfl, ha, hb⟩
        have A8 := hide ha
        have T8 := hide (T7.out.later hb)
        clear ha hb T7
        go_wp2_with fail
        refine (plain_any T8.out.n (Nat.le_trans HLL.out (by decide))).mono ?_
        rintro e w9 ⟨ve, rfl, ha, hb⟩
        have A9 := hide ha
        have T9 := hide (T8.out.later hb)
        have A89 := hide (A8.out.later hb (Nat.le_refl _))
        clear ha hb T8 A8
        go_wp2_with fail
        refine (same_any A89.out A9.out (Nat.le_trans HLL.out (by decide))).mono ?_
        rintro e w10 ⟨rfl, hb⟩
        rw [decide_eq_true (rfl : WAS = WAS)]
        have HS := hide (T9.out.later hb)
        clear hb T9 A9 A89
        go_wp2_with fail
        refine (known_any K _).mono ?_
        rintro e w9 ⟨rfl, hb⟩
        have B9 := hide (HS.out.b.trans (hb.mono HS.out.b.size))
        clear hb
        go_wp2_with fail
        go_ret
        exact ⟨rfl, B9.out⟩
      · subst h1
        have q3 : (x.e == 1099511627776) = false := by rw [beq_eq_false_iff_ne]; exact h2
        clear HN9
        go_wp2_with fail
        refine (plain_any T7.out.a (Nat.le_trans HLL.out (by decide))).mono ?_
        rintro e w8 ⟨vd, rfl, ha, hb⟩
        have A8 := hide ha
        have T8 := hide (T7.out.later hb)
        clear ha hb T7
        go_wp2_with fail
        refine (plain_any T8.out.n (Nat.le_trans HLL.out (by decide))).mono ?_
        rintro e w9 ⟨ve, rfl, ha, hb⟩
        have A9 := hide ha
        have T9 := hide (T8.out.later hb)
        have A89 := hide (A8.out.later hb (Nat.le_refl _))
        clear ha hb T8 A8
        go_wp2_with fail
        refine (same_any A89.out A9.out (Nat.le_trans HLL.out (by decide))).mono ?_
        rintro e w10 ⟨rfl, hb⟩
        rw [decide_eq_true (rfl : WAS = WAS)]
        have HS := hide (T9.out.later hb)
        clear hb T9 A9 A89
        go_wp2_with fail
        refine (known_any K _).mono ?_
        rintro e w9 ⟨rfl, hb⟩
        have B9 := hide (HS.out.b.trans (hb.mono HS.out.b.size))
        clear hb
        go_wp2_with fail
        go_ret
        exact ⟨rfl, B9.out⟩
      · subst h1
        rw [h2] at x2
        clear h2
        clear HN9
        go_wp2_with fail
        refine (plain_any T7.out.a (Nat.le_trans HLL.out (by decide))).mono ?_
        rintro e w8 ⟨vd, rfl, ha, hb⟩
        have A8 := hide ha
        have T8 := hide (T7.out.later hb)
        clear ha hb T7
        go_wp2_with fail
        refine (plain_any T8.out.n (Nat.le_trans HLL.out (by decide))).mono ?_
        rintro e w9 ⟨ve, rfl, ha, hb⟩
        have A9 := hide ha
        have T9 := hide (T8.out.later hb)
        have A89 := hide (A8.out.later hb (Nat.le_refl _))
        clear ha hb T8 A8
        go_wp2_with fail
        refine (same_any A89.out A9.out (Nat.le_trans HLL.out (by decide))).mono ?_
        rintro e w10 ⟨rfl, hb⟩
        rw [decide_eq_true (rfl : WAS = WAS)]
        have HS := hide (T9.out.later hb)
        clear hb T9 A9 A89
        go_wp2_with fail
        refine (known_any K _).mono ?_
        rintro e w9 ⟨rfl, hb⟩
        have B9 := hide (HS.out.b.trans (hb.mono HS.out.b.size))
        clear hb
        go_wp2_with fail
        go_ret
        exact ⟨rfl, B9.out⟩
      · subst h1
        rw [h2] at x2
        clear h2
        clear HN9
        go_wp2_with fail
        refine (plain_any T7.out.a (Nat.le_trans HLL.out (by decide))).mono ?_
        rintro e w8 ⟨vd, rfl, ha, hb⟩
        have A8 := hide ha
        have T8 := hide (T7.out.later hb)
        clear ha hb T7
        go_wp2_with fail
        refine (plain_any T8.out.n (Nat.le_trans HLL.out (by decide))).mono ?_
        rintro e w9 ⟨ve, rfl, ha, hb⟩
        have A9 := hide ha
        have T9 := hide (T8.out.later hb)
        have A89 := hide (A8.out.later hb (Nat.le_refl _))
        clear ha hb T8 A8
        go_wp2_with fail
        refine (same_any A89.out A9.out (Nat.le_trans HLL.out (by decide))).mono ?_
        rintro e w10 ⟨rfl, hb⟩
        rw [decide_eq_true (rfl : WAS = WAS)]
        have HS := hide (T9.out.later hb)
        clear hb T9 A9 A89
        go_wp2_with fail
        refine (known_any K _).mono ?_
        rintro e w9 ⟨rfl, hb⟩
        have B9 := hide (HS.out.b.trans (hb.mono HS.out.b.size))
        clear hb
        go_wp2_with fail
        go_ret
        exact ⟨rfl, B9.out⟩
theorem laidOut : laidOutB Try.prog = true := by kernel_rfl
set_option maxRecDepth 100000 in
theorem contract (H : Type) (enc : TypeId × Value → H) (W : World) (base : Nat) (args : Array Value) (ds gs : List (DataW H)) (before : List MemPlace)
    (hval : ∀ (j : Nat) t v, Try.f8.params[j]? = some t → args[j]? = some v → Value.okWide Try.prog W .any base t v)
    (hW : DataW.Whole enc Try.prog Try.f8.params.toList Rows.indexClosesSpec.vars false W args.toList ds gs before)
    (hsz0 : (DataW.weightsEach Try.prog (Try.f8.params.toList ++ Rows.indexClosesSpec.plain.varTypes Try.prog) (ds ++ gs)).all (· ≤ reachBytes) = true) :
    Calls Try.prog 8 args W fun e W' => ∃ v, e = .returned v ∧ Rows.indexClosesSpec.post enc Try.prog Try.f8 false true false false W args v W' := by
  have hW' := hW
  obtain ⟨p, q, hA0, hV, rfl, hfz, hnd⟩ := hW
  have hA : DataW.TrodAll enc Try.prog W 0 (fun _ => true) true Try.f8.params.toList args.toList ds p := hA0
  rw [Try.params8] at hA hval hsz0
  obtain ⟨v0, vs0, d0, ds0, p0, q0, hargs, rfl, rfl, h0, r0⟩ := trodAll_cons hA
  obtain ⟨v1, vs1, d1, ds1, p1, q1, rfl, rfl, rfl, h1, r1⟩ := trodAll_cons r0
  obtain ⟨v2, vs2, d2, ds2, p2, q2, rfl, rfl, rfl, h2, r2⟩ := trodAll_cons r1
  obtain ⟨rfl, rfl, rfl⟩ := trodAll_nil r2
  obtain rfl : args = #[v0, v1, v2] := by cases args; simp_all
  obtain ⟨rfl, rfl⟩ := trodVars_none hV
  have hsz := fun n hn => of_decide_eq_true (List.all_eq_true.1 hsz0 n hn)
  obtain ⟨t, rfl, hd2, hp2, wt⟩ := open_int Try.underlying3 (hval 2 3 v2 rfl rfl) h2
  have bt := bounds_i64 wt
  obtain ⟨l, hml, hil⟩ := Idx.open_ops (hval 0 22 v0 rfl rfl) h0 (fun n hn => hsz n (DataW.weights_mem_each (j := 0) (t := 22) rfl rfl n hn))
  obtain ⟨o, rfl, hio⟩ := Idx.open_op (hval 1 33 v1 rfl rfl) h1 (fun n hn => hsz n (DataW.weights_mem_each (j := 1) (t := 33) rfl rfl n hn))
  clear hA0 hsz0
  simp only [List.append_nil] at hW'
  have hlt : ∀ x ∈ p0 ++ p1 ++ p2, x.block < W.heap.size := fun x hx => hW'.lt x (by simpa using hx)
  have walk := walk_closes con_px hml hil o hio t bt
  refine walk.mono fun e W' ⟨he, hg⟩ => ?_
  subst he
  refine ⟨_, rfl, Fr.post_made (pa := p0 ++ (p1 ++ p2)) (pv := []) hW' (fun _ _ _ => trodAll_cons_mk (shut_bool Try.underlying4 _) trodAll_mk0) (fun sp hsp => ?_) (fun _ _ => rfl) (by simp) hg (ok_one (by kernel_rfl) rfl (okWide_bool_mk Try.underlying4 _))⟩
  have g0 : DataW.Trod enc Try.prog W' 0 sp true 22 _ d0 p0 := WideElems.Trod_stays laidOut (by kernel_rfl) (of_decide_eq_true (by kernel_rfl)) h0 (fun x hx => hg.same (hlt x (by simp [hx]))) (fun x hx => hsp x (by simp [hx]))
  have g1 : DataW.Trod enc Try.prog W' 0 sp true 33 _ d1 p1 := WideElems.Trod_stays laidOut (by kernel_rfl) (of_decide_eq_true (by kernel_rfl)) h1 (fun x hx => hg.same (hlt x (by simp [hx]))) (fun x hx => hsp x (by simp [hx]))
  have g2 : DataW.Trod enc Try.prog W' 0 sp true 3 _ d2 p2 := WideElems.Trod_stays laidOut (by kernel_rfl) (of_decide_eq_true (by kernel_rfl)) h2 (fun x hx => hg.same (hlt x (by simp [hx]))) (fun x hx => hsp x (by simp [hx]))
  have hT := (trodAll_cons_mk g0 (trodAll_cons_mk g1 (trodAll_cons_mk g2 trodAll_mk0)))
  simp only [List.append_nil] at hT
  exact hT
set_option maxRecDepth 100000 in
theorem lifted (os : Os) (started : os.Started) (H : Type) (enc : TypeId × Value → H) :
    ReturnsInHanded {} Try.checked os 8 .any (Rows.indexClosesSpec.pre6 enc Try.prog Try.f8 Rows.indexClosesRow.domain false) (Rows.indexClosesSpec.post enc Try.prog Try.f8 false true false false) := by
  refine returnsInHanded_of_change_sized (C := Try.checked) Fr.own started (by kernel_rfl) Try.func8
    (ChangeSpec.witness6 (enc := enc) (C := Try.checked) false ⟨#[], #[.slice none 0 0, .agg #[.int .i64 0, .string ⟨#[]⟩, .int .i64 0, .int .i64 0, .int .i64 0, .string ⟨#[]⟩, .int .i64 0, .int .i64 0], .int .i64 0], []⟩ 8 (by kernel_rfl) (by kernel_rfl) (by kernel_rfl) (by kernel_rfl)) ?_
  intro W base args ds gs before hval hW _ hsz _
  exact contract H enc W base args ds gs before hval hW hsz
theorem said : Rows.IndexClosesSaid :=
  OpenClaim.holds_of_wide 8 Try.f8 rfl rfl rfl rfl rfl rfl rfl ⟨rfl, rfl, rfl, rfl, rfl⟩ rfl rfl rfl rfl rfl (by kernel_rfl) Try.func8 (by kernel_rfl)
    (of_decide_eq_true (by kernel_rfl)) (by unfold Func.isWrapper; first | (rw [if_pos (by decide +kernel)]; kernel_rfl) | (rw [if_neg (by decide +kernel)]; exact ⟨rfl, rfl⟩))
    (fun os started H enc _ => lifted os started H enc)
end LaIndexCloses
end Go.Proofs.Ytapdhelioecneaa
