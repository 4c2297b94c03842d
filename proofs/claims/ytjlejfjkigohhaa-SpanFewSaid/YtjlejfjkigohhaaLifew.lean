/- SpanFew: spans that are as few as can be rise, do not touch, and have a time just if one of the spans has it; made so again, or in another order, they are the same: for all rows of spans, all times. No other condition. -/
import Derived.Test.YtjlejfjkigohhaaIr
import Derived.Test.YtjlejfjkigohhaaIp
import Derived.Test.YtjlejfjkigohhaaFra
import Derived.WideKeyPair
import Derived.SizedLaws
namespace Go.Proofs.Ytjlejfjkigohhaa
open Go.ChangeShapes Go.WideShapes Go.ChangeAt Go.RowKit
open Go.ChangeMaps (open_string shut_string)
namespace LaSpanFew
open Spn
/-- Has one of them the time? -/
def hasB (l : List Sp) (t : Int) : Bool := l.any fun s => decide (Has s t)
theorem hasB_iff (l : List Sp) (t : Int) : hasB l t = true ↔ HasL l t := by
  unfold hasB HasL
  rw [List.any_eq_true]
  constructor
  · rintro ⟨s, h1, h2⟩; exact ⟨s, h1, of_decide_eq_true h2⟩
  · rintro ⟨s, h1, h2⟩; exact ⟨s, h1, decide_eq_true h2⟩
theorem hasB_eq {l m : List Sp} {t : Int} (h : HasL l t ↔ HasL m t) : hasB l t = hasB m t := by
  rw [Bool.eq_iff_iff, hasB_iff, hasB_iff, h]
theorem hasB_snoc (l : List Sp) (s : Sp) (t : Int) : hasB (l ++ [s]) t = (hasB l t || decide (Has s t)) := by simp [hasB]
/-- What was turned so far. -/
def back (l : List Sp) (j : Nat) : List Sp := (l.drop j).reverse
theorem back_step {l : List Sp} {q : Nat} (h : q < l.length) : back l q = back l (q + 1) ++ [l[q]] := by
  unfold back
  rw [List.drop_eq_getElem_cons h, List.reverse_cons]
theorem back_len (l : List Sp) (j : Nat) : (back l j).length ≤ l.length := by
  unfold back; rw [List.length_reverse, List.length_drop]; omega
theorem back_all (l : List Sp) : back l l.length = [] := by simp [back]
theorem back_none (l : List Sp) : back l 0 = l.reverse := by simp [back]
theorem rev_has (l : List Sp) (t : Int) : HasL l.reverse t ↔ HasL l t := hasL_mem (fun _ _ => List.mem_reverse) t
theorem has_v {a b t : Int} {p : Bool} (h : decide (Has (a, b) t) = p) (w : World) :
    Calls Try.prog 16 #[.agg #[.int .i64 a, .int .i64 b], .int .i64 t] w fun e w' => e = .returned (.bool p) ∧ Below w.heap.size w w' := by
  have := has_any a b t w
  rwa [h] at this
set_option maxHeartbeats 8000000 in
set_option maxRecDepth 100000 in
theorem walk {l : List Sp} {sl : Value} {w : World} (h : SpansAt l sl w) (t : Int) :
    Calls Try.prog 6 #[sl, .int .i64 t] w fun x w' => x = .returned (.bool true) ∧ Below w.heap.size w w' := by
  obtain ⟨so, sc, rfl, _, _⟩ := h.form
  have HA := hide h
  obtain ⟨n, hn⟩ : ∃ n, n = l.length := ⟨_, rfl⟩
  have HN := hide hn
  by_cases hb6 : n ≤ 60
  · have g1 : ¬ (60 : Int) < (n : Int) := by omega
    have HL := hide (show l.length ≤ 1000 from by rw [← HN.out]; omega)
    have CN := hide (norm_any h HL.out)
    rw [← hn] at CN ⊢
    clear h hn
    go_enter Try.func6, Try.ntmps6
    go_wp2_with fail
    refine CN.out.mono ?_
    rintro e w1 ⟨v, rfl, hrow, hb⟩
    have HB1 := hide hb
    have HV := hide hrow.spans
    obtain ⟨vo, vc, rfl, _, _⟩ := hrow.form
    obtain ⟨m, hm⟩ : ∃ m, m = norm l := ⟨_, rfl⟩
    rw [← hm] at HV ⊢
    have HM := hide hm
    obtain ⟨p, hp⟩ : ∃ p, p = m.length := ⟨_, rfl⟩
    rw [← hp]
    have HP := hide hp
    have hp2 : p ≤ 60 := by rw [hp, hm]; have := norm_len l; have := HN.out; omega
    have f1 : IntKind.i64.wrap ((n : Int) - 1) = (n : Int) - 1 := by simp only [IntKind.wrap_i64]; omega
    clear hrow hb hm hp CN
    go_wp2_with fail
    go_loopw [6, 8, 9] (fun oo tv ii wr => ∃ (j : Nat), oo = .bool (hasB (back l j) t) ∧ ii = .int .i64 ((j : Int) - 1) ∧ j ≤ n ∧ Hid (Row w1.heap.size (back l j) tv wr) ∧ Hid (Below w1.heap.size w1 wr)) (fun _ _ ii _ => (intOf ii + 1).toNat)
    case atStart => exact ⟨n, by rw [HN.out, back_all]; rfl, by first | rfl | go_num | simp, Nat.le_refl _, hide (by rw [HN.out, back_all]; exact Row.nil _ _), hide (Below.refl _ _)⟩
    case round =>
      rename World => wr
      obtain ⟨j, rfl, rfl, hj, HR, HB⟩ := hrel
      rcases Nat.eq_zero_or_pos j with hj0 | hj0
      · subst hj0
        have e0 : (((0 : Nat) : Int) - 1) = -1 := rfl
        rw [e0]
        have HT := hide (show Row w1.heap.size l.reverse u8 wr from by have := HR.out; rwa [back_none] at this)
        have HO := hide (show hasB (back l 0) t = hasB m t from by rw [back_none, HM.out]; exact hasB_eq (by rw [rev_has, (norm_ok l).2]))
        obtain ⟨bo, hbo⟩ : ∃ bo, bo = hasB (back l 0) t := ⟨_, rfl⟩
        rw [← hbo] at HO ⊢
        clear hbo e0 HR f1
        go_wp2_with fail
        go_loopw [7, 10] (fun ss ii z => ∃ i : Nat, ss = .bool (hasB (m.take i) t) ∧ ii = .int .i64 i ∧ i ≤ p ∧ Hid (Below wr.heap.size wr z)) (fun _ ii _ => (p - (intOf ii).toNat))
        case atStart => exact ⟨0, rfl, rfl, by omega, hide (Below.refl _ _)⟩
        case round =>
          rename World => z
          obtain ⟨i, rfl, rfl, hi, HZ⟩ := hrel
          have HBW := hide (show Below w1.heap.size w1 z from HB.out.trans (HZ.out.mono HB.out.size))
          rcases Nat.lt_or_ge i p with hlt | hge
          · have g2 : (i : Int) < (p : Int) := by omega
            have hil : i < m.length := by rw [← HP.out]; exact hlt
            obtain ⟨b0, off, cap, he, hbw, k0, k1⟩ := (HV.out.later HBW.out (Nat.le_refl _)).at i hil
            rw [← HP.out] at he
            simp only [Value.slice.injEq] at he
            obtain ⟨rfl, _, rfl⟩ := he
            have HAT := hide (show ∀ u : World, Below w1.heap.size w1 u → ∀ (q : Nat) (hq : q < m.length), u.cell? ⟨b0, off + q * 2, none⟩ = some (.int .i64 (m[q]).1) ∧ u.cell? ⟨b0, off + q * 2 + 1, none⟩ = some (.int .i64 (m[q]).2) from fun u hu q hq => ((HV.out.later hu (Nat.le_refl _)).got q hq).2)
            have HCN := hide (show Canon m from by rw [HM.out]; exact (norm_ok l).1)
            have HX := hide (show hasB (m.take (i + 1)) t = (hasB (m.take i) t || decide (Has m[i] t)) from by rw [List.take_succ_eq_append_getElem hil, hasB_snoc])
            obtain ⟨x, hx⟩ : ∃ x, x = m[i] := ⟨_, rfl⟩
            have HXI := hide hx
            rw [← hx] at k0 k1 HX
            have hrx : Right (x.1, x.2) := by rw [hx]; exact HCN.out.right (List.getElem_mem hil)
            have CR := hide (fun w => right_yes hrx w)
            clear hx hrx
            obtain ⟨bs, hbs⟩ : ∃ bs, bs = hasB (m.take i) t := ⟨_, rfl⟩
            rw [← hbs] at HX ⊢
            clear hbs
            obtain ⟨bx, hbx⟩ : ∃ bx, decide (Has (x.1, x.2) t) = bx := ⟨_, rfl⟩
            have CX := hide (fun w => has_v hbx w)
            have HX2 := hide (show hasB (m.take (i + 1)) t = (bs || bx) from by rw [HX.out, ← hbx])
            clear hbx HX
            cases bs
            · go_wp2_with fail
              refine (CX.out _).mono ?_
              rintro e z2 ⟨rfl, hb⟩
              have HBZ := hide (HBW.out.trans (hb.mono HBW.out.size))
              have HZ2 := hide (HZ.out.trans (hb.mono HZ.out.size))
              have HZD := hide HZ2.out.drew
              have HX3 := hide (show hasB (m.take (i + 1)) t = bx from by rw [HX2.out]; rfl)
              obtain ⟨k0, k1⟩ := HAT.out z2 HBZ.out i hil
              rw [← HXI.out] at k0 k1
              clear hb HX2 CX
              rcases Nat.eq_zero_or_pos i with hi0 | hi0
              · subst hi0
                have g3 : ¬ (0 : Int) < ((0 : Nat) : Int) := by omega
                have CE := hide (show ∀ u : World, Below w1.heap.size w1 u → (u.cell? ⟨b0, off, none⟩ = some (.int .i64 x.1) ∧ u.cell? ⟨b0, off + 1, none⟩ = some (.int .i64 x.2)) from fun u hu => ⟨by have := (HAT.out u hu 0 hil).1; rw [← HXI.out] at this; simpa using this, by have := (HAT.out u hu 0 hil).2; rw [← HXI.out] at this; simpa using this⟩)
                have HBD := hide HBZ.out.drew
                go_wp2_with fail
                refine wp_region_held_drew (S := fun u => u.cell? ⟨b0, off, none⟩ = some (.int .i64 x.1) ∧ u.cell? ⟨b0, off + 1, none⟩ = some (.int .i64 x.2)) (by kernel_rfl) (CE.out _ HBD.out) (fun hHeld => ?_)
                refine Man.t1 0 hHeld ?_
                (try simp only [Act.put, Mqa, Mqb, Mqc])
                refine Man.t1 1 hHeld ?_
                (try simp only [Act.put, Mqa, Mqb, Mqc])
                refine Man.t1 2 hHeld ?_
                (try simp only [Act.put, Mqa, Mqb, Mqc])
                refine Man.t1 3 hHeld ?_
                (try simp only [Act.put, Mqa, Mqb, Mqc])
                refine Man.one (i := 4) rfl (by kernel_rfl) (fun K9 hK => ?_)
                go_simp
                with_reducible refine (CR.out _).mono ?_
                rintro e z5 ⟨rfl, hb⟩
                have HB5 := hide (HBD.out.trans (hb.mono HBD.out.size))
                have HZ5 := hide (HZD.out.trans (hb.mono HZD.out.size))
                clear hb
                refine hK.out _ _ (CE.out _ HB5.out) (fun hNew => ?_)
                clear hK K9 hHeld
                have hHeld := hNew
                clear hNew
                (try simp only [Act.put, Mqa, Mqb, Mqc])
                refine Man.t1 5 hHeld ?_
                (try simp only [Act.put, Mqa, Mqb, Mqc])
                refine Man.t1 6 hHeld ?_
                (try simp only [Act.put, Mqa, Mqb, Mqc])
                refine Man.t1 7 hHeld ?_
                (try simp only [Act.put, Mqa, Mqb, Mqc])
                refine Man.t1 8 hHeld ?_
                (try simp only [Act.put, Mqa, Mqb, Mqc])
                refine Man.t1 9 hHeld ?_
                (try simp only [Act.put, Mqa, Mqb, Mqc])
                refine Man.take0 (i := 10) rfl (by kernel_rfl) (by kernel_rfl) (by kernel_rfl) (fun _ _ _ h => h) (by rfl) hHeld ?_
                (try simp only [Act.put, Mqa, Mqb, Mqc])
                refine Man.take0 (i := 11) rfl (by kernel_rfl) (by kernel_rfl) (by kernel_rfl) (fun _ _ _ h => h) (by rfl) hHeld ?_
                (try simp only [Act.put, Mqa, Mqb, Mqc])
                refine Man.take0 (i := 12) rfl (by kernel_rfl) (by kernel_rfl) (by kernel_rfl) (fun _ _ _ h => h) (by rfl) hHeld ?_
                (try simp only [Act.put, Mqa, Mqb, Mqc])
                refine Man.take0 (i := 13) rfl (by kernel_rfl) (by kernel_rfl) (by kernel_rfl) (fun _ _ _ h => h) (by rfl) hHeld ?_
                (try simp only [Act.put, Mqa, Mqb, Mqc])
                refine Man.take0 (i := 14) rfl (by kernel_rfl) (by kernel_rfl) (by kernel_rfl) (fun _ _ _ h => h) (by rfl) hHeld ?_
                (try simp only [Act.put, Mqa, Mqb, Mqc])
                refine Man.take0 (i := 15) rfl (by kernel_rfl) (by kernel_rfl) (by kernel_rfl) (fun _ _ _ h => h) (by rfl) hHeld ?_
                (try simp only [Act.put, Mqa, Mqb, Mqc])
                refine Man.take0 (i := 16) rfl (by kernel_rfl) (by kernel_rfl) (by kernel_rfl) (fun _ _ _ h => h) (by rfl) hHeld ?_
                (try simp only [Act.put, Mqa, Mqb, Mqc])
                refine Man.take0 (i := 17) rfl (by kernel_rfl) (by kernel_rfl) (by kernel_rfl) (fun _ _ _ h => h) (by rfl) hHeld ?_
                (try simp only [Act.put, Mqa, Mqb, Mqc])
                refine Man.take0 (i := 18) rfl (by kernel_rfl) (by kernel_rfl) (by kernel_rfl) (fun _ _ _ h => h) (by rfl) hHeld ?_
                (try simp only [Act.put, Mqa, Mqb, Mqc])
                refine Man.take0 (i := 19) rfl (by kernel_rfl) (by kernel_rfl) (by kernel_rfl) (fun _ _ _ h => h) (by rfl) hHeld ?_
                (try simp only [Act.put, Mqa, Mqb, Mqc])
                refine Man.take0 (i := 20) rfl (by kernel_rfl) (by kernel_rfl) (by kernel_rfl) (fun _ _ _ h => h) (by rfl) hHeld ?_
                (try simp only [Act.put, Mqa, Mqb, Mqc])
                refine Man.take0 (i := 21) rfl (by kernel_rfl) (by kernel_rfl) (by kernel_rfl) (fun _ _ _ h => h) (by rfl) hHeld ?_
                (try simp only [Act.put, Mqa, Mqb, Mqc])
                refine Man.t1 22 hHeld ?_
                (try simp only [Act.put, Mqa, Mqb, Mqc])
                refine Man.t1 23 hHeld ?_
                (try simp only [Act.put, Mqa, Mqb, Mqc])
                refine wpAnyH_done (by kernel_rfl) ?_ _
                go_wp2_with fail
                go_roundw
                case rel => exact ⟨0 + 1, by rw [HX3.out], by go_num, by omega, HZ5⟩
                case measure => simp [intOf]; omega
              · obtain ⟨q, hq⟩ : ∃ q, q = i - 1 := ⟨_, rfl⟩
                have hqp : q < m.length := by omega
                have g3 : (0 : Int) < (i : Int) := by omega
                have f2 : IntKind.i64.wrap (q : Int) = (q : Int) := by simp only [IntKind.wrap_i64]; omega
                have f3 : ((i : Int) - 1) = (q : Int) := by omega
                obtain ⟨y, hy⟩ : ∃ y, y = m[q] := ⟨_, rfl⟩
                have HYI := hide hy
                have g4 : (q : Int) < (p : Int) := by omega
                have g5 : ¬ x.1 ≤ y.2 := by have := HCN.out.at q i (by omega) hil; rw [← HXI.out, ← hy] at this; omega
                have g6 : decide (x.1 ≤ y.2) = false := decide_eq_false g5
                clear hy hq
                have CE := hide (show ∀ u : World, Below w1.heap.size w1 u → (u.cell? ⟨b0, off + i * 2, none⟩ = some (.int .i64 x.1) ∧ u.cell? ⟨b0, off + i * 2 + 1, none⟩ = some (.int .i64 x.2) ∧ u.cell? ⟨b0, off + q * 2 + 1, none⟩ = some (.int .i64 y.2)) from fun u hu => ⟨by have := (HAT.out u hu i hil).1; rwa [← HXI.out] at this, by have := (HAT.out u hu i hil).2; rwa [← HXI.out] at this, by have := (HAT.out u hu q hqp).2; rwa [← HYI.out] at this⟩)
                have HBD := hide HBZ.out.drew
                go_wp2_with fail
                refine wp_region_held_drew (S := fun u => u.cell? ⟨b0, off + i * 2, none⟩ = some (.int .i64 x.1) ∧ u.cell? ⟨b0, off + i * 2 + 1, none⟩ = some (.int .i64 x.2) ∧ u.cell? ⟨b0, off + q * 2 + 1, none⟩ = some (.int .i64 y.2)) (by kernel_rfl) (CE.out _ HBD.out) (fun hHeld => ?_)
                refine Man.t1 0 hHeld ?_
                (try simp only [Act.put, Mqa, Mqb, Mqc])
                refine Man.t1 1 hHeld ?_
                (try simp only [Act.put, Mqa, Mqb, Mqc])
                refine Man.t1 2 hHeld ?_
                (try simp only [Act.put, Mqa, Mqb, Mqc])
                refine Man.t1 3 hHeld ?_
                (try simp only [Act.put, Mqa, Mqb, Mqc])
                refine Man.one (i := 4) rfl (by kernel_rfl) (fun K9 hK => ?_)
                go_simp
                with_reducible refine (CR.out _).mono ?_
                rintro e z5 ⟨rfl, hb⟩
                have HB5 := hide (HBD.out.trans (hb.mono HBD.out.size))
                have HZ5 := hide (HZD.out.trans (hb.mono HZD.out.size))
                clear hb
                refine hK.out _ _ (CE.out _ HB5.out) (fun hNew => ?_)
                clear hK K9 hHeld
                have hHeld := hNew
                clear hNew
                (try simp only [Act.put, Mqa, Mqb, Mqc])
                refine Man.t1 5 hHeld ?_
                (try simp only [Act.put, Mqa, Mqb, Mqc])
                refine Man.t1 6 hHeld ?_
                (try simp only [Act.put, Mqa, Mqb, Mqc])
                refine Man.t1 7 hHeld ?_
                (try simp only [Act.put, Mqa, Mqb, Mqc])
                refine Man.t1 8 hHeld ?_
                (try simp only [Act.put, Mqa, Mqb, Mqc])
                refine Man.t1 9 hHeld ?_
                (try simp only [Act.put, Mqa, Mqb, Mqc])
                refine Man.t1 10 hHeld ?_
                (try simp only [Act.put, Mqa, Mqb, Mqc])
                refine Man.t1 11 hHeld ?_
                (try simp only [Act.put, Mqa, Mqb, Mqc])
                refine Man.t1 12 hHeld ?_
                (try simp only [Act.put, Mqa, Mqb, Mqc])
                refine Man.t1 13 hHeld ?_
                (try simp only [Act.put, Mqa, Mqb, Mqc])
                refine Man.t1 14 hHeld ?_
                (try simp only [Act.put, Mqa, Mqb, Mqc])
                refine Man.t1 15 hHeld ?_
                (try simp only [Act.put, Mqa, Mqb, Mqc])
                refine Man.t1 16 hHeld ?_
                (try simp only [Act.put, Mqa, Mqb, Mqc])
                refine Man.t1 17 hHeld ?_
                (try simp only [Act.put, Mqa, Mqb, Mqc])
                refine Man.t1 18 hHeld ?_
                (try simp only [Act.put, Mqa, Mqb, Mqc])
                refine Man.t1 19 hHeld ?_
                (try simp only [Act.put, Mqa, Mqb, Mqc])
                refine Man.t1 20 hHeld ?_
                (try simp only [Act.put, Mqa, Mqb, Mqc])
                refine Man.t1 21 hHeld ?_
                (try simp only [Act.put, Mqa, Mqb, Mqc])
                refine Man.t1 22 hHeld ?_
                (try simp only [Act.put, Mqa, Mqb, Mqc])
                refine Man.t1 23 hHeld ?_
                (try simp only [Act.put, Mqa, Mqb, Mqc])
                refine wpAnyH_done (by kernel_rfl) ?_ _
                go_wp2_with fail
                go_roundw
                case rel => exact ⟨i + 1, by rw [HX3.out], by go_num, by omega, HZ5⟩
                case measure => simp [intOf]; omega
            · have HBZ := HBW
              have HZD := hide HZ.out.drew
              have HX3 := hide (show hasB (m.take (i + 1)) t = true from by rw [HX2.out]; rfl)
              clear HX2 CX
              rcases Nat.eq_zero_or_pos i with hi0 | hi0
              · subst hi0
                have g3 : ¬ (0 : Int) < ((0 : Nat) : Int) := by omega
                have CE := hide (show ∀ u : World, Below w1.heap.size w1 u → (u.cell? ⟨b0, off, none⟩ = some (.int .i64 x.1) ∧ u.cell? ⟨b0, off + 1, none⟩ = some (.int .i64 x.2)) from fun u hu => ⟨by have := (HAT.out u hu 0 hil).1; rw [← HXI.out] at this; simpa using this, by have := (HAT.out u hu 0 hil).2; rw [← HXI.out] at this; simpa using this⟩)
                have HBD := hide HBZ.out.drew
                go_wp2_with fail
                refine wp_region_held_drew (S := fun u => u.cell? ⟨b0, off, none⟩ = some (.int .i64 x.1) ∧ u.cell? ⟨b0, off + 1, none⟩ = some (.int .i64 x.2)) (by kernel_rfl) (CE.out _ HBD.out) (fun hHeld => ?_)
                refine Man.t1 0 hHeld ?_
                (try simp only [Act.put, Mqa, Mqb, Mqc])
                refine Man.t1 1 hHeld ?_
                (try simp only [Act.put, Mqa, Mqb, Mqc])
                refine Man.t1 2 hHeld ?_
                (try simp only [Act.put, Mqa, Mqb, Mqc])
                refine Man.t1 3 hHeld ?_
                (try simp only [Act.put, Mqa, Mqb, Mqc])
                refine Man.one (i := 4) rfl (by kernel_rfl) (fun K9 hK => ?_)
                go_simp
                with_reducible refine (CR.out _).mono ?_
                rintro e z5 ⟨rfl, hb⟩
                have HB5 := hide (HBD.out.trans (hb.mono HBD.out.size))
                have HZ5 := hide (HZD.out.trans (hb.mono HZD.out.size))
                clear hb
                refine hK.out _ _ (CE.out _ HB5.out) (fun hNew => ?_)
                clear hK K9 hHeld
                have hHeld := hNew
                clear hNew
                (try simp only [Act.put, Mqa, Mqb, Mqc])
                refine Man.t1 5 hHeld ?_
                (try simp only [Act.put, Mqa, Mqb, Mqc])
                refine Man.t1 6 hHeld ?_
                (try simp only [Act.put, Mqa, Mqb, Mqc])
                refine Man.t1 7 hHeld ?_
                (try simp only [Act.put, Mqa, Mqb, Mqc])
                refine Man.t1 8 hHeld ?_
                (try simp only [Act.put, Mqa, Mqb, Mqc])
                refine Man.t1 9 hHeld ?_
                (try simp only [Act.put, Mqa, Mqb, Mqc])
                refine Man.take0 (i := 10) rfl (by kernel_rfl) (by kernel_rfl) (by kernel_rfl) (fun _ _ _ h => h) (by rfl) hHeld ?_
                (try simp only [Act.put, Mqa, Mqb, Mqc])
                refine Man.take0 (i := 11) rfl (by kernel_rfl) (by kernel_rfl) (by kernel_rfl) (fun _ _ _ h => h) (by rfl) hHeld ?_
                (try simp only [Act.put, Mqa, Mqb, Mqc])
                refine Man.take0 (i := 12) rfl (by kernel_rfl) (by kernel_rfl) (by kernel_rfl) (fun _ _ _ h => h) (by rfl) hHeld ?_
                (try simp only [Act.put, Mqa, Mqb, Mqc])
                refine Man.take0 (i := 13) rfl (by kernel_rfl) (by kernel_rfl) (by kernel_rfl) (fun _ _ _ h => h) (by rfl) hHeld ?_
                (try simp only [Act.put, Mqa, Mqb, Mqc])
                refine Man.take0 (i := 14) rfl (by kernel_rfl) (by kernel_rfl) (by kernel_rfl) (fun _ _ _ h => h) (by rfl) hHeld ?_
                (try simp only [Act.put, Mqa, Mqb, Mqc])
                refine Man.take0 (i := 15) rfl (by kernel_rfl) (by kernel_rfl) (by kernel_rfl) (fun _ _ _ h => h) (by rfl) hHeld ?_
                (try simp only [Act.put, Mqa, Mqb, Mqc])
                refine Man.take0 (i := 16) rfl (by kernel_rfl) (by kernel_rfl) (by kernel_rfl) (fun _ _ _ h => h) (by rfl) hHeld ?_
                (try simp only [Act.put, Mqa, Mqb, Mqc])
                refine Man.take0 (i := 17) rfl (by kernel_rfl) (by kernel_rfl) (by kernel_rfl) (fun _ _ _ h => h) (by rfl) hHeld ?_
                (try simp only [Act.put, Mqa, Mqb, Mqc])
                refine Man.take0 (i := 18) rfl (by kernel_rfl) (by kernel_rfl) (by kernel_rfl) (fun _ _ _ h => h) (by rfl) hHeld ?_
                (try simp only [Act.put, Mqa, Mqb, Mqc])
                refine Man.take0 (i := 19) rfl (by kernel_rfl) (by kernel_rfl) (by kernel_rfl) (fun _ _ _ h => h) (by rfl) hHeld ?_
                (try simp only [Act.put, Mqa, Mqb, Mqc])
                refine Man.take0 (i := 20) rfl (by kernel_rfl) (by kernel_rfl) (by kernel_rfl) (fun _ _ _ h => h) (by rfl) hHeld ?_
                (try simp only [Act.put, Mqa, Mqb, Mqc])
                refine Man.take0 (i := 21) rfl (by kernel_rfl) (by kernel_rfl) (by kernel_rfl) (fun _ _ _ h => h) (by rfl) hHeld ?_
                (try simp only [Act.put, Mqa, Mqb, Mqc])
                refine Man.t1 22 hHeld ?_
                (try simp only [Act.put, Mqa, Mqb, Mqc])
                refine Man.t1 23 hHeld ?_
                (try simp only [Act.put, Mqa, Mqb, Mqc])
                refine wpAnyH_done (by kernel_rfl) ?_ _
                go_wp2_with fail
                go_roundw
                case rel => exact ⟨0 + 1, by rw [HX3.out], by go_num, by omega, HZ5⟩
                case measure => simp [intOf]; omega
              · obtain ⟨q, hq⟩ : ∃ q, q = i - 1 := ⟨_, rfl⟩
                have hqp : q < m.length := by omega
                have g3 : (0 : Int) < (i : Int) := by omega
                have f2 : IntKind.i64.wrap (q : Int) = (q : Int) := by simp only [IntKind.wrap_i64]; omega
                have f3 : ((i : Int) - 1) = (q : Int) := by omega
                obtain ⟨y, hy⟩ : ∃ y, y = m[q] := ⟨_, rfl⟩
                have HYI := hide hy
                have g4 : (q : Int) < (p : Int) := by omega
                have g5 : ¬ x.1 ≤ y.2 := by have := HCN.out.at q i (by omega) hil; rw [← HXI.out, ← hy] at this; omega
                have g6 : decide (x.1 ≤ y.2) = false := decide_eq_false g5
                clear hy hq
                have CE := hide (show ∀ u : World, Below w1.heap.size w1 u → (u.cell? ⟨b0, off + i * 2, none⟩ = some (.int .i64 x.1) ∧ u.cell? ⟨b0, off + i * 2 + 1, none⟩ = some (.int .i64 x.2) ∧ u.cell? ⟨b0, off + q * 2 + 1, none⟩ = some (.int .i64 y.2)) from fun u hu => ⟨by have := (HAT.out u hu i hil).1; rwa [← HXI.out] at this, by have := (HAT.out u hu i hil).2; rwa [← HXI.out] at this, by have := (HAT.out u hu q hqp).2; rwa [← HYI.out] at this⟩)
                have HBD := hide HBZ.out.drew
                go_wp2_with fail
                refine wp_region_held_drew (S := fun u => u.cell? ⟨b0, off + i * 2, none⟩ = some (.int .i64 x.1) ∧ u.cell? ⟨b0, off + i * 2 + 1, none⟩ = some (.int .i64 x.2) ∧ u.cell? ⟨b0, off + q * 2 + 1, none⟩ = some (.int .i64 y.2)) (by kernel_rfl) (CE.out _ HBD.out) (fun hHeld => ?_)
                refine Man.t1 0 hHeld ?_
                (try simp only [Act.put, Mqa, Mqb, Mqc])
                refine Man.t1 1 hHeld ?_
                (try simp only [Act.put, Mqa, Mqb, Mqc])
                refine Man.t1 2 hHeld ?_
                (try simp only [Act.put, Mqa, Mqb, Mqc])
                refine Man.t1 3 hHeld ?_
                (try simp only [Act.put, Mqa, Mqb, Mqc])
                refine Man.one (i := 4) rfl (by kernel_rfl) (fun K9 hK => ?_)
                go_simp
                with_reducible refine (CR.out _).mono ?_
                rintro e z5 ⟨rfl, hb⟩
                have HB5 := hide (HBD.out.trans (hb.mono HBD.out.size))
                have HZ5 := hide (HZD.out.trans (hb.mono HZD.out.size))
                clear hb
                refine hK.out _ _ (CE.out _ HB5.out) (fun hNew => ?_)
                clear hK K9 hHeld
                have hHeld := hNew
                clear hNew
                (try simp only [Act.put, Mqa, Mqb, Mqc])
                refine Man.t1 5 hHeld ?_
                (try simp only [Act.put, Mqa, Mqb, Mqc])
                refine Man.t1 6 hHeld ?_
                (try simp only [Act.put, Mqa, Mqb, Mqc])
                refine Man.t1 7 hHeld ?_
                (try simp only [Act.put, Mqa, Mqb, Mqc])
                refine Man.t1 8 hHeld ?_
                (try simp only [Act.put, Mqa, Mqb, Mqc])
                refine Man.t1 9 hHeld ?_
                (try simp only [Act.put, Mqa, Mqb, Mqc])
                refine Man.t1 10 hHeld ?_
                (try simp only [Act.put, Mqa, Mqb, Mqc])
                refine Man.t1 11 hHeld ?_
                (try simp only [Act.put, Mqa, Mqb, Mqc])
                refine Man.t1 12 hHeld ?_
                (try simp only [Act.put, Mqa, Mqb, Mqc])
                refine Man.t1 13 hHeld ?_
                (try simp only [Act.put, Mqa, Mqb, Mqc])
                refine Man.t1 14 hHeld ?_
                (try simp only [Act.put, Mqa, Mqb, Mqc])
                refine Man.t1 15 hHeld ?_
                (try simp only [Act.put, Mqa, Mqb, Mqc])
                refine Man.t1 16 hHeld ?_
                (try simp only [Act.put, Mqa, Mqb, Mqc])
                refine Man.t1 17 hHeld ?_
                (try simp only [Act.put, Mqa, Mqb, Mqc])
                refine Man.t1 18 hHeld ?_
                (try simp only [Act.put, Mqa, Mqb, Mqc])
                refine Man.t1 19 hHeld ?_
                (try simp only [Act.put, Mqa, Mqb, Mqc])
                refine Man.t1 20 hHeld ?_
                (try simp only [Act.put, Mqa, Mqb, Mqc])
                refine Man.t1 21 hHeld ?_
                (try simp only [Act.put, Mqa, Mqb, Mqc])
                refine Man.t1 22 hHeld ?_
                (try simp only [Act.put, Mqa, Mqb, Mqc])
                refine Man.t1 23 hHeld ?_
                (try simp only [Act.put, Mqa, Mqb, Mqc])
                refine wpAnyH_done (by kernel_rfl) ?_ _
                go_wp2_with fail
                go_roundw
                case rel => exact ⟨i + 1, by rw [HX3.out], by go_num, by omega, HZ5⟩
                case measure => simp [intOf]; omega
          · obtain rfl : i = p := by omega
            have g2 : ¬ (i : Int) < (i : Int) := by omega
            have HS := hide (show hasB (m.take i) t = bo from by rw [HP.out, List.take_length, HO.out])
            rw [HS.out]
            have HVZ := hide (HV.out.later HBW.out (Nat.le_refl _))
            have HTZ := hide (HT.out.spans.later HZ.out (Nat.le_refl _))
            have HBZ := hide (HB1.out.trans (HBW.out.mono HB1.out.size))
            have HLM := hide (show m.length ≤ 1000 from by rw [← HP.out]; omega)
            have HMM := hide (show norm m = m from by rw [HM.out]; exact norm_again (norm_ok l).1)
            have HMR := hide (show norm l.reverse = m from by rw [HM.out]; exact norm_same (rev_has l))
            have C1 := hide (norm_any HVZ.out HLM.out)
            go_wp2_with fail
            have hp9 := HP.out
            rw [hp9]
            refine C1.out.mono ?_
            rintro e z1 ⟨v1, rfl, hrow, hb⟩
            rw [HMM.out] at hrow
            have HB2 := hide (HBZ.out.trans (hb.mono HBZ.out.size))
            have HV2 := hide (HVZ.out.later hb (Nat.le_refl _))
            have HT2 := hide (HTZ.out.later hb (Nat.le_refl _))
            have C2 := hide (same_y hrow.spans HV2.out HLM.out)
            clear hrow hb C1 HBZ HVZ HTZ
            go_wp2_with fail
            refine C2.out.mono ?_
            rintro e z2 ⟨rfl, hb⟩
            have HB3 := hide (HB2.out.trans (hb.mono HB2.out.size))
            have HV3 := hide (HV2.out.later hb (Nat.le_refl _))
            have HT3 := hide (HT2.out.later hb (Nat.le_refl _))
            have C3 := hide (norm_any HT3.out (by rw [List.length_reverse]; exact HL.out))
            clear hb C2 HB2 HV2 HT2
            go_wp2_with fail
            refine C3.out.mono ?_
            rintro e z3 ⟨v3, rfl, hrow, hb⟩
            rw [HMR.out] at hrow
            have HB4 := hide (HB3.out.trans (hb.mono HB3.out.size))
            have HV4 := hide (HV3.out.later hb (Nat.le_refl _))
            have C4 := hide (same_y hrow.spans HV4.out HLM.out)
            clear hrow hb C3 HB3 HV3 HT3
            go_wp2_with fail
            refine C4.out.mono ?_
            rintro e z4 ⟨rfl, hb⟩
            have HB5 := hide (HB4.out.trans (hb.mono HB4.out.size))
            clear hb C4 HB4 HV4
            go_wp2_with fail
            refine (known_any _).mono ?_
            rintro e z5 ⟨rfl, hb⟩
            have HB6 := hide (HB5.out.trans (hb.mono HB5.out.size))
            clear hb
            go_wp2_with fail
            go_ret
            exact ⟨rfl, HB6.out⟩
      · obtain ⟨q, rfl⟩ : ∃ q, j = q + 1 := ⟨j - 1, by omega⟩
        have e0 : (((q + 1 : Nat) : Int) - 1) = (q : Int) := by omega
        have hql : q < l.length := by rw [← HN.out]; omega
        rw [e0]
        have g2 : ¬ (q : Int) < 0 := by omega
        have g2b : (0 : Int) ≤ (q : Int) := by omega
        have g3 : (q : Int) < (n : Int) := by omega
        have f2 : IntKind.i64.wrap ((q : Int) - 1) = (q : Int) - 1 := by simp only [IntKind.wrap_i64]; omega
        have HAW := hide (show ∀ u : World, Below w1.heap.size w1 u → SpansAt l (.slice so l.length sc) u from fun u hu => HA.out.later (HB1.out.trans (hu.mono HB1.out.size)) (Nat.le_refl _))
        obtain ⟨b0, off, cap, he, hbw, k0, k1⟩ := (HAW.out wr HB.out).at q hql
        simp only [Value.slice.injEq] at he
        obtain ⟨rfl, _, rfl⟩ := he
        have HAT := hide (show ∀ u : World, Below w1.heap.size w1 u → u.cell? ⟨b0, off + q * 2, none⟩ = some (.int .i64 (l[q]).1) ∧ u.cell? ⟨b0, off + q * 2 + 1, none⟩ = some (.int .i64 (l[q]).2) from fun u hu => ((HAW.out u hu).got q hql).2)
        have HBK := hide (back_step hql)
        have HLB := hide (show (back l (q + 1)).length ≤ 1000 from by have := back_len l (q + 1); have := HL.out; omega)
        obtain ⟨x, hx⟩ : ∃ x, x = l[q] := ⟨_, rfl⟩
        rw [← hx] at k0 k1 HAT HBK
        clear hx
        obtain ⟨bs, hbs⟩ : ∃ bs, bs = hasB (back l (q + 1)) t := ⟨_, rfl⟩
        obtain ⟨bx, hbx⟩ : ∃ bx, decide (Has (x.1, x.2) t) = bx := ⟨_, rfl⟩
        have CX := hide (fun w => has_v hbx w)
        have HX2 := hide (show hasB (back l q) t = (bs || bx) from by rw [HBK.out, hasB_snoc, hbs, ← hbx])
        rw [← hbs]
        clear hbs hbx e0
        cases bs
        · go_wp2_with fail
          refine (CX.out _).mono ?_
          rintro e w2 ⟨rfl, hb⟩
          have HR2 := hide (HR.out.later hb (Nat.le_refl _))
          have HB2 := hide (HB.out.trans (hb.mono HB.out.size))
          clear hb k0 k1
          obtain ⟨k0, k1⟩ := HAT.out w2 HB2.out
          have HX3 := hide (show hasB (back l q) t = bx from by rw [HX2.out]; rfl)
          clear HX2 CX
          go_wp2_with (at_builtin; refine wpList_row rfl _ _ rfl rfl rfl (HR2.out.later (below_alloc _ _) (Nat.le_refl _)) (one_at w2 x) ?c1 ?c2 (fun u w3 hu hg hob => ?_))
          case c1 => have := HLB.out; simp; omega
          case c2 => exact Nat.le_trans HB2.out.size (by simp)
          have HR3 := hide (show Row w1.heap.size (back l q) u w3 from by rw [HBK.out]; exact hu)
          have HB3 := hide (show Below w1.heap.size w1 w3 from (HB2.out.trans ((below_alloc w2 _).mono HB2.out.size)).grown hg (by have := HB2.out.size; simp; omega) (fun k hk => (HR2.out.lt k hk).1))
          clear hu hg hob
          go_wp2_with fail
          go_roundw
          case rel => exact ⟨q, by rw [HX3.out], by first | rfl | go_num, by omega, HR3, HB3⟩
          case measure => simp [intOf]
        · have HR2 := HR
          have HB2 := HB
          have HX3 := hide (show hasB (back l q) t = true from by rw [HX2.out]; rfl)
          clear HX2 CX
          go_wp2_with (at_builtin; refine wpList_row rfl _ _ rfl rfl rfl (HR2.out.later (below_alloc _ _) (Nat.le_refl _)) (one_at wr x) ?c1 ?c2 (fun u w3 hu hg hob => ?_))
          case c1 => have := HLB.out; simp; omega
          case c2 => exact Nat.le_trans HB2.out.size (by simp)
          have HR3 := hide (show Row w1.heap.size (back l q) u w3 from by rw [HBK.out]; exact hu)
          have HB3 := hide (show Below w1.heap.size w1 w3 from (HB2.out.trans ((below_alloc wr _).mono HB2.out.size)).grown hg (by have := HB2.out.size; simp; omega) (fun k hk => (HR2.out.lt k hk).1))
          clear hu hg hob
          go_wp2_with fail
          go_roundw
          case rel => exact ⟨q, by rw [HX3.out], by first | rfl | go_num, by omega, HR3, HB3⟩
          case measure => simp [intOf]
  · have g1 : (60 : Int) < (n : Int) := by omega
    rw [← hn]
    clear hb6 h hn HA
    go_enter Try.func6, Try.ntmps6
    go_wp2_with fail
    refine (known_any _).mono ?_
    rintro e z1 ⟨rfl, hb⟩
    go_wp2_with fail
    go_ret
    exact ⟨rfl, hb⟩
theorem laidOut : laidOutB Try.prog = true := by kernel_rfl
set_option maxRecDepth 100000 in
theorem contract (H : Type) (enc : TypeId × Value → H) (W : World) (base : Nat) (args : Array Value) (ds gs : List (DataW H)) (before : List MemPlace)
    (hval : ∀ (j : Nat) t v, Try.f6.params[j]? = some t → args[j]? = some v → Value.okWide Try.prog W .any base t v)
    (hW : DataW.Whole enc Try.prog Try.f6.params.toList Rows.spanFewSpec.vars false W args.toList ds gs before)
    (hsz0 : (DataW.weightsEach Try.prog (Try.f6.params.toList ++ Rows.spanFewSpec.plain.varTypes Try.prog) (ds ++ gs)).all (· ≤ reachBytes) = true) :
    Calls Try.prog 6 args W fun e W' => ∃ v, e = .returned v ∧ Rows.spanFewSpec.post enc Try.prog Try.f6 false true false false W args v W' := by
  have hW' := hW
  obtain ⟨p, q, hA0, hV, rfl, hfz, hnd⟩ := hW
  have hA : DataW.TrodAll enc Try.prog W 0 (fun _ => true) true Try.f6.params.toList args.toList ds p := hA0
  rw [Try.params6] at hA hval hsz0
  obtain ⟨v0, vs0, d0, ds0, p0, q0, hargs, rfl, rfl, h0, r0⟩ := trodAll_cons hA
  obtain ⟨v1, vs1, d1, ds1, p1, q1, rfl, rfl, rfl, h1, r1⟩ := trodAll_cons r0
  obtain ⟨rfl, rfl, rfl⟩ := trodAll_nil r1
  obtain rfl : args = #[v0, v1] := by cases args; simp_all
  obtain ⟨rfl, rfl⟩ := trodVars_none hV
  have hsz := fun n hn => of_decide_eq_true (List.all_eq_true.1 hsz0 n hn)
  obtain ⟨t, rfl, hd1, hp1, wt⟩ := open_int Try.underlying3 (hval 1 3 v1 rfl rfl) h1
  have bt := bounds_i64 wt
  obtain ⟨l, hml⟩ := Spn.open_spans (hval 0 29 v0 rfl rfl) h0
  clear hA0 hsz0
  simp only [List.append_nil] at hW'
  have hlt : ∀ x ∈ p0 ++ p1, x.block < W.heap.size := fun x hx => hW'.lt x (by simpa using hx)
  have walk := walk hml t
  refine walk.mono fun e W' ⟨he, hg⟩ => ?_
  subst he
  refine ⟨_, rfl, Fr.post_made (pa := p0 ++ p1) (pv := []) hW' (fun _ _ _ => trodAll_cons_mk (shut_bool Try.underlying4 _) trodAll_mk0) (fun sp hsp => ?_) (fun _ _ => rfl) (by simp) hg (ok_one (by kernel_rfl) rfl (okWide_bool_mk Try.underlying4 _))⟩
  have g0 : DataW.Trod enc Try.prog W' 0 sp true 29 _ d0 p0 := WideElems.Trod_stays laidOut (by kernel_rfl) (of_decide_eq_true (by kernel_rfl)) h0 (fun x hx => hg.same (hlt x (by simp [hx]))) (fun x hx => hsp x (by simp [hx]))
  have g1 : DataW.Trod enc Try.prog W' 0 sp true 3 _ d1 p1 := WideElems.Trod_stays laidOut (by kernel_rfl) (of_decide_eq_true (by kernel_rfl)) h1 (fun x hx => hg.same (hlt x (by simp [hx]))) (fun x hx => hsp x (by simp [hx]))
  have hT := (trodAll_cons_mk g0 (trodAll_cons_mk g1 trodAll_mk0))
  simp only [List.append_nil] at hT
  exact hT
set_option maxRecDepth 100000 in
theorem lifted (os : Os) (started : os.Started) (H : Type) (enc : TypeId × Value → H) :
    ReturnsInHanded {} Try.checked os 6 .any (Rows.spanFewSpec.pre6 enc Try.prog Try.f6 Rows.spanFewRow.domain false) (Rows.spanFewSpec.post enc Try.prog Try.f6 false true false false) := by
  refine returnsInHanded_of_change_sized (C := Try.checked) Fr.own started (by kernel_rfl) Try.func6
    (ChangeSpec.witness6 (enc := enc) (C := Try.checked) false ⟨#[], #[.slice none 0 0, .int .i64 0], []⟩ 8 (by kernel_rfl) (by kernel_rfl) (by kernel_rfl) (by kernel_rfl)) ?_
  intro W base args ds gs before hval hW _ hsz _
  exact contract H enc W base args ds gs before hval hW hsz
theorem said : Rows.SpanFewSaid :=
  OpenClaim.holds_of_wide 6 Try.f6 rfl rfl rfl rfl rfl rfl rfl ⟨rfl, rfl, rfl, rfl, rfl⟩ rfl rfl rfl rfl rfl (by kernel_rfl) Try.func6 (by kernel_rfl)
    (of_decide_eq_true (by kernel_rfl)) (by unfold Func.isWrapper; first | (rw [if_pos (by decide +kernel)]; kernel_rfl) | (rw [if_neg (by decide +kernel)]; exact ⟨rfl, rfl⟩))
    (fun os started H enc _ => lifted os started H enc)
end LaSpanFew
end Go.Proofs.Ytjlejfjkigohhaa
