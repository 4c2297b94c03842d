/- The document's Stab, Overlap, Max, Same, New. Condition: less than a thousand items, texts below 2^62. -/
import Derived.Test.YtapdhelioecneaaU7
import Derived.Lib.MinMax
namespace Go.Proofs.Ytapdhelioecneaa
open Go.RowKit
namespace Idx
theorem filter_take {l : List It} {i : Nat} (hi : i < l.length) (c : It → Bool) : (l.take (i + 1)).filter c = (l.take i).filter c ++ if c l[i] = true then [l[i]] else [] := by
  rw [List.take_succ_eq_append_getElem hi, List.filter_append]
  congr 1
  cases h : c l[i] with
  | true => rw [List.filter_cons_of_pos h]; rfl
  | false => rw [List.filter_cons_of_neg (by rw [h]; simp)]; rfl
theorem filter_short (l : List It) (c : It → Bool) (i : Nat) : ((l.take i).filter c).length ≤ l.length := Nat.le_trans (List.length_filter_le _ _) (by rw [List.length_take]; omega)
/-- What a question comes to: these items, in a row of the call's own. -/
def AskP (l : List It) (w : World) (e : Ending) (w' : World) : Prop := ∃ v, e = .returned v ∧ Row4 36 w.heap.size l v w' ∧ Below w.heap.size w w'
set_option maxHeartbeats 8000000 in
set_option maxRecDepth 100000 in
theorem rstab_any {R : Nat} {F : Nat → Prop} {L : List It} {w : World} (h : RX R F L w) (hl : L.length ≤ 900) (hkb : Kb L) (lo hi : List UInt8) (t : Int) (hlo : lo.length ≤ 140737488351232) (hhi : hi.length ≤ 140737488351232) :
    Calls Try.prog 21 #[.pointer (some ⟨R, 0, none⟩), .string (S lo), .string (S hi), .int .i64 t] w fun e w' => AskP (L.filter (stabB lo hi t)) w e w' := by
  have HR0 := hide h
  have HRX := hide (show ∀ z, Below w.heap.size w z → RX R F L z from fun z hz => h.later hz (Nat.le_refl _))
  have HB0 := hide (Below.refl w.heap.size w)
  obtain ⟨ao, cap, hcl, hcm, q0, _, ho, _, _⟩ := HR0.out.open
  have HA := hide ho.items
  obtain ⟨n, hn⟩ : ∃ n, n = L.length := ⟨_, rfl⟩
  rw [← hn] at q0 hcl hl
  have HN := hide hn
  have HQ := hide (show ∀ u : World, Below w.heap.size w u → u.cell? ⟨R, 0, none⟩ = some (.slice ao n cap) from fun u hu => by rw [hu.cell (p := ⟨R, 0, none⟩) HR0.out.lt]; exact q0)
  have HKB := hide hkb
  clear h ho hn hkb q0
  go_enter Try.func21, Try.ntmps21
  have q0 := HQ.out _ HB0.out
  go_wp2_with fail
  go_loopw [9, 10] (fun ov ii wr => ∃ i : Nat, ii = .int .i64 i ∧ i ≤ n ∧ Hid (Row4 36 w.heap.size ((L.take i).filter (stabB lo hi t)) ov wr) ∧ Hid (Below w.heap.size w wr)) (fun _ ii _ => (n - (intOf ii).toNat))
  case atStart => exact ⟨0, rfl, by omega, hide (Row4.nil _ _ _), hide (Below.refl _ _)⟩
  case round =>
    rename World => wr
    obtain ⟨i, rfl, hin, HO, HB⟩ := hrel
    clear q0
    have HBw := hide (HB0.out.trans (HB.out.mono HB0.out.size))
    have q0 := HQ.out wr HBw.out
    rcases Nat.lt_or_ge i n with hlt | hge
    · have g1 : (i : Int) < (n : Int) := by omega
      have hil : i < L.length := by rw [← HN.out]; exact hlt
      obtain ⟨b0, off, cap', he, hbw, k0, k1, k2, k3⟩ := (HA.out.later HBw.out (Nat.le_refl _)).at i hil
      rw [← HN.out] at he
      simp only [Value.slice.injEq, true_and] at he
      obtain ⟨rfl, rfl⟩ := he
      have HTK := hide (filter_take hil (stabB lo hi t))
      have HSH := hide (show ((L.take i).filter (stabB lo hi t)).length ≤ 900 from Nat.le_trans (filter_short L _ i) (by rw [← HN.out]; exact hl))
      have HKX := hide (HKB.out _ (List.getElem_mem hil))
      obtain ⟨x, hx⟩ : ∃ x, x = L[i] := ⟨_, rfl⟩
      rw [← hx] at k0 k1 k2 k3 HTK HKX
      clear hx hbw
      obtain ⟨am, ham⟩ : ∃ am, amongB x.k lo hi = am := ⟨_, rfl⟩
      have CA := hide (fun u => ramong_is ham u HKX.out hlo hhi)
      have HAM := hide ham
      have HQA := hide (below_alloc wr (.cells #[.string (S x.k), .int .i64 x.s, .int .i64 x.e, .int .i64 x.id] 36))
      have HBA := hide (HB.out.trans (HQA.out.mono HB.out.size))
      have HOA := hide (HO.out.later HQA.out (Nat.le_refl _))
      have HXA := hide (Bx.new wr x 36)
      have hltA : wr.heap.size < (wr.alloc (.cells #[.string (S x.k), .int .i64 x.s, .int .i64 x.e, .int .i64 x.id] 36)).heap.size := by simp
      have HLTA := hide hltA
      clear ham hltA
      cases am with
      | false =>
        have HNO := hide (show stabB lo hi t x = false from by unfold stabB; rw [HAM.out]; rfl)
        go_wp2_with fail
        refine (CA.out _).mono ?_
        rintro e w1 ⟨rfl, hb⟩
        have HO1 := hide (HOA.out.later hb (Nat.le_refl _))
        have HB1 := hide (HBA.out.trans (hb.mono HBA.out.size))
        have HX1 := hide (HXA.out.later hb HLTA.out)
        obtain ⟨m0, m1, m2, m3, _⟩ := HX1.out
        clear hb
        go_wp2_with fail
        go_roundw
        case rel => exact ⟨i + 1, by go_num, by omega, by rw [HTK.out, HNO.out, if_neg (by simp), List.append_nil]; exact HO1, HB1⟩
        case measure => simp [intOf]; omega
      | true =>
        by_cases h1 : x.s ≤ t
        · by_cases h2 : t < x.e
          · have HYES := hide (show stabB lo hi t x = true from by unfold stabB; rw [HAM.out, decide_eq_true h1, decide_eq_true h2]; rfl)
            go_wp2_with fail
            refine (CA.out _).mono ?_
            rintro e w1 ⟨rfl, hb⟩
            have HO1 := hide (HOA.out.later hb (Nat.le_refl _))
            have HB1 := hide (HBA.out.trans (hb.mono HBA.out.size))
            have HX1 := hide (HXA.out.later hb HLTA.out)
            obtain ⟨m0, m1, m2, m3, _⟩ := HX1.out
            have HQ1 := hide (below_alloc w1 (.cells #[.string (S x.k), .int .i64 x.s, .int .i64 x.e, .int .i64 x.id] 36))
            have HM1 := hide (show ItemsAt [x] (.slice (some ⟨w1.heap.size, 0, none⟩) 1 1) (w1.alloc (.cells #[.string (S x.k), .int .i64 x.s, .int .i64 x.e, .int .i64 x.id] 36)) from one4_at w1 x 36 rfl)
            have HO2 := hide (HO1.out.later HQ1.out (Nat.le_refl _))
            have HB2 := hide (HB1.out.trans (HQ1.out.mono HB1.out.size))
            clear hb
            go_wp2_with (at_builtin; refine wpList_row4 tyR rfl _ _ rfl rfl rfl HO2.out HM1.out (by have := HSH.out; simp; omega) HB2.out.size ?_)
            intro u z3 hu hg hob
            have HU := hide hu
            have HB3 := hide (HB2.out.grown hg HB2.out.size (fun k9 hk9 => (HO2.out.lt k9 hk9).1))
            clear hu hg hob
            go_wp2_with fail
            go_roundw
            case rel => exact ⟨i + 1, by go_num, by omega, by rw [HTK.out, HYES.out, if_pos rfl]; exact HU, HB3⟩
            case measure => simp [intOf]; omega
          · have HNO := hide (show stabB lo hi t x = false from by unfold stabB; rw [decide_eq_false h2]; simp)
            go_wp2_with fail
            refine (CA.out _).mono ?_
            rintro e w1 ⟨rfl, hb⟩
            have HO1 := hide (HOA.out.later hb (Nat.le_refl _))
            have HB1 := hide (HBA.out.trans (hb.mono HBA.out.size))
            have HX1 := hide (HXA.out.later hb HLTA.out)
            obtain ⟨m0, m1, m2, m3, _⟩ := HX1.out
            clear hb
            go_wp2_with fail
            go_roundw
            case rel => exact ⟨i + 1, by go_num, by omega, by rw [HTK.out, HNO.out, if_neg (by simp), List.append_nil]; exact HO1, HB1⟩
            case measure => simp [intOf]; omega
        · have HNO := hide (show stabB lo hi t x = false from by unfold stabB; rw [decide_eq_false h1]; simp)
          go_wp2_with fail
          refine (CA.out _).mono ?_
          rintro e w1 ⟨rfl, hb⟩
          have HO1 := hide (HOA.out.later hb (Nat.le_refl _))
          have HB1 := hide (HBA.out.trans (hb.mono HBA.out.size))
          have HX1 := hide (HXA.out.later hb HLTA.out)
          obtain ⟨m0, m1, m2, m3, _⟩ := HX1.out
          clear hb
          go_wp2_with fail
          go_roundw
          case rel => exact ⟨i + 1, by go_num, by omega, by rw [HTK.out, HNO.out, if_neg (by simp), List.append_nil]; exact HO1, HB1⟩
          case measure => simp [intOf]; omega
    · obtain rfl : i = n := by omega
      have g1 : ¬ (i : Int) < (i : Int) := by omega
      have HE := hide (show Row4 36 w.heap.size (L.filter (stabB lo hi t)) u9 wr from by have h9 := HO.out; rw [HN.out, List.take_length] at h9; exact h9)
      go_wp2_with fail
      go_ret
      exact ⟨u9, rfl, HE.out.mono (HB0.out.size), HBw.out⟩
set_option maxHeartbeats 8000000 in
set_option maxRecDepth 100000 in
theorem rover_any {R : Nat} {F : Nat → Prop} {L : List It} {w : World} (h : RX R F L w) (hl : L.length ≤ 900) (hkb : Kb L) (lo hi : List UInt8) (a b : Int) (hlo : lo.length ≤ 140737488351232) (hhi : hi.length ≤ 140737488351232) :
    Calls Try.prog 23 #[.pointer (some ⟨R, 0, none⟩), .string (S lo), .string (S hi), .agg #[.int .i64 a, .int .i64 b]] w fun e w' => AskP (L.filter (overB lo hi a b)) w e w' := by
  have HR0 := hide h
  have HRX := hide (show ∀ z, Below w.heap.size w z → RX R F L z from fun z hz => h.later hz (Nat.le_refl _))
  have HB0 := hide (below_alloc w (.cells #[.int .i64 a, .int .i64 b] 46))
  have HS0 := hide (show ∀ u : World, Below (w.alloc (.cells #[.int .i64 a, .int .i64 b] 46)).heap.size (w.alloc (.cells #[.int .i64 a, .int .i64 b] 46)) u → u.cell? ⟨w.heap.size, 0, none⟩ = some (.int .i64 a) ∧ u.cell? ⟨w.heap.size, 1, none⟩ = some (.int .i64 b) from fun u hu => ⟨by rw [hu.cell (p := ⟨w.heap.size, 0, none⟩) (by simp)]; go_keep, by rw [hu.cell (p := ⟨w.heap.size, 1, none⟩) (by simp)]; go_keep⟩)
  obtain ⟨w0, hw0⟩ : ∃ w0, w0 = w.alloc (.cells #[.int .i64 a, .int .i64 b] 46) := ⟨_, rfl⟩
  rw [← hw0] at HS0 HB0
  have HW0 := hide hw0
  clear hw0
  obtain ⟨ao, cap, hcl, hcm, q0, _, ho, _, _⟩ := HR0.out.open
  have HA := hide ho.items
  obtain ⟨n, hn⟩ : ∃ n, n = L.length := ⟨_, rfl⟩
  rw [← hn] at q0 hcl hl
  have HN := hide hn
  have HQ := hide (show ∀ u : World, Below w.heap.size w u → u.cell? ⟨R, 0, none⟩ = some (.slice ao n cap) from fun u hu => by rw [hu.cell (p := ⟨R, 0, none⟩) HR0.out.lt]; exact q0)
  have HKB := hide hkb
  clear h ho hn hkb q0
  go_enter Try.func23, Try.ntmps23
  have q0 := HQ.out _ HB0.out
  go_wp2_with fail
  rw [← HW0.out]
  go_loopw [9, 10] (fun ov ii wr => ∃ i : Nat, ii = .int .i64 i ∧ i ≤ n ∧ Hid (Row4 36 w0.heap.size ((L.take i).filter (overB lo hi a b)) ov wr) ∧ Hid (Below w0.heap.size w0 wr)) (fun _ ii _ => (n - (intOf ii).toNat))
  case atStart => exact ⟨0, rfl, by omega, hide (Row4.nil _ _ _), hide (Below.refl _ _)⟩
  case round =>
    rename World => wr
    obtain ⟨i, rfl, hin, HO, HB⟩ := hrel
    clear q0
    have HBw := hide (HB0.out.trans (HB.out.mono HB0.out.size))
    have q0 := HQ.out wr HBw.out
    rcases Nat.lt_or_ge i n with hlt | hge
    · have g1 : (i : Int) < (n : Int) := by omega
      have hil : i < L.length := by rw [← HN.out]; exact hlt
      obtain ⟨b0, off, cap', he, hbw, k0, k1, k2, k3⟩ := (HA.out.later HBw.out (Nat.le_refl _)).at i hil
      rw [← HN.out] at he
      simp only [Value.slice.injEq, true_and] at he
      obtain ⟨rfl, rfl⟩ := he
      have HTK := hide (filter_take hil (overB lo hi a b))
      have HSH := hide (show ((L.take i).filter (overB lo hi a b)).length ≤ 900 from Nat.le_trans (filter_short L _ i) (by rw [← HN.out]; exact hl))
      have HKX := hide (HKB.out _ (List.getElem_mem hil))
      obtain ⟨x, hx⟩ : ∃ x, x = L[i] := ⟨_, rfl⟩
      rw [← hx] at k0 k1 k2 k3 HTK HKX
      clear hx hbw
      obtain ⟨am, ham⟩ : ∃ am, amongB x.k lo hi = am := ⟨_, rfl⟩
      have CA := hide (fun u => ramong_is ham u HKX.out hlo hhi)
      have HAM := hide ham
      have HQA := hide (below_alloc wr (.cells #[.string (S x.k), .int .i64 x.s, .int .i64 x.e, .int .i64 x.id] 36))
      have HBA := hide (HB.out.trans (HQA.out.mono HB.out.size))
      have HOA := hide (HO.out.later HQA.out (Nat.le_refl _))
      have HXA := hide (Bx.new wr x 36)
      have hltA : wr.heap.size < (wr.alloc (.cells #[.string (S x.k), .int .i64 x.s, .int .i64 x.e, .int .i64 x.id] 36)).heap.size := by simp
      have HLTA := hide hltA
      clear ham hltA
      cases am with
      | false =>
        have HNO := hide (show overB lo hi a b x = false from by unfold overB; rw [HAM.out]; rfl)
        go_wp2_with fail
        refine (CA.out _).mono ?_
        rintro e w1 ⟨rfl, hb⟩
        have HO1 := hide (HOA.out.later hb (Nat.le_refl _))
        have HB1 := hide (HBA.out.trans (hb.mono HBA.out.size))
        have HX1 := hide (HXA.out.later hb HLTA.out)
        obtain ⟨m0, m1, m2, m3, _⟩ := HX1.out
        obtain ⟨s0, s1⟩ := HS0.out w1 HB1.out
        clear hb
        go_wp2_with fail
        go_roundw
        case rel => exact ⟨i + 1, by go_num, by omega, by rw [HTK.out, HNO.out, if_neg (by simp), List.append_nil]; exact HO1, HB1⟩
        case measure => simp [intOf]; omega
      | true =>
        by_cases h1 : max x.s a < min x.e b
        · have HYES := hide (show overB lo hi a b x = true from by unfold overB; rw [HAM.out, decide_eq_true h1]; rfl)
          go_wp2_with fail
          refine (CA.out _).mono ?_
          rintro e w1 ⟨rfl, hb⟩
          have HO1 := hide (HOA.out.later hb (Nat.le_refl _))
          have HB1 := hide (HBA.out.trans (hb.mono HBA.out.size))
          have HX1 := hide (HXA.out.later hb HLTA.out)
          obtain ⟨m0, m1, m2, m3, _⟩ := HX1.out
          obtain ⟨s0, s1⟩ := HS0.out w1 HB1.out
          have HQ1 := hide (below_alloc w1 (.cells #[.string (S x.k), .int .i64 x.s, .int .i64 x.e, .int .i64 x.id] 36))
          have HM1 := hide (show ItemsAt [x] (.slice (some ⟨w1.heap.size, 0, none⟩) 1 1) (w1.alloc (.cells #[.string (S x.k), .int .i64 x.s, .int .i64 x.e, .int .i64 x.id] 36)) from one4_at w1 x 36 rfl)
          have HO2 := hide (HO1.out.later HQ1.out (Nat.le_refl _))
          have HB2 := hide (HB1.out.trans (HQ1.out.mono HB1.out.size))
          clear hb
          go_wp2_with (at_builtin; refine wpList_row4 tyR rfl _ _ rfl rfl rfl HO2.out HM1.out (by have := HSH.out; simp; omega) HB2.out.size ?_)
          intro u z3 hu hg hob
          have HU := hide hu
          have HB3 := hide (HB2.out.grown hg HB2.out.size (fun k9 hk9 => (HO2.out.lt k9 hk9).1))
          clear hu hg hob
          go_wp2_with fail
          go_roundw
          case rel => exact ⟨i + 1, by go_num, by omega, by rw [HTK.out, HYES.out, if_pos rfl]; exact HU, HB3⟩
          case measure => simp [intOf]; omega
        · have HNO := hide (show overB lo hi a b x = false from by unfold overB; rw [decide_eq_false h1]; simp)
          go_wp2_with fail
          refine (CA.out _).mono ?_
          rintro e w1 ⟨rfl, hb⟩
          have HO1 := hide (HOA.out.later hb (Nat.le_refl _))
          have HB1 := hide (HBA.out.trans (hb.mono HBA.out.size))
          have HX1 := hide (HXA.out.later hb HLTA.out)
          obtain ⟨m0, m1, m2, m3, _⟩ := HX1.out
          obtain ⟨s0, s1⟩ := HS0.out w1 HB1.out
          clear hb
          go_wp2_with fail
          go_roundw
          case rel => exact ⟨i + 1, by go_num, by omega, by rw [HTK.out, HNO.out, if_neg (by simp), List.append_nil]; exact HO1, HB1⟩
          case measure => simp [intOf]; omega
    · obtain rfl : i = n := by omega
      have g1 : ¬ (i : Int) < (i : Int) := by omega
      have HE := hide (show Row4 36 w0.heap.size (L.filter (overB lo hi a b)) u9 wr from by have h9 := HO.out; rw [HN.out, List.take_length] at h9; exact h9)
      go_wp2_with fail
      go_ret
      exact ⟨u9, rfl, HE.out.mono (HB0.out.size), HBw.out⟩
set_option maxHeartbeats 4000000 in
set_option maxRecDepth 100000 in
theorem rmax_any {R : Nat} {F : Nat → Prop} {L : List It} {w : World} (h : RX R F L w) (hl : L.length ≤ 900) :
    Calls Try.prog 28 #[.pointer (some ⟨R, 0, none⟩)] w fun e w' => e = .returned (.int .i64 (maxE L)) ∧ Below w.heap.size w w' := by
  obtain ⟨ao, cap, hcl, hcm, q0, _, ho, _, _⟩ := h.open
  have HA := hide ho.items
  have HLT := hide h.lt
  obtain ⟨n, hn⟩ : ∃ n, n = L.length := ⟨_, rfl⟩
  rw [← hn] at q0 hcl hl
  have HN := hide hn
  have HQ := hide (show ∀ u : World, Below w.heap.size w u → u.cell? ⟨R, 0, none⟩ = some (.slice ao n cap) from fun u hu => by rw [hu.cell (p := ⟨R, 0, none⟩) h.lt]; exact q0)
  clear h ho hn
  go_enter Try.func28, Try.ntmps28
  go_wp2_with fail
  go_loopw [3, 4] (fun mv ii wr => ∃ i : Nat, ii = .int .i64 i ∧ i ≤ n ∧ mv = .int .i64 (maxE (L.take i)) ∧ Hid (Below w.heap.size w wr)) (fun _ ii _ => (n - (intOf ii).toNat))
  case atStart => exact ⟨0, rfl, by omega, rfl, hide (Below.refl _ _)⟩
  case round =>
    rename World => wr
    obtain ⟨i, rfl, hi, rfl, HB⟩ := hrel
    clear q0
    have q0 := HQ.out wr HB.out
    rcases Nat.lt_or_ge i n with hlt | hge
    · have g1 : (i : Int) < (n : Int) := by omega
      have hil : i < L.length := by rw [← HN.out]; exact hlt
      obtain ⟨b0, off, cap', he, hbw, k0, k1, k2, k3⟩ := (HA.out.later HB.out (Nat.le_refl _)).at i hil
      rw [← HN.out] at he
      simp only [Value.slice.injEq, true_and] at he
      obtain ⟨rfl, rfl⟩ := he
      have HTK := hide (maxE_take hil)
      obtain ⟨x, hx⟩ : ∃ x, x = L[i] := ⟨_, rfl⟩
      rw [← hx] at k0 k1 k2 k3 HTK
      clear hx hbw
      obtain ⟨m, hm⟩ : ∃ m, m = maxE (L.take i) := ⟨_, rfl⟩
      rw [← hm] at HTK ⊢
      clear hm
      go_wp2_with fail
      go_roundw
      case rel => exact ⟨i + 1, by go_num, by omega, by rw [HTK.out], HB⟩
      case measure => simp [intOf]; omega
    · obtain rfl : i = n := by omega
      have g1 : ¬ (i : Int) < (i : Int) := by omega
      have HE := hide (show maxE (L.take i) = maxE L from by rw [HN.out, List.take_length])
      go_wp2_with fail
      go_ret
      exact ⟨ret_int HE.out, HB.out⟩
end Idx
end Go.Proofs.Ytapdhelioecneaa
