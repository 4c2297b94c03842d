/- span.Norm: as few intervals as can be. Condition: no more than 1000 of them. -/
import Derived.Test.YtoacombaddknfaaIf
namespace Go.Proofs.Ytoacombaddknfaa
open Go.RowKit
namespace Spn
theorem puts_take {r : List Sp} {i : Nat} (hi : i < r.length) : puts (r.take (i + 1)) [] = put (puts (r.take i) []) r[i] := by
  unfold puts
  rw [List.take_succ_eq_append_getElem hi, List.foldl_append]
  rfl
theorem puts_len (r : List Sp) : (puts r []).length ≤ r.length := by
  have key : ∀ k, k ≤ r.length → (puts (r.take k) []).length ≤ k := by
    intro k
    induction k with
    | zero => intro _; simp [puts]
    | succ k ih =>
      intro hk
      rw [puts_take (by omega)]
      have := put_len (puts (r.take k) []) r[k]
      have := ih (by omega)
      omega
  have := key r.length (Nat.le_refl _)
  rwa [List.take_length] at this
set_option maxHeartbeats 4000000 in
set_option maxRecDepth 100000 in
theorem norm_any {l : List Sp} {sl : Value} {w : World} (h : SpansAt l sl w) (hl : l.length ≤ 1000) :
    Calls Try.prog 60 #[sl] w fun e w' => ∃ v : Value, e = .returned v ∧ Row w.heap.size (norm l) v w' ∧ Below w.heap.size w w' := by
  have HL := hide hl
  have C1 := hide (rising_any h hl)
  clear h hl
  go_enter Try.func60, Try.ntmps60
  go_wp2_with fail
  refine C1.out.mono ?_
  rintro e w1 ⟨r, v, rfl, hp, hs, hrow, hb⟩
  obtain ⟨ao, c, rfl, _, _⟩ := hrow.form
  have HP := hide (show puts r [] = norm l from puts_norm l r (fun s => by rw [hp.mem_iff]; simp [rights]) hs)
  have HLN := hide (show r.length ≤ 1000 from by have := hp.length_eq; have := rights_len l; have := HL.out; omega)
  have HA := hide hrow.spans
  have HB1 := hide hb
  obtain ⟨n, hn⟩ : ∃ n, n = r.length := ⟨_, rfl⟩
  rw [← hn]
  have HN := hide hn
  have hn2 : n ≤ 1000 := by rw [hn]; exact HLN.out
  clear hp hs hrow hb hn C1
  go_wp2_with fail
  go_loopw [3, 10] (fun rv ii wr => ∃ i : Nat, ii = .int .i64 i ∧ i ≤ n ∧ Hid (Row w1.heap.size (puts (r.take i) []) rv wr) ∧ Hid (Below w1.heap.size w1 wr)) (fun _ ii _ => (n - (intOf ii).toNat))
  case atStart => exact ⟨0, rfl, by omega, hide (Row.nil _ _), hide (Below.refl _ _)⟩
  case round =>
    rename World => wr
    obtain ⟨i, rfl, hi, HR, HB⟩ := hrel
    rcases Nat.lt_or_ge i n with hlt | hge
    · have g1 : (i : Int) < (n : Int) := by omega
      have hil : i < r.length := by rw [← HN.out]; exact hlt
      obtain ⟨b, off, cap, he, hbw, k0, k1⟩ := (HA.out.later HB.out (Nat.le_refl _)).at i hil
      rw [← HN.out] at he
      simp only [Value.slice.injEq] at he
      obtain ⟨rfl, _, rfl⟩ := he
      obtain ⟨x, hx⟩ : ∃ x, x = r[i] := ⟨_, rfl⟩
      rw [← hx] at k0 k1
      have HX := hide (show puts (r.take (i + 1)) [] = put (puts (r.take i) []) x from by rw [hx]; exact puts_take hil)
      clear hx
      have HLA := hide (show (puts (r.take i) []).length ≤ i from by
        have := puts_len (r.take i)
        rw [List.length_take] at this
        omega)
      obtain ⟨acc, hacc⟩ : ∃ acc, acc = puts (r.take i) [] := ⟨_, rfl⟩
      rw [← hacc] at HX HLA HR
      clear hacc
      rcases List.eq_nil_or_concat acc with rfl | ⟨A, q, rfl⟩
      · obtain ⟨uo, uc, rfl, _, _⟩ := HR.out.form
        rw [show ([] : List Sp).length = 0 from rfl] at HR
        show Code.wp _ _ _ { tmps := #[_, _, _, Value.slice uo 0 uc, _, _, _, _, _, _, _, _, _, _, _, _, _, _, _, _, _, _, _, _, _, _, _, _, _, _, _, _, _, _, _, _, _, _, _, _, _, _, _, _, _, _, _], defers := _ } _
        go_wp2_with fail
        go_region
        obtain ⟨w2, hw2⟩ : ∃ w2, w2 = (wr.alloc (.cells #[.int .i64 x.1, .int .i64 x.2] 24)).drew := ⟨_, rfl⟩
        rw [← hw2]
        obtain ⟨⟨a0, a1, _, _, _⟩, hb2⟩ : At x wr.heap.size w2 ∧ Below wr.heap.size wr w2 := by
          rw [hw2]
          have ha := At.new wr x.1 x.2 24
          exact ⟨⟨ha.c0, ha.c1, ha.z, ha.z1, ha.lt⟩, (below_alloc wr _).drew⟩
        have HR2 := hide (HR.out.later hb2 (Nat.le_refl _))
        have HB2 := hide (HB.out.trans (hb2.mono HB.out.size))
        clear hw2 k0 k1
        go_wp2_with (at_builtin; refine wpList_row rfl _ _ rfl rfl rfl (HR2.out.later (below_alloc _ _) (Nat.le_refl _)) (one_at w2 x) ?c1 ?c2 (fun u w3 hu hg hob => ?_))
        case c1 => simp
        case c2 => have := HB2.out.size; simp; omega
        have HR3 := hide (show Row w1.heap.size (puts (r.take (i + 1)) []) u w3 from by rw [HX.out]; exact hu)
        have HB3 := hide (show Below w1.heap.size w1 w3 from (HB2.out.trans ((below_alloc w2 _).mono HB2.out.size)).grown hg (by have := HB2.out.size; simp; omega) (fun k hk => (HR2.out.lt k hk).1))
        clear hu hg hob hb2
        go_wp2_with fail
        go_roundw
        case rel => exact ⟨i + 1, by go_num, by omega, HR3, HB3⟩
        case measure => simp [intOf]; omega
      · rw [List.concat_eq_append] at HX HLA HR
        have hlen : (A ++ [q]).length = A.length + 1 := by simp
        obtain ⟨g, uc, rfl, _, _, hg1, hg2⟩ := HR.out.held (by rw [hlen]; omega)
        rw [hlen] at HR
        obtain ⟨m0, m1, mf0, mf1⟩ := HR.out.at A.length (by rw [hlen]; omega)
        rw [show (A ++ [q])[A.length]'(by rw [hlen]; omega) = q by simp] at m0 m1
        rw [hlen]
        obtain ⟨k, hk⟩ : ∃ k, k = A.length := ⟨_, rfl⟩
        rw [← hk] at m0 m1 mf0 mf1 HR ⊢
        have HK := hide hk
        have hk9 : k < 1000 := by have := HLA.out; rw [hlen] at this; omega
        clear hk hlen
        have g2 : (k : Int) < (k : Int) + 1 := by omega
        have g3 : ¬ (k : Int) < 0 := by omega
        have g4 : decide ((k : Int) < 0) = false := decide_eq_false g3
        by_cases hq : q.2 < x.1
        · have HQ := hide hq
          go_wp2_with fail
          go_region
          obtain ⟨w2, hw2⟩ : ∃ w2, w2 = (wr.alloc (.cells #[.int .i64 x.1, .int .i64 x.2] 24)).drew := ⟨_, rfl⟩
          rw [← hw2]
          obtain ⟨⟨a0, a1, _, _, _⟩, hb2⟩ : At x wr.heap.size w2 ∧ Below wr.heap.size wr w2 := by
            rw [hw2]
            have ha := At.new wr x.1 x.2 24
            exact ⟨⟨ha.c0, ha.c1, ha.z, ha.z1, ha.lt⟩, (below_alloc wr _).drew⟩
          have HR2 := hide (HR.out.later hb2 (Nat.le_refl _))
          have HB2 := hide (HB.out.trans (hb2.mono HB.out.size))
          clear hw2 k0 k1
          go_wp2_with (at_builtin; refine wpList_row rfl _ _ rfl rfl rfl (HR2.out.later (below_alloc _ _) (Nat.le_refl _)) (one_at w2 x) ?c1 ?c2 (fun u w3 hu hg hob => ?_))
          case c1 => have := HK.out; simp; omega
          case c2 => have := HB2.out.size; simp; omega
          have HR3 := hide (show Row w1.heap.size (puts (r.take (i + 1)) []) u w3 from by rw [HX.out]; rw [put_snoc, if_pos HQ.out]; simpa using hu)
          have HB3 := hide (show Below w1.heap.size w1 w3 from (HB2.out.trans ((below_alloc w2 _).mono HB2.out.size)).grown hg (by have := HB2.out.size; simp; omega) (fun k hk => (HR2.out.lt k hk).1))
          clear hu hg hob hb2
          go_wp2_with fail
          go_roundw
          case rel => exact ⟨i + 1, by go_num, by omega, HR3, HB3⟩
          case measure => simp [intOf]; omega
        · have HQ := hide hq
          go_wp2_with fail
          go_region
          obtain ⟨w2, hw2⟩ : ∃ w2, w2 = (wr.alloc (.cells #[.int .i64 x.1, .int .i64 x.2] 24)).drew := ⟨_, rfl⟩
          rw [← hw2]
          obtain ⟨⟨a0, a1, _, _, _⟩, hb2⟩ : At x wr.heap.size w2 ∧ Below wr.heap.size wr w2 := by
            rw [hw2]
            have ha := At.new wr x.1 x.2 24
            exact ⟨⟨ha.c0, ha.c1, ha.z, ha.z1, ha.lt⟩, (below_alloc wr _).drew⟩
          have HR2 := hide (HR.out.later hb2 (Nat.le_refl _))
          have HB2 := hide (HB.out.trans (hb2.mono HB.out.size))
          clear hw2 k0 k1
          obtain ⟨y, hy⟩ : ∃ y, y = max q.2 x.2 := ⟨_, rfl⟩
          have hyv := hy.symm
          have HY := hide (show put (A ++ [q]) x = A ++ [(q.1, y)] from by rw [put_snoc, if_neg (Int.not_lt.2 HQ.out), hy])
          have hl2 : (A ++ [q]).length = k + 1 := by rw [HK.out]; simp
          obtain ⟨m0, m1, mf0, mf1⟩ := HR2.out.at k (by rw [hl2]; omega)
          rw [show (A ++ [q])[k]'(by rw [hl2]; omega) = q by simp [HK.out]] at m0 m1
          have hgw : g < w2.heap.size := Nat.lt_of_lt_of_le hg2 hb2.size
          have hne : wr.heap.size ≠ g := by omega
          have HRS := hide (show Row w1.heap.size (A ++ [(q.1, y)]) (.slice (some ⟨g, 0, none⟩) (k + 1) uc) (w2.setCell ⟨g, k * 2 + 1, none⟩ (.int .i64 y)) from by
            have := HR2.out
            rw [HK.out] at this ⊢
            exact this.set y)
          have HRB := hide (show Below w1.heap.size w1 (w2.setCell ⟨g, k * 2 + 1, none⟩ (.int .i64 y)) from HB2.out.setCell (p := ⟨g, k * 2 + 1, none⟩) hg1 _)
          clear hy hb2 hl2
          go_wp2_with fail
          go_region
          have HR3 := hide (show Row w1.heap.size (puts (r.take (i + 1)) []) (.slice (some ⟨g, 0, none⟩) (k + 1) uc) (w2.setCell ⟨g, k * 2 + 1, none⟩ (.int .i64 y)).drew from by rw [HX.out, HY.out]; exact HRS.out)
          have HB3 := hide HRB.out.drew
          obtain ⟨w3, hw3⟩ : ∃ w3, w3 = (w2.setCell ⟨g, k * 2 + 1, none⟩ (.int .i64 y)).drew := ⟨_, rfl⟩
          rw [← hw3] at HR3 HB3 ⊢
          clear hw3 HRS HRB
          go_wp2_with fail
          go_roundw
          case rel => exact ⟨i + 1, by go_num, by omega, HR3, HB3⟩
          case measure => simp [intOf]; omega
    · obtain rfl : i = n := by omega
      have g1 : ¬ (i : Int) < (i : Int) := by omega
      have HF := hide (show Row w.heap.size (norm l) u3 wr ∧ Below w.heap.size w wr from ⟨by
        have := HR.out
        rw [HN.out, List.take_length, HP.out] at this
        exact this.mono HB1.out.size, HB1.out.trans (HB.out.mono HB1.out.size)⟩)
      go_wp2_with fail
      go_ret
      exact ⟨u3, rfl, HF.out⟩
end Spn
end Go.Proofs.Ytoacombaddknfaa
