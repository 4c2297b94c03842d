/- The document's Insert, Delete, New. Condition: less than a thousand items, texts below 2^62. -/
import Derived.Test.YtapdhelioecneaaU6
namespace Go.Proofs.Ytapdhelioecneaa
open Go.RowKit
namespace Idx
/-- A row of the call's own is laid into the index. -/
theorem RX.lay {R : Nat} {F : Nat → Prop} {L L' : List It} {w z : World} {u : Value} {c : Int} (h : RX R F L w) (hb : Below w.heap.size w z) (hu : Row4 36 w.heap.size L' u z) : ChgP R F c L' w (.returned (.int .i64 c)) (z.setCell ⟨R, 0, none⟩ u) := by
  obtain ⟨v, h1, h2, _⟩ := h.ex
  have hne : ∀ g, u.ownBlock = some g → g ≠ R := fun g hg => by have := (hu.lt g hg).1; have := h.lt; omega
  refine ⟨rfl, Grow F w (z.setCell ⟨R, 0, none⟩ u), ⟨⟨u, ?_, ?_, ?_, fun e => hne R e rfl, fun g hg => .inr ⟨(hu.lt g hg).1, by rw [World.size_setCell]; exact (hu.lt g hg).2⟩⟩, ?_, .inl h.f, fun k hk => ?_⟩, .grow ((Only.of hb).set (.inl h.f) _)⟩
  · exact World.cell?_setCell_same _ _ _ (by rw [hb.cell (p := ⟨R, 0, none⟩) h.lt]; exact h1)
  · rw [World.frozen?_setCell, hb.frozen (p := ⟨R, 0, none⟩) h.lt]; exact h2
  · exact (hu.mono (Nat.zero_le _)).kept (fun g hg => Below.heap_setCell _ _ _ _ (hne g hg))
  · rw [World.size_setCell]; exact Nat.lt_of_lt_of_le h.lt hb.size
  · rw [World.size_setCell]
    rcases hk with hk | hk
    · exact Nat.lt_of_lt_of_le (h.fl k hk) hb.size
    · rw [World.size_setCell] at hk; exact hk.2
set_option maxHeartbeats 8000000 in
set_option maxRecDepth 100000 in
theorem rinsert_any {R : Nat} {F : Nat → Prop} {L : List It} {w : World} (h : RX R F L w) (hl : L.length ≤ 900) (hkb : Kb L) (x : It) (hx : x.k.length ≤ 140737488351232) :
    Calls Try.prog 13 #[.pointer (some ⟨R, 0, none⟩), .agg #[.string (S x.k), .int .i64 x.s, .int .i64 x.e, .int .i64 x.id]] w fun e w' => ChgP R F (insC L x) (insL L x) w e w' := by
  have HB0 := hide (below_alloc w (.cells #[.string (S x.k), .int .i64 x.s, .int .i64 x.e, .int .i64 x.id] 36))
  have HX0 := hide (Bx.new w x 36)
  have HR := hide h
  have HRX := hide (show ∀ z, Below w.heap.size w z → RX R F L z from fun z hz => h.later hz (Nat.le_refl _))
  have C1 := hide (rfind_any (h.later HB0.out (Nat.le_refl _)) (by omega) hkb x.k x.s hx)
  have HL := hide hl
  have HBAD := hide (fun (h9 : ¬ RightI x) => show insC L x = 1 ∧ insL L x = L from ⟨by unfold insC; rw [if_neg h9], by unfold insL; rw [if_neg (fun h8 => h9 h8.1)]⟩)
  clear h hl hkb hx
  unfold FindP at C1
  by_cases h1 : x.s < 0
  · obtain ⟨e1, e2⟩ := HBAD.out (fun h9 => by unfold RightI at h9; omega)
    rw [e1, e2]
    clear e1 e2
    go_enter Try.func13, Try.ntmps13
    go_wp2_with fail
    go_ret
    exact .same HR.out HB0.out
  · by_cases h2 : x.e ≤ x.s
    · obtain ⟨e1, e2⟩ := HBAD.out (fun h9 => by unfold RightI at h9; omega)
      rw [e1, e2]
      clear e1 e2
      go_enter Try.func13, Try.ntmps13
      go_wp2_with fail
      go_ret
      exact .same HR.out HB0.out
    · by_cases h3 : 1099511627776 < x.e
      · obtain ⟨e1, e2⟩ := HBAD.out (fun h9 => by unfold RightI at h9; omega)
        rw [e1, e2]
        clear e1 e2
        go_enter Try.func13, Try.ntmps13
        go_wp2_with fail
        go_ret
        exact .same HR.out HB0.out
      · have hri : RightI x := ⟨by omega, by omega, by omega⟩
        cases hat : isAt L x.k x.s with
        | true =>
          have e1 : insC L x = 5 := by unfold insC; rw [if_pos hri, if_pos hat]
          have e2 : insL L x = L := by unfold insL; rw [if_neg (fun h8 => by rw [hat] at h8; cases h8.2)]
          rw [hat] at C1
          rw [e1, e2]
          clear e1 e2 hri hat
          go_enter Try.func13, Try.ntmps13
          go_wp2_with fail
          refine C1.out.mono ?_
          rintro e w1 ⟨rfl, hb⟩
          have HB1 := hide (HB0.out.trans (hb.mono HB0.out.size))
          clear hb
          go_wp2_with fail
          go_ret
          exact .same HR.out HB1.out
        | false =>
          have e1 : insC L x = 0 := by unfold insC; rw [if_pos hri, hat]; rfl
          have e2 : insL L x = ins L x := by unfold insL; rw [if_pos ⟨hri, hat⟩]
          rw [hat] at C1
          rw [e1, e2]
          clear e1 e2 hri hat
          have HPL := hide (pl_le L x.k x.s)
          have HINS := hide (show ins L x = L.take (pl L x.k x.s) ++ x :: L.drop (pl L x.k x.s) from rfl)
          obtain ⟨p, hp⟩ : ∃ p, p = pl L x.k x.s := ⟨_, rfl⟩
          rw [← hp] at C1 HPL HINS
          rw [HINS.out]
          have HFIN := hide (fun (u : Value) (z : World) (hu : Row4 36 w.heap.size (L.take p ++ x :: L.drop p) u z) (hb : Below w.heap.size w z) => RX.lay (c := 0) HR.out hb hu)
          obtain ⟨n, hn⟩ : ∃ n, n = L.length := ⟨_, rfl⟩
          have hpn : p ≤ n := by rw [hn]; exact HPL.out
          have hl9 : n ≤ 900 := by rw [hn]; exact HL.out
          have HN := hide hn
          clear hp hn
          go_enter Try.func13, Try.ntmps13
          go_wp2_with fail
          refine C1.out.mono ?_
          rintro e w1 ⟨rfl, hb⟩
          have HB1 := hide (HB0.out.trans (hb.mono HB0.out.size))
          have HX1 := hide (HX0.out.later hb (by simp))
          obtain ⟨ao, cap, hcl, hcm, q0, _, ho, _, _⟩ := (HRX.out w1 HB1.out).open
          have HA := hide ho.items
          have HT := hide (ho.items.first p (by rw [← HN.out]; exact hpn))
          rw [← HN.out] at q0 hcl
          have g1 : (p : Int) ≤ (cap : Int) := by omega
          have g2 : (p : Int) ≤ (n : Int) := by omega
          have HQA := hide (show ∀ z, Below w.heap.size w z → z.cell? ⟨R, 0, none⟩ = some (.slice ao n cap) from fun z hz => by rw [hz.cell (p := ⟨R, 0, none⟩) HR.out.lt, ← HB1.out.cell (p := ⟨R, 0, none⟩) HR.out.lt]; exact q0)
          clear hb ho C1 HB0 HX0
          go_wp2_with (at_builtin; refine wpList_row4 tyR rfl _ _ rfl rfl rfl (Row4.nil _ w.heap.size _) HT.out (by have := HN.out; rw [List.length_take]; simp; omega) HB1.out.size ?_)
          intro u1 z1 hu hg hob
          have HU1 := hide (show Row4 36 w.heap.size (L.take p) u1 z1 from by simpa using hu)
          have hbz : Below w1.heap.size w1 z1 := (Below.refl _ _).grown hg (Nat.le_refl _) (fun k9 hk9 => by simp [Value.ownBlock] at hk9)
          have HBz := hide (HB1.out.trans (hbz.mono HB1.out.size))
          have HXz := hide (HX1.out.later hbz HX1.out.lt)
          obtain ⟨k0, k1, k2, k3, _⟩ := HXz.out
          have HQ := hide (below_alloc z1 (.cells #[.string (S x.k), .int .i64 x.s, .int .i64 x.e, .int .i64 x.id] 36))
          have HU1a := hide (HU1.out.later HQ.out (Nat.le_refl _))
          have HM1 := hide (show ItemsAt [x] (.slice (some ⟨z1.heap.size, 0, none⟩) 1 1) (z1.alloc (.cells #[.string (S x.k), .int .i64 x.s, .int .i64 x.e, .int .i64 x.id] 36)) from one4_at z1 x 36 rfl)
          have HBa := hide (HBz.out.trans (HQ.out.mono HBz.out.size))
          clear hu hg hob hbz q0 HT
          go_wp2_with (at_builtin; refine wpList_row4 tyR rfl _ _ rfl rfl rfl HU1a.out HM1.out (by have := HN.out; rw [List.length_take]; simp; omega) HBa.out.size ?_)
          intro u2 z2 hu hg hob
          have HU2 := hide hu
          have HB2 := hide (HBa.out.grown hg HBa.out.size (fun k9 hk9 => (HU1a.out.lt k9 hk9).1))
          have q1 := HQA.out z2 HB2.out
          have HCUT := hide (show ItemsAt (L.drop p) (sliced ao p n cap 4) z2 from by
            obtain ⟨ao2, cap2, _, _, q9, _, ho2, _, _⟩ := (HRX.out z2 HB2.out).open
            rw [← HN.out] at q9
            rw [q1] at q9
            have e9 := Option.some.inj q9
            simp only [Value.slice.injEq, true_and] at e9
            obtain ⟨rfl, rfl⟩ := e9
            have h8 := ho2.items.cut p (by rw [← HN.out]; exact hpn)
            rw [← HN.out] at h8
            exact h8)
          have HCUTL := hide (show (L.take p ++ [x]).length + (L.drop p).length ≤ 100000 from by have := HN.out; rw [List.length_append, List.length_take, List.length_drop]; simp; omega)
          clear hu hg hob k0 k1 k2 k3
          rcases Nat.decEq cap p with hcap | hcap
          · go_wp2_with (at_builtin; refine wpList_row4 tyR rfl _ _ rfl rfl rfl HU2.out (by conv => { arg 2; whnf }; simpa [sliced, hcap, add_none] using HCUT.out) HCUTL.out HB2.out.size ?_)
            intro u3 z3 hu hg hob
            have HU3 := hide (show Row4 36 w.heap.size (L.take p ++ x :: L.drop p) u3 z3 from by have h9 := hu; simpa using h9)
            have HB3 := hide (HB2.out.grown hg HB2.out.size (fun k9 hk9 => (HU2.out.lt k9 hk9).1))
            clear hu hg hob
            obtain ⟨uo, uc, hv, _, _⟩ := HU3.out.form
            obtain ⟨ul, hul⟩ : ∃ ul, ul = (L.take p ++ x :: L.drop p).length := ⟨_, rfl⟩
            rw [← hul] at hv
            subst hv
            clear hul
            obtain ⟨_, _, _, _, q3, f3, _, _, _⟩ := (HRX.out z3 HB3.out).open
            rw [← HN.out] at q3
            go_wp2_with fail
            go_ret
            exact HFIN.out _ z3 HU3.out HB3.out
          · go_wp2_with (at_builtin; refine wpList_row4 tyR rfl _ _ rfl rfl rfl HU2.out (by conv => { arg 2; whnf }; simpa [sliced, hcap, add_none] using HCUT.out) HCUTL.out HB2.out.size ?_)
            intro u3 z3 hu hg hob
            have HU3 := hide (show Row4 36 w.heap.size (L.take p ++ x :: L.drop p) u3 z3 from by have h9 := hu; simpa using h9)
            have HB3 := hide (HB2.out.grown hg HB2.out.size (fun k9 hk9 => (HU2.out.lt k9 hk9).1))
            clear hu hg hob
            obtain ⟨uo, uc, hv, _, _⟩ := HU3.out.form
            obtain ⟨ul, hul⟩ : ∃ ul, ul = (L.take p ++ x :: L.drop p).length := ⟨_, rfl⟩
            rw [← hul] at hv
            subst hv
            clear hul
            obtain ⟨_, _, _, _, q3, f3, _, _, _⟩ := (HRX.out z3 HB3.out).open
            rw [← HN.out] at q3
            go_wp2_with fail
            go_ret
            exact HFIN.out _ z3 HU3.out HB3.out
set_option maxHeartbeats 8000000 in
set_option maxRecDepth 100000 in
theorem rdelete_any {R : Nat} {F : Nat → Prop} {L : List It} {w : World} (h : RX R F L w) (hl : L.length ≤ 900) (hkb : Kb L) (k : List UInt8) (s : Int) (hk : k.length ≤ 140737488351232) :
    Calls Try.prog 17 #[.pointer (some ⟨R, 0, none⟩), .string (S k), .int .i64 s] w fun e w' => ChgP R F (delC L k s) (delL L k s) w e w' := by
  have HR := hide h
  have HRX := hide (show ∀ z, Below w.heap.size w z → RX R F L z from fun z hz => h.later hz (Nat.le_refl _))
  have C1 := hide (rfind_any h (by omega) hkb k s hk)
  have HL := hide hl
  clear h hl hkb hk
  unfold FindP at C1
  cases hat : isAt L k s with
  | false =>
    have e1 : delC L k s = 4 := by unfold delC; rw [hat]; rfl
    have e2 : delL L k s = L := by unfold delL; rw [hat]; rfl
    rw [hat] at C1
    rw [e1, e2]
    clear e1 e2 hat
    go_enter Try.func17, Try.ntmps17
    go_wp2_with fail
    refine C1.out.mono ?_
    rintro e w1 ⟨rfl, hb⟩
    have HB1 := hide hb
    clear hb
    go_wp2_with fail
    go_ret
    exact .same HR.out HB1.out
  | true =>
    have e1 : delC L k s = 0 := by unfold delC; rw [if_pos hat]
    have e2 : delL L k s = L.take (pl L k s) ++ L.drop (pl L k s + 1) := by unfold delL; rw [if_pos hat]; rfl
    obtain ⟨hpl, _, _⟩ := isAt_yes hat
    rw [hat] at C1
    obtain ⟨p, hp⟩ : ∃ p, p = pl L k s := ⟨_, rfl⟩
    rw [← hp] at C1 e2 hpl
    rw [e1, e2]
    have HPL := hide hpl
    clear e1 e2 hat hpl
    have HFIN := hide (fun (u : Value) (z : World) (hu : Row4 36 w.heap.size (L.take p ++ L.drop (p + 1)) u z) (hb : Below w.heap.size w z) => RX.lay (c := 0) HR.out hb hu)
    obtain ⟨n, hn⟩ : ∃ n, n = L.length := ⟨_, rfl⟩
    have hpn : p < n := by rw [hn]; exact HPL.out
    have hl9 : n ≤ 900 := by rw [hn]; exact HL.out
    have HN := hide hn
    clear hp hn
    go_enter Try.func17, Try.ntmps17
    go_wp2_with fail
    refine C1.out.mono ?_
    rintro e w1 ⟨rfl, hb⟩
    have HB1 := hide hb
    obtain ⟨ao, cap, hcl, hcm, q0, _, ho, _, _⟩ := (HRX.out w1 HB1.out).open
    have HT := hide (ho.items.first p (by rw [← HN.out]; omega))
    rw [← HN.out] at q0 hcl
    have g1 : (p : Int) ≤ (cap : Int) := by omega
    have g2 : (p : Int) + 1 ≤ (n : Int) := by omega
    have f1 : IntKind.i64.wrap ((p : Int) + 1) = (p : Int) + 1 := by simp only [IntKind.wrap_i64]; omega
    have f2 : ((p : Int) + 1).toNat = p + 1 := by omega
    have f4 : (0 : Int) ≤ (p : Int) + 1 := by omega
    have HQA := hide (show ∀ z, Below w.heap.size w z → z.cell? ⟨R, 0, none⟩ = some (.slice ao n cap) from fun z hz => by rw [hz.cell (p := ⟨R, 0, none⟩) HR.out.lt, ← HB1.out.cell (p := ⟨R, 0, none⟩) HR.out.lt]; exact q0)
    clear hb ho C1
    go_wp2_with (at_builtin; refine wpList_row4 tyR rfl _ _ rfl rfl rfl (Row4.nil _ w.heap.size _) HT.out (by have := HN.out; rw [List.length_take]; simp; omega) HB1.out.size ?_)
    intro u1 z1 hu hg hob
    have HU2 := hide (show Row4 36 w.heap.size (L.take p) u1 z1 from by simpa using hu)
    have HB2 := hide (HB1.out.grown hg HB1.out.size (fun k9 hk9 => by simp [Value.ownBlock] at hk9))
    have q1 := HQA.out z1 HB2.out
    have HCUT := hide (show ItemsAt (L.drop (p + 1)) (sliced ao (p + 1) n cap 4) z1 from by
      obtain ⟨ao2, cap2, _, _, q9, _, ho2, _, _⟩ := (HRX.out z1 HB2.out).open
      rw [← HN.out] at q9
      rw [q1] at q9
      have e9 := Option.some.inj q9
      simp only [Value.slice.injEq, true_and] at e9
      obtain ⟨rfl, rfl⟩ := e9
      have h8 := ho2.items.cut (p + 1) (by rw [← HN.out]; omega)
      rw [← HN.out] at h8
      exact h8)
    have HCUTL := hide (show (L.take p).length + (L.drop (p + 1)).length ≤ 100000 from by have := HN.out; rw [List.length_take, List.length_drop]; omega)
    clear hu hg hob q0 HT
    rcases Nat.decEq cap (p + 1) with hcap | hcap
    · go_wp2_with (at_builtin; refine wpList_row4 tyR rfl _ _ rfl rfl rfl HU2.out (by conv => { arg 2; whnf }; simpa [sliced, hcap, add_none] using HCUT.out) HCUTL.out HB2.out.size ?_)
      intro u3 z3 hu hg hob
      have HU3 := hide (show Row4 36 w.heap.size (L.take p ++ L.drop (p + 1)) u3 z3 from by have h9 := hu; simpa using h9)
      have HB3 := hide (HB2.out.grown hg HB2.out.size (fun k9 hk9 => (HU2.out.lt k9 hk9).1))
      clear hu hg hob
      obtain ⟨uo, uc, hv, _, _⟩ := HU3.out.form
      obtain ⟨ul, hul⟩ : ∃ ul, ul = (L.take p ++ L.drop (p + 1)).length := ⟨_, rfl⟩
      rw [← hul] at hv
      subst hv
      clear hul
      obtain ⟨_, _, _, _, q3, f3, _, _, _⟩ := (HRX.out z3 HB3.out).open
      rw [← HN.out] at q3
      go_wp2_with fail
      go_ret
      exact HFIN.out _ z3 HU3.out HB3.out
    · go_wp2_with (at_builtin; refine wpList_row4 tyR rfl _ _ rfl rfl rfl HU2.out (by conv => { arg 2; whnf }; simpa [sliced, hcap, add_none] using HCUT.out) HCUTL.out HB2.out.size ?_)
      intro u3 z3 hu hg hob
      have HU3 := hide (show Row4 36 w.heap.size (L.take p ++ L.drop (p + 1)) u3 z3 from by have h9 := hu; simpa using h9)
      have HB3 := hide (HB2.out.grown hg HB2.out.size (fun k9 hk9 => (HU2.out.lt k9 hk9).1))
      clear hu hg hob
      obtain ⟨uo, uc, hv, _, _⟩ := HU3.out.form
      obtain ⟨ul, hul⟩ : ∃ ul, ul = (L.take p ++ L.drop (p + 1)).length := ⟨_, rfl⟩
      rw [← hul] at hv
      subst hv
      clear hul
      obtain ⟨_, _, _, _, q3, f3, _, _, _⟩ := (HRX.out z3 HB3.out).open
      rw [← HN.out] at q3
      go_wp2_with fail
      go_ret
      exact HFIN.out _ z3 HU3.out HB3.out
end Idx
end Go.Proofs.Ytapdhelioecneaa
