/- The document's Cut. No condition. -/
import Derived.Test.YtoacombaddknfaaIh
namespace Go.Proofs.Ytoacombaddknfaa
open Go.RowKit
namespace Spn
theorem rmeet_y {a b c d : Int} (h : Meets (a, b) (c, d)) (w : World) :
    Calls Try.prog 30 #[.agg #[.int .i64 a, .int .i64 b], .agg #[.int .i64 c, .int .i64 d]] w fun e w' => e = .returned (.tuple #[.agg #[.int .i64 (mid (a, b) (c, d)).1, .int .i64 (mid (a, b) (c, d)).2], .bool true]) ∧ Below w.heap.size w w' := by
  have := rmeet_any a b c d w
  rw [meet_yes h] at this
  exact this
theorem rmeet_n {a b c d : Int} (h : ¬ Meets (a, b) (c, d)) (w : World) :
    Calls Try.prog 30 #[.agg #[.int .i64 a, .int .i64 b], .agg #[.int .i64 c, .int .i64 d]] w fun e w' => e = .returned (.tuple #[.agg #[.int .i64 0, .int .i64 0], .bool false]) ∧ Below w.heap.size w w' := by
  have := rmeet_any a b c d w
  rw [meet_no h] at this
  exact this
theorem At.both' {s : Sp} {k : Nat} {w w' : World} (h : At s k w) (hb : Below w.heap.size w w') : At s k w' := h.later hb h.lt
theorem row_one {base : Nat} (w : World) (a b : Int) (hb : base ≤ w.heap.size) {k : Nat} (hk : k = w.heap.size) : Row base [(a, b)] (.slice (some ⟨k, 0, none⟩) 1 1) (w.alloc (.cells #[.int .i64 a, .int .i64 b] 24)) := by
  subst hk
  exact World.ownsRow_lit w #[.int .i64 a, .int .i64 b] 1 hb (by unfold maxLen; omega) rfl
set_option maxHeartbeats 4000000 in
set_option maxRecDepth 100000 in
theorem rcut_any (a b c d : Int) (w : World) :
    Calls Try.prog 45 #[.agg #[.int .i64 a, .int .i64 b], .agg #[.int .i64 c, .int .i64 d]] w fun e w' => ∃ v : Value, e = .returned v ∧ Row w.heap.size (rcut (a, b) (c, d)) v w' ∧ Below w.heap.size w w' := by
  by_cases h : Meets (a, b) (c, d)
  · have C1 := fun w => rmeet_y h w
    have HC := hide (show rcut (a, b) (c, d) = (if a < (mid (a, b) (c, d)).1 then [(a, (mid (a, b) (c, d)).1)] else []) ++ (if (mid (a, b) (c, d)).2 < b then [((mid (a, b) (c, d)).2, b)] else []) from if_pos h)
    obtain ⟨p, hp⟩ : ∃ p, p = (mid (a, b) (c, d)).1 := ⟨_, rfl⟩
    obtain ⟨q, hq⟩ : ∃ q, q = (mid (a, b) (c, d)).2 := ⟨_, rfl⟩
    rw [← hp, ← hq] at HC C1
    clear hp hq h
    by_cases h1 : a < p
    · by_cases h2 : q < b
      · have HC2 := hide (show rcut (a, b) (c, d) = [(a, p)] ++ [(q, b)] from by rw [HC.out, if_pos h1, if_pos h2]; try rfl)
        clear HC
        go_enter Try.func45, Try.ntmps45
        go_wp2_with fail
        refine (C1 _).mono ?_
        rintro e w1 ⟨rfl, hb⟩
        obtain ⟨⟨x0, x1, _, _, xl⟩, ⟨y0, y1, _, _, _⟩, hb1⟩ := box2 hb
        clear hb
        have HB2 := hide (show Below w.heap.size w (w1.alloc (.cells #[.int .i64 p, .int .i64 q] 24)) from hb1.trans ((below_alloc w1 _).mono hb1.size))
        have H1 := hb1.size
        have HR3 := hide (show Row w.heap.size [] (.slice none 0 0) ((w1.alloc (.cells #[.int .i64 p, .int .i64 q] 24)).alloc (.cells #[.int .i64 a, .int .i64 p] 24)) from (Row.nil _ _))
        have HBA3 := hide (show Below w.heap.size w ((w1.alloc (.cells #[.int .i64 p, .int .i64 q] 24)).alloc (.cells #[.int .i64 a, .int .i64 p] 24)) from HB2.out.trans ((below_alloc _ _).mono HB2.out.size))
        go_wp2_with (at_builtin; refine wpList_row rfl _ _ rfl rfl rfl HR3.out (one_at' (w1.alloc (.cells #[.int .i64 p, .int .i64 q] 24)) a p (by first | rfl | simp)) (by simp) (by have := HBA3.out.size; simpa using this) ?_)
        intro u3 z3 hu hg hob
        have HB3x := hide (HBA3.out.grown hg HBA3.out.size (fun k hk => (HR3.out.lt k hk).1))
        have HU3 := hide hu
        have hbz := (below_alloc (w1.alloc (.cells #[.int .i64 p, .int .i64 q] 24)) (.cells #[.int .i64 a, .int .i64 p] 24)).grown hg (by simp) (fun k hk => by cases hk)
        obtain ⟨x0, x1, _, _, xl⟩ := (At.later (s := (a, b)) ⟨x0, x1, by assumption, by assumption, xl⟩ (below_alloc w1 (.cells #[.int .i64 p, .int .i64 q] 24)) xl).later hbz (by simp; omega)
        obtain ⟨m0, m1, _, _, _⟩ := (At.new w1 p q 24).later hbz (by simp)
        clear hu hg hob hbz HBA3 HR3
        have HR4 := hide (show Row w.heap.size ([] ++ [(a, p)]) u3 (z3.alloc (.cells #[.int .i64 q, .int .i64 b] 24)) from HU3.out.later (below_alloc _ _) (Nat.le_refl _))
        have HBA4 := hide (show Below w.heap.size w (z3.alloc (.cells #[.int .i64 q, .int .i64 b] 24)) from HB3x.out.trans ((below_alloc _ _).mono HB3x.out.size))
        go_wp2_with (at_builtin; refine wpList_row rfl _ _ rfl rfl rfl HR4.out (one_at' z3 q b (by first | rfl | simp)) (by simp) (by have := HBA4.out.size; simpa using this) ?_)
        intro u4 z4 hu hg hob
        have HB4x := hide (HBA4.out.grown hg HBA4.out.size (fun k hk => (HR4.out.lt k hk).1))
        have HU4 := hide hu
        clear hu hg hob
        go_wp2_with fail
        go_ret
        exact ⟨u4, rfl, by rw [HC2.out]; exact HU4.out, HB4x.out⟩
      · have HC2 := hide (show rcut (a, b) (c, d) = [(a, p)] from by rw [HC.out, if_pos h1, if_neg h2]; try rfl)
        clear HC
        go_enter Try.func45, Try.ntmps45
        go_wp2_with fail
        refine (C1 _).mono ?_
        rintro e w1 ⟨rfl, hb⟩
        obtain ⟨⟨x0, x1, _, _, xl⟩, ⟨y0, y1, _, _, _⟩, hb1⟩ := box2 hb
        clear hb
        have HB2 := hide (show Below w.heap.size w (w1.alloc (.cells #[.int .i64 p, .int .i64 q] 24)) from hb1.trans ((below_alloc w1 _).mono hb1.size))
        have H1 := hb1.size
        have HR3 := hide (show Row w.heap.size [] (.slice none 0 0) ((w1.alloc (.cells #[.int .i64 p, .int .i64 q] 24)).alloc (.cells #[.int .i64 a, .int .i64 p] 24)) from (Row.nil _ _))
        have HBA3 := hide (show Below w.heap.size w ((w1.alloc (.cells #[.int .i64 p, .int .i64 q] 24)).alloc (.cells #[.int .i64 a, .int .i64 p] 24)) from HB2.out.trans ((below_alloc _ _).mono HB2.out.size))
        go_wp2_with (at_builtin; refine wpList_row rfl _ _ rfl rfl rfl HR3.out (one_at' (w1.alloc (.cells #[.int .i64 p, .int .i64 q] 24)) a p (by first | rfl | simp)) (by simp) (by have := HBA3.out.size; simpa using this) ?_)
        intro u3 z3 hu hg hob
        have HB3x := hide (HBA3.out.grown hg HBA3.out.size (fun k hk => (HR3.out.lt k hk).1))
        have HU3 := hide hu
        have hbz := (below_alloc (w1.alloc (.cells #[.int .i64 p, .int .i64 q] 24)) (.cells #[.int .i64 a, .int .i64 p] 24)).grown hg (by simp) (fun k hk => by cases hk)
        obtain ⟨x0, x1, _, _, xl⟩ := (At.later (s := (a, b)) ⟨x0, x1, by assumption, by assumption, xl⟩ (below_alloc w1 (.cells #[.int .i64 p, .int .i64 q] 24)) xl).later hbz (by simp; omega)
        obtain ⟨m0, m1, _, _, _⟩ := (At.new w1 p q 24).later hbz (by simp)
        clear hu hg hob hbz HBA3 HR3
        go_wp2_with fail
        go_ret
        exact ⟨u3, rfl, by rw [HC2.out]; exact HU3.out, HB3x.out⟩
    · by_cases h2 : q < b
      · have HC2 := hide (show rcut (a, b) (c, d) = [(q, b)] from by rw [HC.out, if_neg h1, if_pos h2]; try rfl)
        clear HC
        go_enter Try.func45, Try.ntmps45
        go_wp2_with fail
        refine (C1 _).mono ?_
        rintro e w1 ⟨rfl, hb⟩
        obtain ⟨⟨x0, x1, _, _, xl⟩, ⟨y0, y1, _, _, _⟩, hb1⟩ := box2 hb
        clear hb
        have HB2 := hide (show Below w.heap.size w (w1.alloc (.cells #[.int .i64 p, .int .i64 q] 24)) from hb1.trans ((below_alloc w1 _).mono hb1.size))
        have H1 := hb1.size
        have HR4 := hide (show Row w.heap.size [] (.slice none 0 0) ((w1.alloc (.cells #[.int .i64 p, .int .i64 q] 24)).alloc (.cells #[.int .i64 q, .int .i64 b] 24)) from (Row.nil _ _))
        have HBA4 := hide (show Below w.heap.size w ((w1.alloc (.cells #[.int .i64 p, .int .i64 q] 24)).alloc (.cells #[.int .i64 q, .int .i64 b] 24)) from HB2.out.trans ((below_alloc _ _).mono HB2.out.size))
        go_wp2_with (at_builtin; refine wpList_row rfl _ _ rfl rfl rfl HR4.out (one_at' (w1.alloc (.cells #[.int .i64 p, .int .i64 q] 24)) q b (by first | rfl | simp)) (by simp) (by have := HBA4.out.size; simpa using this) ?_)
        intro u4 z4 hu hg hob
        have HB4x := hide (HBA4.out.grown hg HBA4.out.size (fun k hk => (HR4.out.lt k hk).1))
        have HU4 := hide hu
        clear hu hg hob
        go_wp2_with fail
        go_ret
        exact ⟨u4, rfl, by rw [HC2.out]; exact HU4.out, HB4x.out⟩
      · have HC2 := hide (show rcut (a, b) (c, d) = [] from by rw [HC.out, if_neg h1, if_neg h2]; try rfl)
        clear HC
        go_enter Try.func45, Try.ntmps45
        go_wp2_with fail
        refine (C1 _).mono ?_
        rintro e w1 ⟨rfl, hb⟩
        obtain ⟨⟨x0, x1, _, _, xl⟩, ⟨y0, y1, _, _, _⟩, hb1⟩ := box2 hb
        clear hb
        have HB2 := hide (show Below w.heap.size w (w1.alloc (.cells #[.int .i64 p, .int .i64 q] 24)) from hb1.trans ((below_alloc w1 _).mono hb1.size))
        have H1 := hb1.size
        go_wp2_with fail
        go_ret
        exact ⟨.slice none 0 0, rfl, by rw [HC2.out]; exact Row.nil _ _, HB2.out⟩
  · have C1 := fun w => rmeet_n h w
    have HC := hide (show rcut (a, b) (c, d) = if Right (a, b) then [(a, b)] else [] from if_neg h)
    clear h
    by_cases h1 : Right (a, b)
    · have C2 := fun w => rright_yes h1 w
      have HC2 := hide (show rcut (a, b) (c, d) = [(a, b)] from by rw [HC.out, if_pos h1])
      clear h1 HC
      go_enter Try.func45, Try.ntmps45
      go_wp2_with fail
      refine (C1 _).mono ?_
      rintro e w1 ⟨rfl, hb⟩
      obtain ⟨⟨x0, x1, xf, xg, xl⟩, ⟨y0, y1, _, _, _⟩, hb1⟩ := box2 hb
      clear hb
      have HB2 := hide (show Below w.heap.size w (w1.alloc (.cells #[.int .i64 0, .int .i64 0] 24)) from hb1.trans ((below_alloc w1 _).mono hb1.size))
      have HX := hide ((At.mk (s := (a, b)) x0 x1 xf xg xl).both' (below_alloc w1 (.cells #[.int .i64 0, .int .i64 0] 24)))
      clear hb1 y0 y1
      go_wp2_with fail
      refine (C2 _).mono ?_
      rintro e w2 ⟨rfl, hb⟩
      have HX2 := hide (HX.out.both' hb)
      have HB3 := hide (HB2.out.trans (hb.mono HB2.out.size))
      clear x0 x1 xf xg xl hb HB2 HX
      obtain ⟨x0, x1, xf, xg, xl⟩ := HX2.out
      have HF := hide (row_one (base := w.heap.size) w2 a b HB3.out.size (k := w2.heap.size) rfl)
      go_wp2_with fail
      go_ret
      exact ⟨_, rfl, by rw [HC2.out]; exact HF.out, HB3.out.alloc HB3.out.size _⟩
    · have C2 := fun w => rright_no h1 w
      have HC2 := hide (show rcut (a, b) (c, d) = [] from by rw [HC.out, if_neg h1])
      clear h1 HC
      go_enter Try.func45, Try.ntmps45
      go_wp2_with fail
      refine (C1 _).mono ?_
      rintro e w1 ⟨rfl, hb⟩
      obtain ⟨⟨x0, x1, xf, xg, xl⟩, ⟨y0, y1, _, _, _⟩, hb1⟩ := box2 hb
      clear hb
      have HB2 := hide (show Below w.heap.size w (w1.alloc (.cells #[.int .i64 0, .int .i64 0] 24)) from hb1.trans ((below_alloc w1 _).mono hb1.size))
      clear hb1 y0 y1
      go_wp2_with fail
      refine (C2 _).mono ?_
      rintro e w2 ⟨rfl, hb⟩
      have HB3 := hide (HB2.out.trans (hb.mono HB2.out.size))
      clear hb HB2
      go_wp2_with fail
      go_ret
      exact ⟨.slice none 0 0, rfl, by rw [HC2.out]; exact Row.nil _ _, HB3.out⟩
end Spn
end Go.Proofs.Ytoacombaddknfaa
