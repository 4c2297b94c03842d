/- What must come of fixed calls. No condition. -/
import Derived.Test.YtjlejfjkigohhaaIj
namespace Go.Proofs.Ytjlejfjkigohhaa
open Go.RowKit
namespace Spn
theorem join_y {a b c d : Int} (h : Joins (a, b) (c, d)) (w : World) :
    Calls Try.prog 12 #[.agg #[.int .i64 a, .int .i64 b], .agg #[.int .i64 c, .int .i64 d]] w fun e w' => e = .returned (.tuple #[.agg #[.int .i64 (wide (a, b) (c, d)).1, .int .i64 (wide (a, b) (c, d)).2], .bool true]) ∧ Below w.heap.size w w' := by
  have := join_any a b c d w
  rw [join_yes h] at this
  exact this
theorem join_n {a b c d : Int} (h : ¬ Joins (a, b) (c, d)) (w : World) :
    Calls Try.prog 12 #[.agg #[.int .i64 a, .int .i64 b], .agg #[.int .i64 c, .int .i64 d]] w fun e w' => e = .returned (.tuple #[.agg #[.int .i64 0, .int .i64 0], .bool false]) ∧ Below w.heap.size w w' := by
  have := join_any a b c d w
  rw [join_no h] at this
  exact this
theorem has_y {a b t : Int} (h : Has (a, b) t) (w : World) :
    Calls Try.prog 16 #[.agg #[.int .i64 a, .int .i64 b], .int .i64 t] w fun e w' => e = .returned (.bool true) ∧ Below w.heap.size w w' := by
  have := has_any a b t w
  rwa [decide_eq_true h] at this
theorem has_n {a b t : Int} (h : ¬ Has (a, b) t) (w : World) :
    Calls Try.prog 16 #[.agg #[.int .i64 a, .int .i64 b], .int .i64 t] w fun e w' => e = .returned (.bool false) ∧ Below w.heap.size w w' := by
  have := has_any a b t w
  rwa [decide_eq_false h] at this
theorem same_y {l : List Sp} {sl sm : Value} {w : World} (h : SpansAt l sl w) (h' : SpansAt l sm w) (hl : l.length ≤ 1000) :
    Calls Try.prog 18 #[sl, sm] w fun e w' => e = .returned (.bool true) ∧ Below w.heap.size w w' := by
  have := same_any h h' hl
  rwa [decide_eq_true rfl] at this
theorem covers_y {l : List Sp} {sl : Value} {w : World} (h : SpansAt l sl w) (hl : l.length ≤ 1000) {a b : Int} (hc : covB l (a, b) = true) :
    Calls Try.prog 24 #[sl, .agg #[.int .i64 a, .int .i64 b]] w fun e w' => e = .returned (.bool true) ∧ Below w.heap.size w w' := by
  have := covers_any h hl a b
  rwa [hc] at this
theorem covers_n {l : List Sp} {sl : Value} {w : World} (h : SpansAt l sl w) (hl : l.length ≤ 1000) {a b : Int} (hc : covB l (a, b) = false) :
    Calls Try.prog 24 #[sl, .agg #[.int .i64 a, .int .i64 b]] w fun e w' => e = .returned (.bool false) ∧ Below w.heap.size w w' := by
  have := covers_any h hl a b
  rwa [hc] at this
theorem three_at' (w : World) (a b c d e f : Int) {k : Nat} (hk : k = w.heap.size) : SpansAt [(a, b), (c, d), (e, f)] (.slice (some ⟨k, 0, none⟩) 3 3) (w.alloc (.cells #[.int .i64 a, .int .i64 b, .int .i64 c, .int .i64 d, .int .i64 e, .int .i64 f] 23)) := by
  subst hk
  refine ⟨_, 3, rfl, by simp, by omega, .inr ⟨w.heap.size, 0, rfl, by simp, fun j hj => ?_⟩⟩
  have : j < 6 := by simpa using hj
  match j, this with
  | 0, _ => go_keep; rfl
  | 1, _ => go_keep; rfl
  | 2, _ => go_keep; rfl
  | 3, _ => go_keep; rfl
  | 4, _ => go_keep; rfl
  | 5, _ => go_keep; rfl
/-- What known has in memory. -/
structure Kn (w : World) (B3 B5 : Nat) (vn : Value) (z : World) : Prop where
  a : At (1, 9) w.heap.size z
  b : At (3, 4) (w.heap.size + 1) z
  m : At (3, 4) B3 z
  j : At (3, 6) B5 z
  n : Row w.heap.size [(1, 5), (7, 8)] vn z
  bel : Below w.heap.size w z
theorem Kn.later {w z z' : World} {B3 B5 : Nat} {vn : Value} (h : Kn w B3 B5 vn z) (hb : Below z.heap.size z z') : Kn w B3 B5 vn z' :=
  ⟨h.a.both hb, h.b.both hb, h.m.both hb, h.j.both hb, h.n.later hb (Nat.le_refl _), h.bel.trans (hb.mono h.bel.size)⟩
theorem k1 : mid (1, 9) (3, 4) = (3, 4) := by decide +kernel
theorem k2 : wide (3, 4) (4, 6) = (3, 6) := by decide +kernel
theorem k3 : norm [(7, 8), (3, 5), (1, 3)] = [(1, 5), (7, 8)] := by decide +kernel
theorem k4 : cut (1, 9) (3, 4) = [(1, 3), (4, 9)] := by decide +kernel
theorem k5 : covB [(1, 5), (7, 8)] (3, 4) = true := by decide +kernel
theorem k6 : covB [(1, 5), (7, 8)] (1, 9) = false := by decide +kernel
set_option maxHeartbeats 4000000 in
set_option maxRecDepth 100000 in
theorem known_any (w : World) : Calls Try.prog 21 #[] w fun e w' => e = .returned (.bool true) ∧ Below w.heap.size w w' := by
  have C1 := fun w => meet_y (a := 1) (b := 9) (c := 3) (d := 4) (by decide +kernel) w
  have C2 := fun w => join_y (a := 3) (b := 4) (c := 4) (d := 6) (by decide +kernel) w
  have C3 := fun w => join_n (a := 3) (b := 4) (c := 5) (d := 6) (by decide +kernel) w
  have C5 := fun w => right_yes (a := 1) (b := 9) (by decide +kernel) w
  have C6 := fun w => right_no (a := 2) (b := 2) (by decide +kernel) w
  have C7 := fun w => has_y (a := 1) (b := 9) (t := 1) (by decide +kernel) w
  have C8 := fun w => has_n (a := 1) (b := 9) (t := 9) (by decide +kernel) w
  rw [k1] at C1
  rw [k2] at C2
  have e1 : neS 3 4 3 4 = false := by decide
  have e2 : neS 3 6 3 6 = false := by decide
  have C1 := hide C1
  have C2 := hide C2
  have C3 := hide C3
  have C5 := hide C5
  have C6 := hide C6
  have C7 := hide C7
  have C8 := hide C8
  go_enter Try.func21, Try.ntmps21
  go_wp2_with fail
  refine (C1.out _).mono ?_
  rintro e w1 ⟨rfl, hb⟩
  obtain ⟨hA, hB, hb1⟩ := box2 hb
  have HA := hide (hA.both (below_alloc w1 (.cells #[.int .i64 3, .int .i64 4] 23)))
  have HB := hide (hB.both (below_alloc w1 (.cells #[.int .i64 3, .int .i64 4] 23)))
  have HM := hide (At.new w1 3 4 23)
  have HL := hide (show Below w.heap.size w (w1.alloc (.cells #[.int .i64 3, .int .i64 4] 23)) from hb1.trans ((below_alloc w1 _).mono hb1.size))
  obtain ⟨a0, a1, _, _, al⟩ := hA
  obtain ⟨b0, b1, _, _, bl⟩ := hB
  clear hb hb1
  go_wp2_with fail
  obtain ⟨B3, hB3⟩ : ∃ B3, B3 = w1.heap.size := ⟨_, rfl⟩
  rw [← hB3] at HM ⊢
  refine (C2.out _).mono ?_
  rintro e w2 ⟨rfl, hb⟩
  have HA2 := hide ((HA.out.both hb).both (below_alloc w2 (.cells #[.int .i64 3, .int .i64 6] 23)))
  have HB2 := hide ((HB.out.both hb).both (below_alloc w2 (.cells #[.int .i64 3, .int .i64 6] 23)))
  have HM2 := hide ((HM.out.both hb).both (below_alloc w2 (.cells #[.int .i64 3, .int .i64 6] 23)))
  have HJ2 := hide (At.new w2 3 6 23)
  have HL2 := hide (show Below w.heap.size w (w2.alloc (.cells #[.int .i64 3, .int .i64 6] 23)) from by
    have h1 := HL.out.trans (hb.mono HL.out.size)
    exact h1.trans ((below_alloc w2 _).mono h1.size))
  have hB2 := HB.out.both hb
  clear a0 a1 b0 b1 al bl
  obtain ⟨b0, b1, _, _, bl⟩ := hB2
  clear hb HA HB HM HL hB3
  go_wp2_with fail
  obtain ⟨B5, hB5⟩ : ∃ B5, B5 = w2.heap.size := ⟨_, rfl⟩
  rw [← hB5] at HJ2 ⊢
  refine (C3.out _).mono ?_
  rintro e w3 ⟨rfl, hb⟩
  have CN := hide (norm_any (three_at' (w3.alloc (.cells #[.int .i64 0, .int .i64 0] 23)) 7 8 3 5 1 3 (k := w3.heap.size + 1) (by simp)) (by simp))
  have HQ := hide (show Below w3.heap.size w3 ((w3.alloc (.cells #[.int .i64 0, .int .i64 0] 23)).alloc (.cells #[.int .i64 7, .int .i64 8, .int .i64 3, .int .i64 5, .int .i64 1, .int .i64 3] 23)) from (below_alloc w3 _).trans ((below_alloc _ _).mono (by simp)))
  have HA3 := hide ((HA2.out.both hb).both HQ.out)
  have HB3 := hide ((HB2.out.both hb).both HQ.out)
  have HM3 := hide ((HM2.out.both hb).both HQ.out)
  have HJ3 := hide ((HJ2.out.both hb).both HQ.out)
  have HL3 := hide (show Below w.heap.size w ((w3.alloc (.cells #[.int .i64 0, .int .i64 0] 23)).alloc (.cells #[.int .i64 7, .int .i64 8, .int .i64 3, .int .i64 5, .int .i64 1, .int .i64 3] 23)) from by
    have h1 := HL2.out.trans (hb.mono HL2.out.size)
    exact h1.trans (HQ.out.mono h1.size))
  clear hb HA2 HB2 HM2 HJ2 HL2 hB5 b0 b1 bl HQ
  go_wp2_with fail
  refine CN.out.mono ?_
  rintro e w4 ⟨vn, rfl, hrow, hb⟩
  have HK := hide (show Kn w B3 B5 vn w4 from ⟨HA3.out.both hb, HB3.out.both hb, HM3.out.both hb, HJ3.out.both hb, by rw [← k3]; exact hrow.mono HL3.out.size, HL3.out.trans (hb.mono HL3.out.size)⟩)
  clear hrow hb HA3 HB3 HM3 HJ3 HL3 CN
  obtain ⟨a0, a1, _, _, _⟩ := HK.out.a
  go_wp2_with fail
  refine (C5.out _).mono ?_
  rintro e w5 ⟨rfl, hb⟩
  have Kw5 := hide (HK.out.later hb)
  clear hb HK
  clear a0 a1
  go_wp2_with fail
  refine (C6.out _).mono ?_
  rintro e w6 ⟨rfl, hb⟩
  have Kw6 := hide (Kw5.out.later hb)
  clear hb Kw5
  obtain ⟨a0, a1, _, _, _⟩ := Kw6.out.a
  go_wp2_with fail
  refine (C7.out _).mono ?_
  rintro e w7 ⟨rfl, hb⟩
  have Kw7 := hide (Kw6.out.later hb)
  clear hb Kw6
  clear a0 a1
  obtain ⟨a0, a1, _, _, _⟩ := Kw7.out.a
  go_wp2_with fail
  refine (C8.out _).mono ?_
  rintro e w8 ⟨rfl, hb⟩
  have Kw8 := hide (Kw7.out.later hb)
  clear hb Kw7
  clear a0 a1
  obtain ⟨a0, a1, _, _, _⟩ := Kw8.out.a
  obtain ⟨b0, b1, _, _, _⟩ := Kw8.out.b
  obtain ⟨m0, m1, _, _, _⟩ := Kw8.out.m
  obtain ⟨j0, j1, _, _, _⟩ := Kw8.out.j
  have CC := hide (cut_any 1 9 3 4 w8)
  go_wp2_with fail
  refine CC.out.mono ?_
  rintro e w9 ⟨vc, rfl, hrow, hb⟩
  rw [k4] at hrow
  have KW9 := hide (Kw8.out.later hb)
  have HRC := hide hrow
  have HZ := hide (KW9.out.later (below_alloc w9 (.cells #[.int .i64 1, .int .i64 3, .int .i64 4, .int .i64 9] 23)))
  have CS := hide (same_y (HRC.out.spans.later (below_alloc w9 (.cells #[.int .i64 1, .int .i64 3, .int .i64 4, .int .i64 9] 23)) (Nat.le_refl _)) (two_at' w9 1 3 4 9 (k := w9.heap.size) rfl) (by simp))
  clear hrow hb Kw8 CC a0 a1 b0 b1 m0 m1 j0 j1
  go_wp2_with fail
  refine CS.out.mono ?_
  rintro e w10 ⟨rfl, hb⟩
  have Kw10 := hide (HZ.out.later hb)
  clear hb HZ
  clear CS KW9 HRC
  have HZ := hide (Kw10.out.later (below_alloc w10 (.cells #[.int .i64 1, .int .i64 5, .int .i64 7, .int .i64 8] 23)))
  have CS := hide (same_y HZ.out.n.spans (two_at' w10 1 5 7 8 (k := w10.heap.size) rfl) (by simp))
  clear Kw10
  go_wp2_with fail
  refine CS.out.mono ?_
  rintro e w11 ⟨rfl, hb⟩
  have Kw11 := hide (HZ.out.later hb)
  clear hb HZ
  clear CS
  obtain ⟨b0, b1, _, _, _⟩ := Kw11.out.b
  have CV := hide (covers_y Kw11.out.n.spans (by simp) k5)
  go_wp2_with fail
  refine CV.out.mono ?_
  rintro e w12 ⟨rfl, hb⟩
  have Kw12 := hide (Kw11.out.later hb)
  clear hb Kw11
  clear CV b0 b1
  obtain ⟨a0, a1, _, _, _⟩ := Kw12.out.a
  have CV := hide (covers_n Kw12.out.n.spans (by simp) k6)
  go_wp2_with fail
  refine CV.out.mono ?_
  rintro e w13 ⟨rfl, hb⟩
  have Kw13 := hide (Kw12.out.later hb)
  clear hb Kw12
  clear CV a0 a1
  go_wp2_with fail
  go_ret
  exact ⟨rfl, Kw13.out.bel⟩
end Spn
end Go.Proofs.Ytjlejfjkigohhaa
