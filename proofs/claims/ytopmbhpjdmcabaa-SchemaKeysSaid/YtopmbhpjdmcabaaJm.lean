/- schema.Extends. Condition: names are at most 2^48 bytes, and there are at most a million columns. -/
import Derived.Test.YtopmbhpjdmcabaaJg
namespace Go.Proofs.Ytopmbhpjdmcabaa
open Go.RowKit
namespace Sch
open Cod
theorem add_off (b off j : Nat) : (⟨b, off, none⟩ : Addr).add j = ⟨b, off + j, none⟩ := by unfold Addr.add; split <;> simp_all
theorem right_n16 {s : T} (h : rightB s = true) : s.cols.length ≤ 16 ∧ 1 ≤ s.cols.length := by
  obtain ⟨_, h1, h2, _, h3⟩ := head_parts (right_head h); exact ⟨h1, by omega⟩
theorem same_is {a b : T} {x : Bool} (hx : sameB a b = x) (sa sb : Value) (ha : a.cols.length ≤ 1000000) (hb : b.cols.length ≤ 1000000) (w : World) (h1 : ColsAt a.cols sa w) (h2 : ColsAt b.cols sb w) :
    Calls Try.prog 30 #[.agg #[.string (S a.nm), sa, .int .i64 a.keys], .agg #[.string (S b.nm), sb, .int .i64 b.keys]] w fun e w' => e = .returned (.bool x) ∧ Below w.heap.size w w' := hx ▸ same_any a b sa sb ha hb w h1 h2
theorem some_nd_is {cs : List C} {x : Bool} (hx : cs.any (fun c => c.nd) = x) (sl : Value) (w : World) (h : ColsAt cs sl w) :
    Calls Try.prog 57 #[sl, .func (.func 58) #[] #[]] w fun e w' => e = .returned (.bool x) ∧ Below w.heap.size w w' := hx ▸ some_nd cs sl w h
/-- The boxes of two schemas, and what was made since. -/
def Boxed2 (a b : T) (ao : Option Addr) (ac : Nat) (bo : Option Addr) (bc : Nat) (w wr : World) : Prop := Below (w.heap.size + 2) ((w.alloc (.cells #[.string (S a.nm), .slice ao a.cols.length ac, .int .i64 a.keys] 24)).alloc (.cells #[.string (S b.nm), .slice bo b.cols.length bc, .int .i64 b.keys] 24)) wr
section
variable {a b : T} {ao bo : Option Addr} {ac bc : Nat} {w wr w' : World}
theorem Boxed2.start (a b : T) (ao : Option Addr) (ac : Nat) (bo : Option Addr) (bc : Nat) (w : World) : Boxed2 a b ao ac bo bc w ((w.alloc (.cells #[.string (S a.nm), .slice ao a.cols.length ac, .int .i64 a.keys] 24)).alloc (.cells #[.string (S b.nm), .slice bo b.cols.length bc, .int .i64 b.keys] 24)) := Below.refl _ _
theorem Boxed2.size (h : Boxed2 a b ao ac bo bc w wr) : w.heap.size + 2 ≤ wr.heap.size := by have := Below.size h; simpa using this
theorem Boxed2.below (h : Boxed2 a b ao ac bo bc w wr) : Below w.heap.size w wr :=
  (((Below.refl _ _).alloc (Nat.le_refl w.heap.size) _).alloc (by simp) _).trans (Below.mono h (by simp))
theorem Boxed2.then (h : Boxed2 a b ao ac bo bc w wr) (hb : Below wr.heap.size wr w') : Boxed2 a b ao ac bo bc w w' := Below.trans h (hb.mono h.size)
theorem Boxed2.a0 (h : Boxed2 a b ao ac bo bc w wr) : wr.cell? ⟨w.heap.size, 0, none⟩ = some (.string (S a.nm)) := by
  rw [Below.cell h (p := ⟨w.heap.size, 0, none⟩) (show w.heap.size < w.heap.size + 2 by omega)]; simp [go_sem]
theorem Boxed2.a1 (h : Boxed2 a b ao ac bo bc w wr) : wr.cell? ⟨w.heap.size, 1, none⟩ = some (.slice ao a.cols.length ac) := by
  rw [Below.cell h (p := ⟨w.heap.size, 1, none⟩) (show w.heap.size < w.heap.size + 2 by omega)]; simp [go_sem]
theorem Boxed2.a2 (h : Boxed2 a b ao ac bo bc w wr) : wr.cell? ⟨w.heap.size, 2, none⟩ = some (.int .i64 a.keys) := by
  rw [Below.cell h (p := ⟨w.heap.size, 2, none⟩) (show w.heap.size < w.heap.size + 2 by omega)]; simp [go_sem]
theorem Boxed2.b0 (h : Boxed2 a b ao ac bo bc w wr) : wr.cell? ⟨w.heap.size + 1, 0, none⟩ = some (.string (S b.nm)) := by
  rw [Below.cell h (p := ⟨w.heap.size + 1, 0, none⟩) (show w.heap.size + 1 < w.heap.size + 2 by omega)]; simp [go_sem]
theorem Boxed2.b1 (h : Boxed2 a b ao ac bo bc w wr) : wr.cell? ⟨w.heap.size + 1, 1, none⟩ = some (.slice bo b.cols.length bc) := by
  rw [Below.cell h (p := ⟨w.heap.size + 1, 1, none⟩) (show w.heap.size + 1 < w.heap.size + 2 by omega)]; simp [go_sem]
theorem Boxed2.b2 (h : Boxed2 a b ao ac bo bc w wr) : wr.cell? ⟨w.heap.size + 1, 2, none⟩ = some (.int .i64 b.keys) := by
  rw [Below.cell h (p := ⟨w.heap.size + 1, 2, none⟩) (show w.heap.size + 1 < w.heap.size + 2 by omega)]; simp [go_sem]
end
set_option maxHeartbeats 4000000 in
set_option maxRecDepth 100000 in
theorem extends_any (a b : T) (la : Lim a) (lb : Lim b) (sa sb : Value) (w : World) (h1 : ColsAt a.cols sa w) (h2 : ColsAt b.cols sb w) :
    Calls Try.prog 29 #[.agg #[.string (S a.nm), sa, .int .i64 a.keys], .agg #[.string (S b.nm), sb, .int .i64 b.keys]] w fun e w' => e = .returned (.bool (extB a b)) ∧ Below w.heap.size w w' := by
  obtain ⟨ao, ac, rfl, hac, _⟩ := h1.form
  obtain ⟨bo, bc, rfl, hbc, _⟩ := h2.form
  have HS0 := hidm (Boxed2.start a b ao ac bo bc w)
  have H1 := hidm h1
  have H2 := hidm h2
  have LA := hidm la
  have LB := hidm lb
  obtain ⟨F, hF⟩ : ∃ F, F = extB a b := ⟨_, rfl⟩
  rw [← hF]
  unfold extB at hF
  obtain ⟨n, hn⟩ : ∃ n, n = a.cols.length := ⟨_, rfl⟩
  obtain ⟨m, hm⟩ : ∃ m, m = b.cols.length := ⟨_, rfl⟩
  have HN := hidm hn
  have HM := hidm hm
  rcases ra : rightB a with _ | _
  · have HFF := hidm (show F = false from by rw [hF, ra]; rfl)
    have R := right_is ra la _ _ (h1.later HS0.out.below)
    clear h1 h2 la lb hF ra hn hm
    go_enter Try.func29, Try.ntmps29
    go_wp2_with fail
    refine R.mono ?_
    rintro e w1 ⟨rfl, hb1⟩
    have HB1 := hidm (HS0.out.then hb1)
    clear hb1 R
    go_wp2_with fail
    go_ret
    exact ⟨Val.ret_bool HFF.out.symm, HB1.out.below⟩
  · have R := right_is ra la _ _ (h1.later HS0.out.below)
    rcases rb : rightB b with _ | _
    · have HFF := hidm (show F = false from by rw [hF, ra, rb]; rfl)
      have RB := hidm rb
      clear h1 h2 la lb hF ra rb hn hm
      go_enter Try.func29, Try.ntmps29
      go_wp2_with fail
      refine R.mono ?_
      rintro e w1 ⟨rfl, hb1⟩
      have HB1 := hidm (HS0.out.then hb1)
      have R2 := right_is RB.out LB.out _ w1 (H2.out.later HB1.out.below)
      have b0 := HB1.out.b0
      have b1 := HB1.out.b1
      have b2 := HB1.out.b2
      clear hb1 R
      go_wp2_with fail
      refine R2.mono ?_
      rintro e w2 ⟨rfl, hb2⟩
      have HB2 := hidm (HB1.out.then hb2)
      clear hb2 R2 b0 b1 b2
      go_wp2_with fail
      go_ret
      exact ⟨Val.ret_bool HFF.out.symm, HB2.out.below⟩
    · have RB := hidm rb
      obtain ⟨hn16, hn1⟩ := right_n16 ra
      obtain ⟨hm16, hm1⟩ := right_n16 rb
      rw [← hn] at hn16 hn1 hac R ⊢
      rw [← hm] at hm16 hm1 hbc R ⊢
      obtain ⟨b1, o1, cq, he, hq1, hq2⟩ := h2.at 0 (by omega)
      simp only [Value.slice.injEq] at he
      obtain ⟨rfl, he1, he2⟩ := he
      clear hq1 hq2 he1 he2
      rw [ra, rb, ← hn, ← hm, Bool.true_and, Bool.true_and] at hF
      have HFH := hidm hF
      clear h1 h2 la lb hF ra rb hn hm
      rcases Nat.lt_or_ge m n with hmn | hmn
      · have HFF := hidm (show F = false from by rw [HFH.out, decide_eq_false (by omega)]; rfl)
        go_enter Try.func29, Try.ntmps29
        go_wp2_with fail
        refine R.mono ?_
        rintro e w1 ⟨rfl, hb1⟩
        have HB1 := hidm (HS0.out.then (by rw [← HN.out, ← HM.out]; exact hb1))
        have R2 := right_is RB.out LB.out _ w1 (H2.out.later HB1.out.below)
        have b0 := HB1.out.b0
        have b1 := HB1.out.b1
        have b2 := HB1.out.b2
        rw [← HM.out] at b1 R2
        clear hb1 R
        go_wp2_with fail
        refine R2.mono ?_
        rintro e w2 ⟨rfl, hb2⟩
        have HB2 := hidm (HB1.out.then hb2)
        have c1 := HB2.out.b1
        rw [← HM.out] at c1
        clear hb2 R2 b0 b1 b2
        go_wp2_with fail
        go_ret
        exact ⟨Val.ret_bool HFF.out.symm, HB2.out.below⟩
      · have HFF := hidm (show F = (sameB a ⟨b.nm, b.cols.take n, b.keys⟩ && !(b.cols.drop n).any (·.nd)) from by rw [HFH.out, decide_eq_true (by omega), Bool.true_and])
        have hnc : n ≤ bc := by omega
        go_enter Try.func29, Try.ntmps29
        go_wp2_with fail
        refine R.mono ?_
        rintro e w1 ⟨rfl, hb1⟩
        have HB1 := hidm (HS0.out.then (by rw [← HN.out, ← HM.out]; exact hb1))
        have R2 := right_is RB.out LB.out _ w1 (H2.out.later HB1.out.below)
        have b0 := HB1.out.b0
        have b1' := HB1.out.b1
        have b2 := HB1.out.b2
        rw [← HM.out] at b1' R2
        clear hb1 R
        go_wp2_with fail
        refine R2.mono ?_
        rintro e w2 ⟨rfl, hb2⟩
        have HB2 := hidm (HB1.out.then hb2)
        have c0 := HB2.out.b0
        have c1 := HB2.out.b1
        have c2 := HB2.out.b2
        have d0 := HB2.out.a0
        have d1 := HB2.out.a1
        have d2 := HB2.out.a2
        rw [← HM.out] at c1
        rw [← HN.out] at d1
        have hsz2 := HB2.out.size
        clear hb2 R2 b0 b1' b2
        have hbA : Below w2.heap.size w2 (w2.alloc (.cells #[.string (S b.nm), .slice (some ⟨b1, o1, none⟩) m bc, .int .i64 b.keys] 24)) := (Below.refl _ _).alloc (Nat.le_refl _) _
        have e1 := cell_later hbA c1
        have e0 := cell_later hbA c0
        have e2 := cell_later hbA c2
        have hbB : Below w2.heap.size w2 (w2.alloc (.cells #[.string (S b.nm), .slice (some ⟨b1, o1, none⟩) n bc, .int .i64 b.keys] 24)) := (Below.refl _ _).alloc (Nat.le_refl _) _
        have g0 := cell_later hbB d0
        have g1 := cell_later hbB d1
        have g2 := cell_later hbB d2
        have HB4 := hidm (HB2.out.then hbB)
        have hne0 : ¬ (w.heap.size = w2.heap.size) := by omega
        have hne1 : ¬ (w.heap.size + 1 = w2.heap.size) := by omega
        have hne2 : ¬ (w2.heap.size = w.heap.size) := by omega
        have hne3 : ¬ (w2.heap.size = w.heap.size + 1) := by omega
        obtain ⟨x, hx⟩ : ∃ x, sameB a ⟨b.nm, b.cols.take n, b.keys⟩ = x := ⟨_, rfl⟩
        have HX := hidm hx
        have hat : ColsAt a.cols (.slice ao n ac) (w2.alloc (.cells #[.string (S b.nm), .slice (some ⟨b1, o1, none⟩) n bc, .int .i64 b.keys] 24)) := by
          have g := H1.out.later HB4.out.below
          rw [← HN.out] at g; exact g
        have hbt : ColsAt (b.cols.take n) (.slice (some ⟨b1, o1, none⟩) n bc) (w2.alloc (.cells #[.string (S b.nm), .slice (some ⟨b1, o1, none⟩) n bc, .int .i64 b.keys] 24)) := (H2.out.later HB4.out.below).take n (by have := HM.out; omega)
        have P := same_is (a := a) (b := ⟨b.nm, b.cols.take n, b.keys⟩) hx _ _ (by have := LA.out.n; exact this) (by show (b.cols.take n).length ≤ 1000000; rw [List.length_take]; have := LB.out.n; omega) _ hat hbt
        clear hbA hbB hx hat hbt
        go_wp2_with fail
        refine P.mono ?_
        rintro e w5 ⟨rfl, hb5⟩
        have HB5 := hidm (HB4.out.then hb5)
        clear P hb5 e0 e1 e2 g0 g1 g2 c0 c1 c2 d0 d1 d2 hne0 hne1 hne2 hne3
        have k1 := HB5.out.b1
        rw [← HM.out] at k1
        rcases x with _ | _
        · have HFX := hidm (show F = false from by rw [HFF.out, HX.out]; rfl)
          go_wp2_with fail
          go_ret
          exact ⟨Val.ret_bool HFX.out.symm, HB5.out.below⟩
        · have HFX := hidm (show F = !(b.cols.drop n).any (·.nd) from by rw [HFF.out, HX.out, Bool.true_and])
          obtain ⟨y, hy⟩ : ∃ y, (b.cols.drop n).any (fun c => c.nd) = y := ⟨_, rfl⟩
          have HY := hidm hy
          have D := some_nd_is hy _ w5 ((H2.out.later HB5.out.below).drop n (by have := HM.out; omega))
          rw [← HM.out] at D
          clear hy
          rcases Decidable.em (bc = n) with hcap | hcap
          · subst hcap
            rw [if_pos rfl, show m - bc = 0 from by omega, Nat.sub_self] at D
            go_wp2_with fail
            refine D.mono ?_
            rintro e w6 ⟨rfl, hb6⟩
            have HB6 := hidm (HB5.out.then hb6)
            clear hb6 D k1
            go_wp2_with fail
            go_ret
            exact ⟨Val.ret_bool (by rw [HFX.out, HY.out]), HB6.out.below⟩
          · rw [if_neg hcap] at D
            simp only [Option.map_some, add_off] at D
            go_wp2_with fail
            refine D.mono ?_
            rintro e w6 ⟨rfl, hb6⟩
            have HB6 := hidm (HB5.out.then hb6)
            clear hb6 D k1
            go_wp2_with fail
            go_ret
            exact ⟨Val.ret_bool (by rw [HFX.out, HY.out]), HB6.out.below⟩
end Sch
end Go.Proofs.Ytopmbhpjdmcabaa
