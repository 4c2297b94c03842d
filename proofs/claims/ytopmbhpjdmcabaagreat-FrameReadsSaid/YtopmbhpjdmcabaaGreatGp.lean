/- The document's Same, of schemas and of transactions. Condition: at most a million columns and values. -/
import Derived.Test.YtopmbhpjdmcabaaGreatGd
import Derived.Test.YtopmbhpjdmcabaaGreatQc
namespace Go.Proofs.YtopmbhpjdmcabaaGreat
open Go.RowKit
namespace Sch
open Cod
/-- The boxes of two schemas, and what was made since. -/
def Boxed2 (a b : T) (ao : Option Addr) (ac : Nat) (bo : Option Addr) (bc : Nat) (w wr : World) : Prop := Below (w.heap.size + 2) ((w.alloc (.cells #[.string (S a.nm), .slice ao a.cols.length ac, .int .i64 a.keys] 30)).alloc (.cells #[.string (S b.nm), .slice bo b.cols.length bc, .int .i64 b.keys] 30)) wr
section
variable {a b : T} {ao bo : Option Addr} {ac bc : Nat} {w wr w' : World}
theorem Boxed2.start (a b : T) (ao : Option Addr) (ac : Nat) (bo : Option Addr) (bc : Nat) (w : World) : Boxed2 a b ao ac bo bc w ((w.alloc (.cells #[.string (S a.nm), .slice ao a.cols.length ac, .int .i64 a.keys] 30)).alloc (.cells #[.string (S b.nm), .slice bo b.cols.length bc, .int .i64 b.keys] 30)) := Below.refl _ _
theorem Boxed2.size (h : Boxed2 a b ao ac bo bc w wr) : w.heap.size + 2 ≤ wr.heap.size := by have := Below.size h; simpa using this
theorem Boxed2.below (h : Boxed2 a b ao ac bo bc w wr) : Below w.heap.size w wr :=
  (((Below.refl _ _).alloc (Nat.le_refl w.heap.size) _).alloc (by simp) _).trans (Below.mono h (by simp))
theorem Boxed2.then (h : Boxed2 a b ao ac bo bc w wr) (hb : Below wr.heap.size wr w') : Boxed2 a b ao ac bo bc w w' := Below.trans h (hb.mono h.size)
theorem Boxed2.a0 (h : Boxed2 a b ao ac bo bc w wr) : wr.cell? ⟨w.heap.size, 0, none⟩ = some (.string (S a.nm)) := by
  rw [Below.cell h (p := ⟨w.heap.size, 0, none⟩) (show w.heap.size < w.heap.size + 2 by omega)]; simp [go_sem]
theorem Boxed2.a1 (h : Boxed2 a b ao ac bo bc w wr) : wr.cell? ⟨w.heap.size, 1, none⟩ = some (.slice ao a.cols.length ac) := by
  rw [Below.cell h (p := ⟨w.heap.size, 1, none⟩) (show w.heap.size < w.heap.size + 2 by omega)]; simp [go_sem]
theorem Boxed2.a2 (h : Boxed2 a b ao ac bo bc w wr) : wr.cell? ⟨w.heap.size, 2, none⟩ = some (.int .i64 a.keys) := by
  rw [Below.cell h (p := ⟨w.heap.size, 2, none⟩) (show w.heap.size < w.heap.size + 2 by omega)]; simp [go_sem]
theorem Boxed2.b0 (h : Boxed2 a b ao ac bo bc w wr) : wr.cell? ⟨w.heap.size + 1, 0, none⟩ = some (.string (S b.nm)) := by
  rw [Below.cell h (p := ⟨w.heap.size + 1, 0, none⟩) (show w.heap.size + 1 < w.heap.size + 2 by omega)]; simp [go_sem]
theorem Boxed2.b1 (h : Boxed2 a b ao ac bo bc w wr) : wr.cell? ⟨w.heap.size + 1, 1, none⟩ = some (.slice bo b.cols.length bc) := by
  rw [Below.cell h (p := ⟨w.heap.size + 1, 1, none⟩) (show w.heap.size + 1 < w.heap.size + 2 by omega)]; simp [go_sem]
theorem Boxed2.b2 (h : Boxed2 a b ao ac bo bc w wr) : wr.cell? ⟨w.heap.size + 1, 2, none⟩ = some (.int .i64 b.keys) := by
  rw [Below.cell h (p := ⟨w.heap.size + 1, 2, none⟩) (show w.heap.size + 1 < w.heap.size + 2 by omega)]; simp [go_sem]
end
set_option maxHeartbeats 4000000 in
set_option maxRecDepth 100000 in
theorem rsame_any (a b : T) (sa sb : Value) (ha : a.cols.length ≤ 1000000) (hb : b.cols.length ≤ 1000000) (w : World) (h1 : ColsAt a.cols sa w) (h2 : ColsAt b.cols sb w) :
    Calls Tryz.prog 32 #[.agg #[.string (S a.nm), sa, .int .i64 a.keys], .agg #[.string (S b.nm), sb, .int .i64 b.keys]] w fun e w' => e = .returned (.bool (sameB a b)) ∧ Below w.heap.size w w' := by
  obtain ⟨ao, ac, rfl, hac, _⟩ := h1.form
  obtain ⟨bo, bc, rfl, hbc, _⟩ := h2.form
  have HS0 := hidm (Boxed2.start a b ao ac bo bc w)
  have H1 := hidm h1
  have H2 := hidm h2
  have hc := same_cases a b
  obtain ⟨F, hF⟩ : ∃ F, F = sameB a b := ⟨_, rfl⟩
  rw [← hF] at hc ⊢
  clear hF h1 h2
  obtain ⟨an, acs, ak⟩ := a
  obtain ⟨bn, bcs, bk⟩ := b
  obtain ⟨n, hn⟩ : ∃ n, n = acs.length := ⟨_, rfl⟩
  obtain ⟨m, hm⟩ : ∃ n, n = bcs.length := ⟨_, rfl⟩
  have HN := hidm hn
  have HM := hidm hm
  simp only at ha hb hac hbc ⊢
  rw [← hn] at ha hac ⊢
  rw [← hm] at hb hbc ⊢
  clear hn hm
  by_cases hnm : an = bn
  · subst hnm
    by_cases hk : ak = bk
    · subst hk
      have HF := hidm (hc.1 rfl rfl)
      clear hc
      by_cases hl : n = m
      · subst hl
        go_enter Tryz.func32, Tryz.ntmps32
        go_wp2_with fail
        go_loopw [5] (fun ii wr => ∃ i : Nat, ii = .int .i64 i ∧ i ≤ n ∧ Hid (acs.take i = bcs.take i) ∧ Hid (Boxed2 ⟨an, acs, ak⟩ ⟨an, bcs, ak⟩ ao ac bo bc w wr)) (fun ii _ => (n - (intOf ii).toNat))
        case atStart => exact ⟨0, rfl, by omega, hidm rfl, by rw [HN.out]; have h := HS0; simp only [← HN.out, ← HM.out] at h ⊢; exact h⟩
        case round =>
          obtain ⟨i, rfl, hi, HT, HB⟩ := hrel
          have a1 := HB.out.a1
          have b1 := HB.out.b1
          simp only [← HN.out, ← HM.out] at a1 b1
          rcases Nat.lt_or_ge i n with hlt | hge
          · have f1 : (i : Int) < n := by omega
            have hia : i < acs.length := by have := HN.out; omega
            have hib : i < bcs.length := by have := HM.out; omega
            obtain ⟨b1', o1, c1, he1, _, q0, q1, q2⟩ := (H1.out.later HB.out.below).at i hia
            obtain ⟨b2', o2, c2, he2, _, r0, r1, r2⟩ := (H2.out.later HB.out.below).at i hib
            simp only [Value.slice.injEq] at he1 he2
            obtain ⟨rfl, _, rfl⟩ := he1
            obtain ⟨rfl, _, rfl⟩ := he2
            obtain ⟨x, hx⟩ : ∃ x, x = acs[i] := ⟨_, rfl⟩
            obtain ⟨y, hy⟩ : ∃ y, y = bcs[i] := ⟨_, rfl⟩
            rw [← hx] at q0 q1 q2
            rw [← hy] at r0 r1 r2
            have HX := hidm hx
            have HY := hidm hy
            clear hx hy
            have heq : eqC (S x.nm) x.k x.nd (S y.nm) y.k y.nd = x.same y := rfl
            rcases hsame : x.same y with _ | _
            · have f4 : eqC (S x.nm) x.k x.nd (S y.nm) y.k y.nd = false := heq.trans hsame
              have HNE := hidm (show F = false from by
                rw [← HF.out]
                rw [decide_eq_false_iff_not]
                intro he
                have : x = y := by rw [HX.out, HY.out]; subst he; rfl
                rw [(C.same_iff x y).2 this] at hsame
                cases hsame)
              clear heq hsame
              go_wp2_with fail
              go_quiet (fail)
              go_wp2_with fail
              go_ret
              exact ⟨Val.ret_bool HNE.out.symm, below_drewN HB.out.below _⟩
            · have f4 : eqC (S x.nm) x.k x.nd (S y.nm) y.k y.nd = true := heq.trans hsame
              have hxy := (C.same_iff x y).1 hsame
              have HT2 : Hid (acs.take (i + 1) = bcs.take (i + 1)) := by
                refine hidm ?_
                rw [List.take_succ_eq_append_getElem hia, List.take_succ_eq_append_getElem hib, HT.out, ← HX.out, ← HY.out, hxy]
              clear heq hxy hsame
              go_wp2_with fail
              go_quiet (fail)
              go_wp2_with fail
              go_roundw
              case rel => exact ⟨i + 1, by go_num, by omega, HT2, hidm (HB.out.then (below_drewN (Below.refl _ _) _))⟩
              case measure => simp [intOf]; omega
          · have f1 : ¬ (i : Int) < n := by omega
            obtain rfl : n = i := by omega
            have HTR := hidm (show F = true from by
              rw [← HF.out]; have h := HT.out
              rw [List.take_of_length_le (by have := HN.out; omega), List.take_of_length_le (by have := HM.out; omega)] at h
              exact decide_eq_true h)
            go_wp2_with fail
            go_ret
            exact ⟨Val.ret_bool HTR.out.symm, HB.out.below⟩
      · have HFF := hidm (show F = false from by
          rw [← HF.out]; exact decide_eq_false (fun e => hl (by rw [HN.out, HM.out]; exact congrArg List.length e)))
        have f0 : ((n : Int) != (m : Int)) = true := by simp; omega
        have HSB := hidm HS0.out.below
        go_enter Tryz.func32, Tryz.ntmps32
        go_wp2_with fail
        go_ret
        simp only [← HN.out, ← HM.out] at HSB
        exact ⟨Val.ret_bool HFF.out.symm, HSB.out⟩
    · have HFF := hidm (hc.2 (.inr hk))
      have f2 : (ak != bk) = true := by simpa using hk
      have HSB := hidm HS0.out.below
      clear hk hc
      go_enter Tryz.func32, Tryz.ntmps32
      go_wp2_with fail
      go_ret
      simp only [← HN.out, ← HM.out] at HSB
      exact ⟨Val.ret_bool HFF.out.symm, HSB.out⟩
  · have HFF := hidm (hc.2 (.inl hnm))
    have f1 : (an != bn) = true := by simpa using hnm
    have f2 : (an == bn) = false := by simpa using hnm
    have HSB := hidm HS0.out.below
    clear hnm hc
    go_enter Tryz.func32, Tryz.ntmps32
    go_wp2_with fail
    go_ret
    simp only [← HN.out, ← HM.out] at HSB
    exact ⟨Val.ret_bool HFF.out.symm, HSB.out⟩
end Sch
namespace Frm
open Cod Sch
/-- Two boxes, and what was made since. -/
def BoxX2 (x y : X) (w wr : World) : Prop := Below (w.heap.size + 2) ((w.alloc (.cells #[.int .i64 x.seq, .int .i64 x.tm, .slice x.co x.l.length x.cc] 24)).alloc (.cells #[.int .i64 y.seq, .int .i64 y.tm, .slice y.co y.l.length y.cc] 24)) wr
section
variable {x y : X} {w wr w' : World}
theorem BoxX2.start (x y : X) (w : World) : BoxX2 x y w ((w.alloc (.cells #[.int .i64 x.seq, .int .i64 x.tm, .slice x.co x.l.length x.cc] 24)).alloc (.cells #[.int .i64 y.seq, .int .i64 y.tm, .slice y.co y.l.length y.cc] 24)) := Below.refl _ _
theorem BoxX2.size (h : BoxX2 x y w wr) : w.heap.size + 2 ≤ wr.heap.size := by have := Below.size h; simpa using this
theorem BoxX2.below (h : BoxX2 x y w wr) : Below w.heap.size w wr :=
  (((Below.refl _ _).alloc (Nat.le_refl w.heap.size) _).alloc (by simp) _).trans (Below.mono h (by simp))
theorem BoxX2.then (h : BoxX2 x y w wr) (hb : Below wr.heap.size wr w') : BoxX2 x y w w' := Below.trans h (hb.mono h.size)
theorem BoxX2.a0 (h : BoxX2 x y w wr) : wr.cell? ⟨w.heap.size, 0, none⟩ = some (.int .i64 x.seq) := by
  rw [Below.cell h (p := ⟨w.heap.size, 0, none⟩) (show w.heap.size < w.heap.size + 2 by omega)]; simp [go_sem]
theorem BoxX2.b0 (h : BoxX2 x y w wr) : wr.cell? ⟨w.heap.size + 1, 0, none⟩ = some (.int .i64 y.seq) := by
  rw [Below.cell h (p := ⟨w.heap.size + 1, 0, none⟩) (show w.heap.size + 1 < w.heap.size + 2 by omega)]; simp [go_sem]
theorem BoxX2.a1 (h : BoxX2 x y w wr) : wr.cell? ⟨w.heap.size, 1, none⟩ = some (.int .i64 x.tm) := by
  rw [Below.cell h (p := ⟨w.heap.size, 1, none⟩) (show w.heap.size < w.heap.size + 2 by omega)]; simp [go_sem]
theorem BoxX2.b1 (h : BoxX2 x y w wr) : wr.cell? ⟨w.heap.size + 1, 1, none⟩ = some (.int .i64 y.tm) := by
  rw [Below.cell h (p := ⟨w.heap.size + 1, 1, none⟩) (show w.heap.size + 1 < w.heap.size + 2 by omega)]; simp [go_sem]
theorem BoxX2.a2 (h : BoxX2 x y w wr) : wr.cell? ⟨w.heap.size, 2, none⟩ = some (.slice x.co x.l.length x.cc) := by
  rw [Below.cell h (p := ⟨w.heap.size, 2, none⟩) (show w.heap.size < w.heap.size + 2 by omega)]; simp [go_sem]
theorem BoxX2.b2 (h : BoxX2 x y w wr) : wr.cell? ⟨w.heap.size + 1, 2, none⟩ = some (.slice y.co y.l.length y.cc) := by
  rw [Below.cell h (p := ⟨w.heap.size + 1, 2, none⟩) (show w.heap.size + 1 < w.heap.size + 2 by omega)]; simp [go_sem]
end
/-- Two boxes, and what was made since. -/
def BoxM2 (x y : M) (w wr : World) : Prop := Below (w.heap.size + 2) ((w.alloc (.cells #[.int .i64 x.c.op, .string (S x.c.tb), .slice x.ro x.c.row.length x.rc, .int .i64 x.c.a, .int .i64 x.c.z, .string (S x.c.df.nm), .slice x.qo x.c.df.cols.length x.qc, .int .i64 x.c.df.keys] 32)).alloc (.cells #[.int .i64 y.c.op, .string (S y.c.tb), .slice y.ro y.c.row.length y.rc, .int .i64 y.c.a, .int .i64 y.c.z, .string (S y.c.df.nm), .slice y.qo y.c.df.cols.length y.qc, .int .i64 y.c.df.keys] 32)) wr
section
variable {x y : M} {w wr w' : World}
theorem BoxM2.start (x y : M) (w : World) : BoxM2 x y w ((w.alloc (.cells #[.int .i64 x.c.op, .string (S x.c.tb), .slice x.ro x.c.row.length x.rc, .int .i64 x.c.a, .int .i64 x.c.z, .string (S x.c.df.nm), .slice x.qo x.c.df.cols.length x.qc, .int .i64 x.c.df.keys] 32)).alloc (.cells #[.int .i64 y.c.op, .string (S y.c.tb), .slice y.ro y.c.row.length y.rc, .int .i64 y.c.a, .int .i64 y.c.z, .string (S y.c.df.nm), .slice y.qo y.c.df.cols.length y.qc, .int .i64 y.c.df.keys] 32)) := Below.refl _ _
theorem BoxM2.size (h : BoxM2 x y w wr) : w.heap.size + 2 ≤ wr.heap.size := by have := Below.size h; simpa using this
theorem BoxM2.below (h : BoxM2 x y w wr) : Below w.heap.size w wr :=
  (((Below.refl _ _).alloc (Nat.le_refl w.heap.size) _).alloc (by simp) _).trans (Below.mono h (by simp))
theorem BoxM2.then (h : BoxM2 x y w wr) (hb : Below wr.heap.size wr w') : BoxM2 x y w w' := Below.trans h (hb.mono h.size)
theorem BoxM2.a0 (h : BoxM2 x y w wr) : wr.cell? ⟨w.heap.size, 0, none⟩ = some (.int .i64 x.c.op) := by
  rw [Below.cell h (p := ⟨w.heap.size, 0, none⟩) (show w.heap.size < w.heap.size + 2 by omega)]; simp [go_sem]
theorem BoxM2.b0 (h : BoxM2 x y w wr) : wr.cell? ⟨w.heap.size + 1, 0, none⟩ = some (.int .i64 y.c.op) := by
  rw [Below.cell h (p := ⟨w.heap.size + 1, 0, none⟩) (show w.heap.size + 1 < w.heap.size + 2 by omega)]; simp [go_sem]
theorem BoxM2.a1 (h : BoxM2 x y w wr) : wr.cell? ⟨w.heap.size, 1, none⟩ = some (.string (S x.c.tb)) := by
  rw [Below.cell h (p := ⟨w.heap.size, 1, none⟩) (show w.heap.size < w.heap.size + 2 by omega)]; simp [go_sem]
theorem BoxM2.b1 (h : BoxM2 x y w wr) : wr.cell? ⟨w.heap.size + 1, 1, none⟩ = some (.string (S y.c.tb)) := by
  rw [Below.cell h (p := ⟨w.heap.size + 1, 1, none⟩) (show w.heap.size + 1 < w.heap.size + 2 by omega)]; simp [go_sem]
theorem BoxM2.a2 (h : BoxM2 x y w wr) : wr.cell? ⟨w.heap.size, 2, none⟩ = some (.slice x.ro x.c.row.length x.rc) := by
  rw [Below.cell h (p := ⟨w.heap.size, 2, none⟩) (show w.heap.size < w.heap.size + 2 by omega)]; simp [go_sem]
theorem BoxM2.b2 (h : BoxM2 x y w wr) : wr.cell? ⟨w.heap.size + 1, 2, none⟩ = some (.slice y.ro y.c.row.length y.rc) := by
  rw [Below.cell h (p := ⟨w.heap.size + 1, 2, none⟩) (show w.heap.size + 1 < w.heap.size + 2 by omega)]; simp [go_sem]
theorem BoxM2.a3 (h : BoxM2 x y w wr) : wr.cell? ⟨w.heap.size, 3, none⟩ = some (.int .i64 x.c.a) := by
  rw [Below.cell h (p := ⟨w.heap.size, 3, none⟩) (show w.heap.size < w.heap.size + 2 by omega)]; simp [go_sem]
theorem BoxM2.b3 (h : BoxM2 x y w wr) : wr.cell? ⟨w.heap.size + 1, 3, none⟩ = some (.int .i64 y.c.a) := by
  rw [Below.cell h (p := ⟨w.heap.size + 1, 3, none⟩) (show w.heap.size + 1 < w.heap.size + 2 by omega)]; simp [go_sem]
theorem BoxM2.a4 (h : BoxM2 x y w wr) : wr.cell? ⟨w.heap.size, 4, none⟩ = some (.int .i64 x.c.z) := by
  rw [Below.cell h (p := ⟨w.heap.size, 4, none⟩) (show w.heap.size < w.heap.size + 2 by omega)]; simp [go_sem]
theorem BoxM2.b4 (h : BoxM2 x y w wr) : wr.cell? ⟨w.heap.size + 1, 4, none⟩ = some (.int .i64 y.c.z) := by
  rw [Below.cell h (p := ⟨w.heap.size + 1, 4, none⟩) (show w.heap.size + 1 < w.heap.size + 2 by omega)]; simp [go_sem]
theorem BoxM2.a5 (h : BoxM2 x y w wr) : wr.cell? ⟨w.heap.size, 5, none⟩ = some (.string (S x.c.df.nm)) := by
  rw [Below.cell h (p := ⟨w.heap.size, 5, none⟩) (show w.heap.size < w.heap.size + 2 by omega)]; simp [go_sem]
theorem BoxM2.b5 (h : BoxM2 x y w wr) : wr.cell? ⟨w.heap.size + 1, 5, none⟩ = some (.string (S y.c.df.nm)) := by
  rw [Below.cell h (p := ⟨w.heap.size + 1, 5, none⟩) (show w.heap.size + 1 < w.heap.size + 2 by omega)]; simp [go_sem]
theorem BoxM2.a6 (h : BoxM2 x y w wr) : wr.cell? ⟨w.heap.size, 6, none⟩ = some (.slice x.qo x.c.df.cols.length x.qc) := by
  rw [Below.cell h (p := ⟨w.heap.size, 6, none⟩) (show w.heap.size < w.heap.size + 2 by omega)]; simp [go_sem]
theorem BoxM2.b6 (h : BoxM2 x y w wr) : wr.cell? ⟨w.heap.size + 1, 6, none⟩ = some (.slice y.qo y.c.df.cols.length y.qc) := by
  rw [Below.cell h (p := ⟨w.heap.size + 1, 6, none⟩) (show w.heap.size + 1 < w.heap.size + 2 by omega)]; simp [go_sem]
theorem BoxM2.a7 (h : BoxM2 x y w wr) : wr.cell? ⟨w.heap.size, 7, none⟩ = some (.int .i64 x.c.df.keys) := by
  rw [Below.cell h (p := ⟨w.heap.size, 7, none⟩) (show w.heap.size < w.heap.size + 2 by omega)]; simp [go_sem]
theorem BoxM2.b7 (h : BoxM2 x y w wr) : wr.cell? ⟨w.heap.size + 1, 7, none⟩ = some (.int .i64 y.c.df.keys) := by
  rw [Below.cell h (p := ⟨w.heap.size + 1, 7, none⟩) (show w.heap.size + 1 < w.heap.size + 2 by omega)]; simp [go_sem]
end
theorem txs_at {a b : X} (e : a.tx = b.tx) (i : Nat) (ha : i < a.l.length) (hb : i < b.l.length) : a.l[i].c = b.l[i].c := by
  have h2 : (a.l.map M.c)[i]? = (b.l.map M.c)[i]? := by rw [show a.l.map M.c = b.l.map M.c from congrArg Tx.chs e]
  simpa [ha, hb] using h2
theorem rsame5_is {a b : T} {x : Bool} (hx : sameB a b = x) (sa sb : Value) (ha : a.cols.length ≤ 1000000) (hb : b.cols.length ≤ 1000000) (w : World) (h1 : ColsAt a.cols sa w) (h2 : ColsAt b.cols sb w) :
    Calls Tryz.prog 32 #[.agg #[.string (S a.nm), sa, .int .i64 a.keys], .agg #[.string (S b.nm), sb, .int .i64 b.keys]] w fun e w' => e = .returned (.bool x) ∧ Below w.heap.size w w' := hx ▸ rsame_any a b sa sb ha hb w h1 h2
theorem rrows_is {xs ys : List V} {x : Bool} (hx : decide (xs = ys) = x) (sa sb : Value) (ha : xs.length ≤ 1000000) (hb : ys.length ≤ 1000000) (w : World) (h1 : RowAt xs sa w) (h2 : RowAt ys sb w) :
    Calls Tryz.prog 44 #[sa, sb] w fun e w' => e = .returned (.bool x) ∧ Below w.heap.size w w' := by
  have h := rows_any xs ys sa sb ha hb w h1 h2
  refine h.mono fun e w' hh => ⟨hh.1.trans ?_, hh.2⟩
  rw [← hx]
set_option maxHeartbeats 4000000 in
set_option maxRecDepth 100000 in
theorem rtsame_any (a b : X) (la : ∀ c ∈ a.l, ChLim c.c) (lb : ∀ c ∈ b.l, ChLim c.c) (w : World) (ha : a.In w) (hb : b.In w) :
    Calls Tryz.prog 16 #[.agg #[.int .i64 a.seq, .int .i64 a.tm, .slice a.co a.l.length a.cc], .agg #[.int .i64 b.seq, .int .i64 b.tm, .slice b.co b.l.length b.cc]] w fun e w' => e = .returned (.bool (decide (a.tx = b.tx))) ∧ Below w.heap.size w w' := by
  obtain ⟨F, hF⟩ : ∃ F, F = decide (a.tx = b.tx) := ⟨_, rfl⟩
  have HF := hidm hF
  have HS0 := hidm (BoxX2.start a b w)
  have HA := hidm ha
  have HB := hidm hb
  have LA := hidm la
  have LB := hidm lb
  rw [← hF]
  clear hF ha hb la lb
  by_cases h1 : a.seq = b.seq
  rotate_left
  · have HFF := hidm (show F = false from by rw [HF.out]; exact decide_eq_false (fun e => h1 (congrArg Tx.seq e)))
    have f1 : (a.seq != b.seq) = true := by simpa using h1
    clear h1
    go_enter Tryz.func16, Tryz.ntmps16
    go_wp2_with fail
    go_ret
    exact ⟨Val.ret_bool HFF.out.symm, HS0.out.below⟩
  have H1 := hidm h1
  have f1 : (a.seq != b.seq) = false := by simpa using h1
  clear h1
  by_cases h1 : a.tm = b.tm
  rotate_left
  · have HFF := hidm (show F = false from by rw [HF.out]; exact decide_eq_false (fun e => h1 (congrArg Tx.tm e)))
    have f2 : (a.tm != b.tm) = true := by simpa using h1
    clear h1
    go_enter Tryz.func16, Tryz.ntmps16
    go_wp2_with fail
    go_ret
    exact ⟨Val.ret_bool HFF.out.symm, HS0.out.below⟩
  have H2 := hidm h1
  have f2 : (a.tm != b.tm) = false := by simpa using h1
  clear h1
  by_cases h1 : a.l.length = b.l.length
  rotate_left
  · have HFF := hidm (show F = false from by
      rw [HF.out]; exact decide_eq_false (fun e => h1 (by have := congrArg (fun t : Tx => t.chs.length) e; simpa [X.tx] using this)))
    have f3 : ((a.l.length : Int) != (b.l.length : Int)) = true := by simp; omega
    clear h1
    go_enter Tryz.func16, Tryz.ntmps16
    go_wp2_with fail
    go_ret
    exact ⟨Val.ret_bool HFF.out.symm, HS0.out.below⟩
  have H3 := hidm h1
  have f3 : ((a.l.length : Int) != (b.l.length : Int)) = false := by simp; omega
  clear h1
  obtain ⟨n, hn⟩ : ∃ n, n = a.l.length := ⟨_, rfl⟩
  have HN := hidm hn
  have hnb : n ≤ 9223372036854775807 := by
    obtain ⟨_, _, _, h1, h2⟩ := MsAt.form HA.out
    omega
  clear hn
  go_enter Tryz.func16, Tryz.ntmps16
  go_wp2_with fail
  clear f1 f2 f3
  go_loopw [5] (fun ii wr => ∃ i : Nat, ii = .int .i64 i ∧ i ≤ n ∧ Hid (∀ j, j < i → (a.l.map M.c)[j]? = (b.l.map M.c)[j]?) ∧ Hid (BoxX2 a b w wr)) (fun ii _ => (n - (intOf ii).toNat))
  case atStart => exact ⟨0, rfl, by omega, hidm (fun j hj => absurd hj (Nat.not_lt_zero j)), HS0⟩
  case round =>
    rename World => wa
    obtain ⟨i, rfl, hi, HT, HBx⟩ := hrel
    have a2 := HBx.out.a2
    have b2 := HBx.out.b2
    rcases Nat.lt_or_ge i n with hlt | hge
    · have hia : i < a.l.length := by have := HN.out; omega
      have hib : i < b.l.length := by have := HN.out; have := H3.out; omega
      have f4 : (i : Int) < (a.l.length : Int) := by omega
      have f5 : (i : Int) < (b.l.length : Int) := by omega
      have hra := HA.out.later HBx.out.below
      have hrb := HB.out.later HBx.out.below
      obtain ⟨g1, o1, cp1, he1, hg1, q0, q1, q2, q3, q4, q5, q6, q7⟩ := MsAt.at hra i hia
      obtain ⟨g2, o2, cp2, he2, hg2, r0, r1, r2, r3, r4, r5, r6, r7⟩ := MsAt.at hrb i hib
      have hxin := MsAt.in hra i hia
      have hyin := MsAt.in hrb i hib
      simp only [Value.slice.injEq, true_and] at he1 he2
      obtain ⟨he1a, he1b⟩ := he1
      obtain ⟨he2a, he2b⟩ := he2
      rw [he1a, he1b] at a2
      rw [he2a, he2b] at b2
      have LX := hidm (LA.out _ (List.getElem_mem hia))
      have LY := hidm (LB.out _ (List.getElem_mem hib))
      have HNE := hidm (show a.l[i].c ≠ b.l[i].c → F = false from fun hne => by rw [HF.out]; exact decide_eq_false (fun e => hne (txs_at e i hia hib)))
      have HEQ := hidm (show a.l[i].c = b.l[i].c → ∀ j, j < i + 1 → (a.l.map M.c)[j]? = (b.l.map M.c)[j]? from fun he j hj => by
        rcases Nat.lt_or_ge j i with h | h
        · exact HT.out j h
        · obtain rfl : j = i := by omega
          simp [hia, hib, he])
      obtain ⟨x, hx⟩ : ∃ x, x = a.l[i] := ⟨_, rfl⟩
      obtain ⟨y, hy⟩ : ∃ y, y = b.l[i] := ⟨_, rfl⟩
      rw [← hx] at q0 q1 q2 q3 q4 q5 q6 q7 hxin LX
      rw [← hy] at r0 r1 r2 r3 r4 r5 r6 r7 hyin LY
      rw [← hx, ← hy] at HNE HEQ
      have HXI := hidm hxin
      have HYI := hidm hyin
      have HM := hidm (BoxM2.start x y wa)
      have hax : Below wa.heap.size wa (wa.alloc (.cells #[.int .i64 x.c.op, .string (S x.c.tb), .slice x.ro x.c.row.length x.rc, .int .i64 x.c.a, .int .i64 x.c.z, .string (S x.c.df.nm), .slice x.qo x.c.df.cols.length x.qc, .int .i64 x.c.df.keys] 32)) := (Below.refl _ _).alloc (Nat.le_refl _) _
      have b2' := cell_later hax b2
      have r0' := cell_later hax r0
      have r1' := cell_later hax r1
      have r2' := cell_later hax r2
      have r3' := cell_later hax r3
      have r4' := cell_later hax r4
      have r5' := cell_later hax r5
      have r6' := cell_later hax r6
      have r7' := cell_later hax r7
      clear hx hy hxin hyin hra hrb he1a he1b he2a he2b hax b2 r0 r1 r2 r3 r4 r5 r6 r7
      by_cases h1 : x.c.op = y.c.op
      rotate_left
      · have HD := hidm (show x.c ≠ y.c from fun e => h1 (congrArg Ch.op e))
        have f6 : (x.c.op != y.c.op) = true := by simpa using h1
        clear h1
        go_wp2_with fail
        skip
        go_ret
        exact ⟨Val.ret_bool (HNE.out HD.out).symm, (HBx.out.then HM.out.below).below⟩
      have E1 := hidm h1
      have f6 : (x.c.op != y.c.op) = false := by simpa using h1
      clear h1
      by_cases h1 : x.c.tb = y.c.tb
      rotate_left
      · have HD := hidm (show x.c ≠ y.c from fun e => h1 (congrArg Ch.tb e))
        have f7 : (x.c.tb != y.c.tb) = true := by simpa using h1
        have f8 : (x.c.tb == y.c.tb) = false := by simpa using h1
        clear h1
        go_wp2_with fail
        skip
        go_ret
        exact ⟨Val.ret_bool (HNE.out HD.out).symm, (HBx.out.then HM.out.below).below⟩
      have E2 := hidm h1
      have f7 : (x.c.tb != y.c.tb) = false := by simpa using h1
      have f8 : (x.c.tb == y.c.tb) = true := by simpa using h1
      clear h1
      rcases h1 : eqS x.c.a x.c.z y.c.a y.c.z with _ | _
      · have HD := hidm (show x.c ≠ y.c from fun e => by rw [e] at h1; unfold eqS at h1; simp at h1)
        go_wp2_with fail
        skip
        go_ret
        exact ⟨Val.ret_bool (HNE.out HD.out).symm, (HBx.out.then HM.out.below).below⟩
      have E3 := hidm (show x.c.a = y.c.a ∧ x.c.z = y.c.z from by unfold eqS at h1; simpa using h1)
      obtain ⟨p, hp⟩ : ∃ p, decide (x.c.row = y.c.row) = p := ⟨_, rfl⟩
      have HP := hidm hp
      obtain ⟨q, hq⟩ : ∃ q, sameB x.c.df y.c.df = q := ⟨_, rfl⟩
      have HQ := hidm hq
      clear hp hq
      go_wp2_with fail
      refine (rrows_is HP.out _ _ LX.out.rn LY.out.rn _ (HXI.out.r.later HM.out.below).1 (HYI.out.r.later HM.out.below).1).mono ?_
      rintro e wb ⟨rfl, hb⟩
      have HM1 := hidm (HM.out.then hb)
      clear hb f6 f7 f8 h1 q0 q1 q2 q3 q4 q5 q6 q7 r0' r1' r2' r3' r4' r5' r6' r7' a2 b2'
      have m4 := HM1.out.a5
      have m5 := HM1.out.a6
      have m6 := HM1.out.a7
      have k4 := HM1.out.b5
      have k5 := HM1.out.b6
      have k6 := HM1.out.b7
      cases p
      · have HD := hidm (show x.c ≠ y.c from fun e => of_decide_eq_false HP.out (congrArg Ch.row e))
        go_wp2_with fail
        skip
        go_ret
        exact ⟨Val.ret_bool (HNE.out HD.out).symm, (HBx.out.then HM1.out.below).below⟩
      go_wp2_with fail
      refine (rsame5_is HQ.out _ _ LX.out.n LY.out.n _ (HXI.out.q.later HM1.out.below) (HYI.out.q.later HM1.out.below)).mono ?_
      rintro e wc ⟨rfl, hb⟩
      have HM2 := hidm (HM1.out.then hb)
      clear hb m4 m5 m6 k4 k5 k6
      cases q
      · have HD := hidm (show x.c ≠ y.c from fun e => by have := HQ.out; unfold sameB at this; exact of_decide_eq_false this (congrArg Ch.df e))
        go_wp2_with fail
        skip
        go_ret
        exact ⟨Val.ret_bool (HNE.out HD.out).symm, (HBx.out.then HM2.out.below).below⟩
      have HXY := hidm (show x.c = y.c from by
        have e4 := of_decide_eq_true HP.out
        have e5 : x.c.df = y.c.df := by have := HQ.out; unfold sameB at this; exact of_decide_eq_true this
        have e1 := E1.out
        have e2 := E2.out
        have e3 := E3.out
        cases hx : x.c
        cases hy : y.c
        simp only [hx, hy] at e1 e2 e3 e4 e5
        rw [e1, e2, e3.1, e3.2, e4, e5])
      go_wp2_with fail
      go_roundw
      case rel => exact ⟨i + 1, by go_num, by omega, hidm (HEQ.out HXY.out), hidm (HBx.out.then HM2.out.below)⟩
      case measure => simp [intOf]; omega
    · obtain rfl : i = n := by omega
      have f4 : ¬ (i : Int) < (a.l.length : Int) := by have := HN.out; omega
      have HTR := hidm (show F = true from by
        rw [HF.out]
        refine decide_eq_true ?_
        have hl : a.l.map M.c = b.l.map M.c := by
          refine List.ext_getElem? fun j => ?_
          rcases Nat.lt_or_ge j i with h | h
          · exact HT.out j h
          · rw [List.getElem?_eq_none (by have := HN.out; simp; omega), List.getElem?_eq_none (by have := HN.out; have := H3.out; simp; omega)]
        unfold X.tx
        rw [H1.out, H2.out, hl])
      go_wp2_with fail
      go_ret
      exact ⟨Val.ret_bool HTR.out.symm, HBx.out.below⟩
end Frm
end Go.Proofs.YtopmbhpjdmcabaaGreat
