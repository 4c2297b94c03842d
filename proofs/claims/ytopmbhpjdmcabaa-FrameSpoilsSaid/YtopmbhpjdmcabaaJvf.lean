/- schema.Decode. Condition: the bytes are at most 2^48. -/
import Derived.Test.YtopmbhpjdmcabaaJuf
namespace Go.Proofs.Ytopmbhpjdmcabaa
open Go.RowKit
namespace Sch
open Cod
/-- What Decode comes to: the right schema whose bytes they are, or ErrForm, and there is none. -/
def DecP (M : Nat) (l : List UInt8) (w : World) (en : Ending) (w' : World) : Prop := ∃ (t : T) (sl : Value) (x : Int), en = .returned (.tuple #[.agg #[.string (S t.nm), sl, .int .i64 t.keys], .int .i64 x]) ∧ ColsAt t.cols sl w' ∧ Below w.heap.size w w' ∧ t.nm.length ≤ l.length ∧ t.cols.length ≤ M ∧ (∀ c ∈ t.cols, c.nm.length ≤ l.length) ∧
  ((x = 0 ∧ rightB t = true ∧ bodyB t = l ∧ ∀ q, rightB q = true → bodyB q = l → t = q) ∨ (x = 7 ∧ t = ⟨[], [], 0⟩ ∧ ∀ q, rightB q = true → bodyB q = l → False)) ∧ Fresh w.heap.size t.cols sl
/-- A slice's columns, when another block's three cells are stored to. -/
theorem ColsAt.put3 {cs : List C} {sl : Value} {w : World} {k : Nat} {a b d : Value} (h : ColsAt cs sl w) (hk : ∀ ao n cap, sl = .slice (some ao) n cap → cs ≠ [] → ao.block ≠ k) :
    ColsAt cs sl (((w.setCell ⟨k, 0, none⟩ a).setCell ⟨k, 1, none⟩ b).setCell ⟨k, 2, none⟩ d) := by
  obtain ⟨ao, cap, h1, hc, hm, h2⟩ := h
  refine ⟨ao, cap, h1, hc, hm, fun hne => ?_⟩
  obtain ⟨g, off, h3, h4, h5⟩ := h2 hne
  subst h3
  have hg : g ≠ k := hk _ _ _ h1 hne
  refine ⟨g, off, rfl, by simpa using h4, fun j hj => ?_⟩
  rw [World.cell?_setCell_other _ _ _ _ (fun e => hg (congrArg Addr.block e).symm), World.cell?_setCell_other _ _ _ _ (fun e => hg (congrArg Addr.block e).symm), World.cell?_setCell_other _ _ _ _ (fun e => hg (congrArg Addr.block e).symm)]
  exact h5 j hj
theorem encode_is {s : T} {l : List UInt8} (hx : encB s = l) (hl : Lim s) (sl : Value) (w : World) (h : ColsAt s.cols sl w) :
    Calls Try.prog 26 #[.agg #[.string (S s.nm), sl, .int .i64 s.keys]] w fun e w' => e = .returned (.string (S l)) ∧ Below w.heap.size w w' := hx ▸ encode_any s hl sl w h
set_option maxHeartbeats 4000000 in
set_option maxRecDepth 100000 in
theorem decode_any (l : List UInt8) (hl : l.length ≤ 100000) (w : World) :
    Calls Try.prog 25 #[.string (S l)] w fun en w' => DecP 16 l w en w' := by
  have hsz : (S l).size = l.length := S_size l
  have HZ := hidm (heap_alloc_new w (.cells #[.string ⟨#[]⟩, .slice none 0 0, .int .i64 0] 24))
  have HB := hidm (show Below w.heap.size w (w.alloc (.cells #[.string ⟨#[]⟩, .slice none 0 0, .int .i64 0] 24)) from (Below.refl _ _).alloc (Nat.le_refl _) _)
  have HSZ := hidm hsz
  clear hsz
  go_enter Try.func25, Try.ntmps25
  go_wp2_with fail
  refine (new_any (S l) _ (by rw [HSZ.out]; omega)).mono ?_
  rintro e w1 ⟨r, hrge, rfl, hr, hb⟩
  have hr1 : w.heap.size + 1 ≤ r := by simpa using hrge
  have hzr : w.heap.size ≠ r := by omega
  have HZ1 := hidm (below_keeps hb HZ.out)
  have HB1 := hidm (HB.out.trans (hb.mono (by simp)))
  have HR1 := hidm hr
  clear hrge hr hb HZ HB
  go_wp2_with fail
  refine (read_any r (S l) (by rw [HSZ.out]; omega) w1 HR1.out).mono ?_
  rintro e w2 ⟨t, sl, rfl, hc, hb, hn, hm, hcn, hq, hfr⟩
  rw [HSZ.out] at hn hcn
  have HC2 := hidm hc
  have HZ2 := hidm (hb.keeps hzr HZ1.out)
  have hbl : Below w.heap.size w w2 := But.then HB1.out hb (by omega) HB1.out.size
  have HB2 := hidm hbl
  have HT := hidm (show t.nm.length ≤ l.length ∧ t.cols.length ≤ 16 ∧ (∀ c ∈ t.cols, c.nm.length ≤ l.length) ∧ (∀ q, rightB q = true → bodyB q = l → t = q) from ⟨hn, hm, hcn, hq⟩)
  have HLM := hidm (show Lim t from ⟨by omega, fun c hc => by have := hcn c hc; omega, by omega⟩)
  obtain ⟨so, sc, hsl, _, _⟩ := hc.form
  subst hsl
  have HFR := hidm (hfr.mono HB1.out.size)
  have HNZ := hidm (show ∀ ao n cap, Value.slice so t.cols.length sc = .slice (some ao) n cap → t.cols ≠ [] → ao.block ≠ w.heap.size from fun ao n cap he hne => by
    obtain ⟨ao', cap', h1, _, _, h2⟩ := hc
    simp only [Value.slice.injEq, true_and] at h1 he
    obtain ⟨g, off, h3, h4, h5⟩ := h2 hne
    obtain ⟨e1, _⟩ := h1
    obtain ⟨e2, _⟩ := he
    rw [e2] at e1
    rw [← e1] at h3
    cases h3
    intro hg
    simp only at hg
    subst hg
    have hpos : 0 < t.cols.length := List.length_pos_iff.2 hne
    have hh := HZ2.out
    have a0 := h5 0 (by omega)
    have a1 := h5 1 (by omega)
    obtain ⟨x, xs, hx⟩ := List.exists_cons_of_ne_nil hne
    rw [hx] at a0 a1
    have e0 : (cflat (x :: xs))[0]? = some (.string (S x.nm)) := rfl
    have e1 : (cflat (x :: xs))[1]? = some (.int .i64 x.k) := rfl
    rw [e0] at a0
    rw [e1] at a1
    match off, a0, a1 with
    | 0, a0, a1 => simp [World.cell?, hh] at a1
    | 1, a0, a1 => simp [World.cell?, hh] at a0
    | 2, a0, a1 => simp [World.cell?, hh] at a0
    | o + 3, a0, a1 => simp [World.cell?, hh] at a0)
  clear hc hb hn hm hcn hq hfr hbl HZ1 HB1 HR1 hr1 hzr
  have hbA : Below w2.heap.size w2 (w2.alloc (.cells #[.string (S t.nm), .slice so t.cols.length sc, .int .i64 t.keys] 24)) := (Below.refl _ _).alloc (Nat.le_refl _) _
  have HC3 := hidm (HC2.out.later hbA)
  have HZ3 := hidm (below_keeps hbA HZ2.out)
  have HB3 := hidm (HB2.out.trans (hbA.mono HB2.out.size))
  have HK3 := hidm (heap_alloc_new w2 (.cells #[.string (S t.nm), .slice so t.cols.length sc, .int .i64 t.keys] 24))
  clear hbA
  rcases hrt : rightB t with _ | _
  · have R := right_is hrt HLM.out _ _ HC3.out
    have HNO := hidm (show ∀ q, rightB q = true → bodyB q = l → False from fun q h1 h2 => by
      rw [HT.out.2.2.2 q h1 h2, h1] at hrt; cases hrt)
    clear hrt
    go_wp2_with fail
    refine R.mono ?_
    rintro e w4 ⟨rfl, hb⟩
    have HZ4 := hidm (below_keeps hb HZ3.out)
    have HB4 := hidm (HB3.out.trans (hb.mono HB3.out.size))
    clear hb R HK3 HZ3 HZ2
    obtain ⟨z0, z1, z2⟩ := three HZ4.out
    have zf0 := frz HZ4.out 0
    have zf1 := frz HZ4.out 1
    have zf2 := frz HZ4.out 2
    obtain ⟨r0, r1, r2⟩ := three (put2 (u := .int .i64 0) (put1 (u := .slice none 0 0) (put0 (u := .string ⟨#[]⟩) HZ4.out)))
    have R0 := hidm r0
    have R1 := hidm r1
    have R2 := hidm r2
    have HBF := hidm (((HB4.out.setCell (p := ⟨w.heap.size, 0, none⟩) (Nat.le_refl _) (.string ⟨#[]⟩)).setCell (p := ⟨w.heap.size, 1, none⟩) (Nat.le_refl _) (.slice none 0 0)).setCell (p := ⟨w.heap.size, 2, none⟩) (Nat.le_refl _) (.int .i64 0))
    clear r0 r1 r2
    go_wp2_with fail
    refine bodyPost_ret (v := .tuple #[.agg #[.string ⟨#[]⟩, .slice none 0 0, .int .i64 0], .int .i64 7]) (by simp [results, Try.results25, go_sem, R0.out, R1.out, R2.out]) rfl ?_
    exact ⟨⟨[], [], 0⟩, .slice none 0 0, 7, rfl, ColsAt.nil _, HBF.out, by simp, by simp, by simp, .inr ⟨rfl, rfl, HNO.out⟩, Fresh.nil _ _⟩
  · have R := right_is hrt HLM.out _ _ HC3.out
    have HRT := hidm hrt
    have henc : encB t = bodyB t := by unfold encB; rw [if_pos hrt]
    have HENC := hidm henc
    clear hrt henc
    go_wp2_with fail
    refine R.mono ?_
    rintro e w4 ⟨rfl, hb⟩
    have HZ4 := hidm (below_keeps hb HZ3.out)
    have HB4 := hidm (HB3.out.trans (hb.mono HB3.out.size))
    have HC4 := hidm (HC3.out.later hb)
    have HK4 := hidm (below_keeps hb HK3.out)
    have E := encode_is HENC.out HLM.out _ w4 HC4.out
    obtain ⟨k0, k1, k2⟩ := three HK4.out
    clear hb R HK3 HZ3 HZ2
    go_wp2_with fail
    refine E.mono ?_
    rintro e w5 ⟨rfl, hb⟩
    have HZ5 := hidm (below_keeps hb HZ4.out)
    have HB5 := hidm (HB4.out.trans (hb.mono HB4.out.size))
    have HC5 := hidm (HC4.out.later hb)
    have HK5 := hidm (below_keeps hb HK4.out)
    clear hb E k0 k1 k2 HK4 HZ4 HB4 HC4 HB3 HC3 HB2 HC2
    by_cases heq : bodyB t = l
    · have HEQ := hidm heq
      have f1 : (bodyB t == l) = true := by simpa using heq
      have f2 : (bodyB t != l) = false := by simpa using heq
      clear heq
      obtain ⟨z0, z1, z2⟩ := three HZ5.out
      have zf0 := frz HZ5.out 0
      have zf1 := frz HZ5.out 1
      have zf2 := frz HZ5.out 2
      obtain ⟨x0, x1, x2⟩ := three HK5.out
      obtain ⟨r0, r1, r2⟩ := three (put2 (u := .int .i64 t.keys) (put1 (u := .slice so t.cols.length sc) (put0 (u := .string (S t.nm)) HZ5.out)))
      have R0 := hidm r0
      have R1 := hidm r1
      have R2 := hidm r2
      have HBF := hidm (((HB5.out.setCell (p := ⟨w.heap.size, 0, none⟩) (Nat.le_refl _) (.string (S t.nm))).setCell (p := ⟨w.heap.size, 1, none⟩) (Nat.le_refl _) (.slice so t.cols.length sc)).setCell (p := ⟨w.heap.size, 2, none⟩) (Nat.le_refl _) (.int .i64 t.keys))
      clear r0 r1 r2
      go_wp2_with fail
      refine bodyPost_ret (v := .tuple #[.agg #[.string (S t.nm), .slice so t.cols.length sc, .int .i64 t.keys], .int .i64 0]) (by simp [results, Try.results25, go_sem, R0.out, R1.out, R2.out]) rfl ?_
      exact ⟨t, _, 0, rfl, ColsAt.put3 HC5.out HNZ.out, HBF.out, HT.out.1, HT.out.2.1, HT.out.2.2.1, .inl ⟨rfl, HRT.out, HEQ.out, HT.out.2.2.2⟩, HFR.out⟩
    · have HNO := hidm (show ∀ q, rightB q = true → bodyB q = l → False from fun q h1 h2 => by
        rw [← HT.out.2.2.2 q h1 h2] at h2; exact heq h2)
      have f1 : (bodyB t == l) = false := by simpa using heq
      have f2 : (bodyB t != l) = true := by simpa using heq
      clear heq
      obtain ⟨z0, z1, z2⟩ := three HZ5.out
      have zf0 := frz HZ5.out 0
      have zf1 := frz HZ5.out 1
      have zf2 := frz HZ5.out 2
      obtain ⟨r0, r1, r2⟩ := three (put2 (u := .int .i64 0) (put1 (u := .slice none 0 0) (put0 (u := .string ⟨#[]⟩) HZ5.out)))
      have R0 := hidm r0
      have R1 := hidm r1
      have R2 := hidm r2
      have HBF := hidm (((HB5.out.setCell (p := ⟨w.heap.size, 0, none⟩) (Nat.le_refl _) (.string ⟨#[]⟩)).setCell (p := ⟨w.heap.size, 1, none⟩) (Nat.le_refl _) (.slice none 0 0)).setCell (p := ⟨w.heap.size, 2, none⟩) (Nat.le_refl _) (.int .i64 0))
      clear r0 r1 r2
      go_wp2_with fail
      refine bodyPost_ret (v := .tuple #[.agg #[.string ⟨#[]⟩, .slice none 0 0, .int .i64 0], .int .i64 7]) (by simp [results, Try.results25, go_sem, R0.out, R1.out, R2.out]) rfl ?_
      exact ⟨⟨[], [], 0⟩, .slice none 0 0, 7, rfl, ColsAt.nil _, HBF.out, by simp, by simp, by simp, .inr ⟨rfl, rfl, HNO.out⟩, Fresh.nil _ _⟩
end Sch
end Go.Proofs.Ytopmbhpjdmcabaa
