/- The document's Decode (layer 5). Condition: the bytes are at most 100000. -/
import Derived.Test.YtopmbhpjdmcabaaGreatKf
import Derived.Test.YtopmbhpjdmcabaaGreatKgf
import Derived.Test.YtopmbhpjdmcabaaGreatMh
namespace Go.Proofs.YtopmbhpjdmcabaaGreat
open Go.RowKit
namespace Sch
open Cod
theorem rencode_is {s : T} {l : List UInt8} (hx : encB s = l) (hl : Lim s) (sl : Value) (w : World) (h : ColsAt s.cols sl w) :
    Calls Tryz.prog 36 #[.agg #[.string (S s.nm), sl, .int .i64 s.keys]] w fun e w' => e = .returned (.string (S l)) ∧ Below w.heap.size w w' := hx ▸ rencode_any s hl sl w h
set_option maxHeartbeats 4000000 in
set_option maxRecDepth 100000 in
theorem rdecode_any (l : List UInt8) (hl : l.length ≤ 100000) (w : World) :
    Calls Tryz.prog 77 #[.string (S l)] w fun en w' => DecP 1000 l w en w' := by
  have hsz : (S l).size = l.length := S_size l
  have HZ := hidm (heap_alloc_new w (.cells #[.string ⟨#[]⟩, .slice none 0 0, .int .i64 0] 30))
  have HB := hidm (show Below w.heap.size w (w.alloc (.cells #[.string ⟨#[]⟩, .slice none 0 0, .int .i64 0] 30)) from (Below.refl _ _).alloc (Nat.le_refl _) _)
  have HSZ := hidm hsz
  clear hsz
  go_enter Tryz.func77, Tryz.ntmps77
  go_wp2_with fail
  refine (Rr.new_any (S l) _).mono ?_
  rintro e w1 ⟨r, hrge, rfl, hr, hb⟩
  have hr1 : w.heap.size + 1 ≤ r := by simpa using hrge
  have hzr : w.heap.size ≠ r := by omega
  have HZ1 := hidm (below_keeps hb HZ.out)
  have HB1 := hidm (HB.out.trans (hb.mono (by simp)))
  have HR1 := hidm hr
  clear hrge hr hb HZ HB
  go_wp2_with fail
  refine (rread_any r (S l) (by rw [HSZ.out]; omega) w1 HR1.out).mono ?_
  rintro e w2 ⟨t, sl, rfl, hc, hb, hn, hm, hcn, hq, hfr⟩
  rw [HSZ.out] at hn hcn
  have HC2 := hidm hc
  have HZ2 := hidm (hb.keeps hzr HZ1.out)
  have hbl : Below w.heap.size w w2 := But.then HB1.out hb (by omega) HB1.out.size
  have HB2 := hidm hbl
  have HT := hidm (show t.nm.length ≤ l.length ∧ t.cols.length ≤ 1000 ∧ (∀ c ∈ t.cols, c.nm.length ≤ l.length) ∧ (∀ q, rightB q = true → bodyB q = l → t = q) from ⟨hn, hm, hcn, hq⟩)
  have HLM := hidm (show Lim t from ⟨by omega, fun c hc => by have := hcn c hc; omega, by omega⟩)
  obtain ⟨so, sc, hsl, _, _⟩ := hc.form
  subst hsl
  have HFR := hidm (hfr.mono HB1.out.size)
  have HNZ := hidm (show ∀ ao n cap, Value.slice so t.cols.length sc = .slice (some ao) n cap → t.cols ≠ [] → ao.block ≠ w.heap.size from fun ao n cap he hne => by
    obtain ⟨ao', cap', h1, _, _, h2⟩ := hc
    simp only [Value.slice.injEq, true_and] at h1 he
    obtain ⟨g, off, h3, h4, h5⟩ := h2 hne
    obtain ⟨e1, _⟩ := h1
    obtain ⟨e2, _⟩ := he
    rw [e2] at e1
    rw [← e1] at h3
    cases h3
    intro hg
    simp only at hg
    subst hg
    have hpos : 0 < t.cols.length := List.length_pos_iff.2 hne
    have hh := HZ2.out
    have a0 := h5 0 (by omega)
    have a1 := h5 1 (by omega)
    obtain ⟨x, xs, hx⟩ := List.exists_cons_of_ne_nil hne
    rw [hx] at a0 a1
    have e0 : (cflat (x :: xs))[0]? = some (.string (S x.nm)) := rfl
    have e1 : (cflat (x :: xs))[1]? = some (.int .i64 x.k) := rfl
    rw [e0] at a0
    rw [e1] at a1
    match off, a0, a1 with
    | 0, a0, a1 => simp [World.cell?, hh] at a1
    | 1, a0, a1 => simp [World.cell?, hh] at a0
    | 2, a0, a1 => simp [World.cell?, hh] at a0
    | o + 3, a0, a1 => simp [World.cell?, hh] at a0)
  clear hc hb hn hm hcn hq hfr hbl HZ1 HB1 HR1 hr1 hzr
  have hbA : Below w2.heap.size w2 (w2.alloc (.cells #[.string (S t.nm), .slice so t.cols.length sc, .int .i64 t.keys] 30)) := (Below.refl _ _).alloc (Nat.le_refl _) _
  have HC3 := hidm (HC2.out.later hbA)
  have HZ3 := hidm (below_keeps hbA HZ2.out)
  have HB3 := hidm (HB2.out.trans (hbA.mono HB2.out.size))
  have HK3 := hidm (heap_alloc_new w2 (.cells #[.string (S t.nm), .slice so t.cols.length sc, .int .i64 t.keys] 30))
  clear hbA
  rcases Decidable.em (l = []) with hle | hle
  · have HNO := hidm (show ∀ q, rightB q = true → bodyB q = l → False from fun q h1 h2 => by rw [hle] at h2; exact body_ne q h2)
    have f0 : (l == []) = true := by rw [hle]; rfl
    clear hle
    obtain ⟨z0, z1, z2⟩ := three HZ3.out
    have zf0 := frz HZ3.out 0
    have zf1 := frz HZ3.out 1
    have zf2 := frz HZ3.out 2
    obtain ⟨r0, r1, r2⟩ := three (put2 (u := .int .i64 0) (put1 (u := .slice none 0 0) (put0 (u := .string ⟨#[]⟩) HZ3.out)))
    have R0 := hidm r0
    have R1 := hidm r1
    have R2 := hidm r2
    have HBF := hidm (((HB3.out.setCell (p := ⟨w.heap.size, 0, none⟩) (Nat.le_refl _) (.string ⟨#[]⟩)).setCell (p := ⟨w.heap.size, 1, none⟩) (Nat.le_refl _) (.slice none 0 0)).setCell (p := ⟨w.heap.size, 2, none⟩) (Nat.le_refl _) (.int .i64 0))
    clear r0 r1 r2
    go_wp2_with fail
    refine bodyPost_ret (v := .tuple #[.agg #[.string ⟨#[]⟩, .slice none 0 0, .int .i64 0], .int .i64 7]) (by simp [results, Tryz.results77, go_sem, R0.out, R1.out, R2.out]) rfl ?_
    exact ⟨⟨[], [], 0⟩, .slice none 0 0, 7, rfl, ColsAt.nil _, HBF.out, by simp, by simp, by simp, .inr ⟨rfl, rfl, HNO.out⟩, Fresh.nil _ _⟩
  · have f0 : (l == []) = false := by simpa using hle
    have E := rencode_is (s := t) (l := encB t) rfl HLM.out _ _ HC3.out
    have HNE := hidm hle
    clear hle
    go_wp2_with fail
    refine E.mono ?_
    rintro e w5 ⟨rfl, hb⟩
    have HZ5 := hidm (below_keeps hb HZ3.out)
    have HB5 := hidm (HB3.out.trans (hb.mono HB3.out.size))
    have HC5 := hidm (HC3.out.later hb)
    have HK5 := hidm (below_keeps hb HK3.out)
    clear hb E HK3 HZ3 HZ2 HB3 HC3 HB2 HC2 f0
    by_cases heq : encB t = l
    · have hrt : rightB t = true := by
        rcases hr : rightB t with _ | _
        · unfold encB at heq; rw [hr] at heq; exact absurd heq.symm HNE.out
        · rfl
      have HRT := hidm hrt
      have HEQ := hidm (show bodyB t = l from by rw [← heq]; unfold encB; rw [if_pos hrt])
      have f1 : (encB t == l) = true := by simpa using heq
      have f2 : (encB t != l) = false := by simpa using heq
      clear heq hrt
      obtain ⟨z0, z1, z2⟩ := three HZ5.out
      have zf0 := frz HZ5.out 0
      have zf1 := frz HZ5.out 1
      have zf2 := frz HZ5.out 2
      obtain ⟨x0, x1, x2⟩ := three HK5.out
      obtain ⟨r0, r1, r2⟩ := three (put2 (u := .int .i64 t.keys) (put1 (u := .slice so t.cols.length sc) (put0 (u := .string (S t.nm)) HZ5.out)))
      have R0 := hidm r0
      have R1 := hidm r1
      have R2 := hidm r2
      have HBF := hidm (((HB5.out.setCell (p := ⟨w.heap.size, 0, none⟩) (Nat.le_refl _) (.string (S t.nm))).setCell (p := ⟨w.heap.size, 1, none⟩) (Nat.le_refl _) (.slice so t.cols.length sc)).setCell (p := ⟨w.heap.size, 2, none⟩) (Nat.le_refl _) (.int .i64 t.keys))
      clear r0 r1 r2
      go_wp2_with fail
      refine bodyPost_ret (v := .tuple #[.agg #[.string (S t.nm), .slice so t.cols.length sc, .int .i64 t.keys], .int .i64 0]) (by simp [results, Tryz.results77, go_sem, R0.out, R1.out, R2.out]) rfl ?_
      exact ⟨t, _, 0, rfl, ColsAt.put3 HC5.out HNZ.out, HBF.out, HT.out.1, HT.out.2.1, HT.out.2.2.1, .inl ⟨rfl, HRT.out, HEQ.out, HT.out.2.2.2⟩, HFR.out⟩
    · have HNO := hidm (show ∀ q, rightB q = true → bodyB q = l → False from fun q h1 h2 => by
        have e := HT.out.2.2.2 q h1 h2
        subst e
        exact heq (by unfold encB; rw [if_pos h1, h2]))
      have f1 : (encB t == l) = false := by simpa using heq
      have f2 : (encB t != l) = true := by simpa using heq
      clear heq
      obtain ⟨z0, z1, z2⟩ := three HZ5.out
      have zf0 := frz HZ5.out 0
      have zf1 := frz HZ5.out 1
      have zf2 := frz HZ5.out 2
      obtain ⟨r0, r1, r2⟩ := three (put2 (u := .int .i64 0) (put1 (u := .slice none 0 0) (put0 (u := .string ⟨#[]⟩) HZ5.out)))
      have R0 := hidm r0
      have R1 := hidm r1
      have R2 := hidm r2
      have HBF := hidm (((HB5.out.setCell (p := ⟨w.heap.size, 0, none⟩) (Nat.le_refl _) (.string ⟨#[]⟩)).setCell (p := ⟨w.heap.size, 1, none⟩) (Nat.le_refl _) (.slice none 0 0)).setCell (p := ⟨w.heap.size, 2, none⟩) (Nat.le_refl _) (.int .i64 0))
      clear r0 r1 r2
      go_wp2_with fail
      refine bodyPost_ret (v := .tuple #[.agg #[.string ⟨#[]⟩, .slice none 0 0, .int .i64 0], .int .i64 7]) (by simp [results, Tryz.results77, go_sem, R0.out, R1.out, R2.out]) rfl ?_
      exact ⟨⟨[], [], 0⟩, .slice none 0 0, 7, rfl, ColsAt.nil _, HBF.out, by simp, by simp, by simp, .inr ⟨rfl, rfl, HNO.out⟩, Fresh.nil _ _⟩
end Sch
end Go.Proofs.YtopmbhpjdmcabaaGreat
