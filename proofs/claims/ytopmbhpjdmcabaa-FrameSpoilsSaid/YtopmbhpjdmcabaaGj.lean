/- Decode of package frame. Condition: the bytes are at most 100000. -/
import Derived.Test.YtopmbhpjdmcabaaGi
namespace Go.Proofs.Ytopmbhpjdmcabaa
open Go.RowKit
namespace Frm
open Cod Sch
theorem X.In.move {x : X} {w w' : World} {B : Nat} (h : x.In w) (hf : Fresh B x.l (.slice x.co x.l.length x.cc)) (hc : ∀ c ∈ x.l, c.From B) (hs : w.heap.size ≤ w'.heap.size) (hb : ∀ b, B ≤ b → w'.heap[b]? = w.heap[b]?) : x.In w' := by
  obtain ⟨⟨ao, cap, h1, hcc, hm, h2⟩, hi⟩ := h
  refine ⟨⟨ao, cap, h1, hcc, hm, fun hne => ?_⟩, fun c hx => (hi c hx).move hs fun b hbx => hb b (hc c hx b hbx)⟩
  obtain ⟨b, off, h3, h4, h5⟩ := h2 hne
  refine ⟨b, off, h3, by omega, fun j hj => ?_⟩
  simp only [Value.slice.injEq, true_and] at h1
  have hB := hf hne ⟨b, off, none⟩ _ _ (by rw [h1.1, h3])
  rw [cell_same (hb b hB)]; exact h5 j hj
/-- What Decode comes to: the right transaction whose body they are, or ErrForm, and there is none. -/
def DecX (l : List UInt8) (w : World) (en : Ending) (w' : World) : Prop := ∃ (x : X) (e : Int), en = .returned (.tuple #[x.agg, .int .i64 e]) ∧ x.In w' ∧ Below w.heap.size w w' ∧ x.l.length ≤ 100 ∧ (∀ c ∈ x.l, Small l.length c.c) ∧
  ((e = 0 ∧ txB x.tx = true ∧ x.tx.wf ∧ bodyT x.tx = l ∧ ∀ q : Tx, txB q = true → q.wf → bodyT q = l → x.tx = q) ∨ (e = 7 ∧ x = ⟨0, 0, [], none, 0⟩ ∧ ∀ q : Tx, txB q = true → q.wf → bodyT q = l → False))
set_option maxHeartbeats 4000000 in
set_option maxRecDepth 100000 in
theorem tdec_any (l : List UInt8) (hl : l.length ≤ 100000) (w : World) :
    Calls Try.prog 16 #[.string (S l)] w fun en w' => DecX l w en w' := by
  have hsz : (S l).size = l.length := S_size l
  have HZ := hidm (heap_alloc_new w (.cells #[.int .i64 0, .int .i64 0, .slice none 0 0] 38))
  have HB := hidm (show Below w.heap.size w (w.alloc (.cells #[.int .i64 0, .int .i64 0, .slice none 0 0] 38)) from (Below.refl _ _).alloc (Nat.le_refl _) _)
  have HSZ := hidm hsz
  clear hsz
  go_enter Try.func16, Try.ntmps16
  go_wp2_with fail
  refine (new_any (S l) _ (by rw [HSZ.out]; omega)).mono ?_
  rintro e w1 ⟨r, hrge, rfl, hr, hb⟩
  have hr1 : w.heap.size + 1 ≤ r := by simpa using hrge
  have hzr : w.heap.size ≠ r := by omega
  have HZ1 := hidm (below_keeps hb HZ.out)
  have HB1 := hidm (HB.out.trans (hb.mono (by simp)))
  have hsz1 : w.heap.size + 1 ≤ w1.heap.size := by have := hb.size; simpa using this
  have HR1 := hidm hr
  clear hrge hr hb HZ HB
  go_wp2_with fail
  refine (read_txn r (S l) (by rw [HSZ.out]; omega) w1 HR1.out).mono ?_
  rintro e w2 ⟨x, he, hin, hb, hn, hsm, hq, hfr, hfc⟩
  unfold X.agg at he
  subst he
  rw [HSZ.out] at hsm
  have HX2 := hidm hin
  have HFR := hidm hfr
  have HFC := hidm hfc
  have HSM := hidm hsm
  have HN := hidm hn
  have HQ := hidm hq
  have HZ2 := hidm (hb.keeps hzr HZ1.out)
  have hbl : Below w.heap.size w w2 := But.then HB1.out hb (by omega) HB1.out.size
  have HB2 := hidm hbl
  have hbA : Below w2.heap.size w2 (w2.alloc (.cells #[.int .i64 x.seq, .int .i64 x.tm, .slice x.co x.l.length x.cc] 38)) := (Below.refl _ _).alloc (Nat.le_refl _) _
  have HX3 := hidm (HX2.out.later hbA)
  have HZ3 := hidm (below_keeps hbA HZ2.out)
  have HB3 := hidm (HB2.out.trans (hbA.mono HB2.out.size))
  have HK3 := hidm (heap_alloc_new w2 (.cells #[.int .i64 x.seq, .int .i64 x.tm, .slice x.co x.l.length x.cc] 38))
  have HLN := hidm (show x.l.length ≤ 1000000 from by omega)
  have HLM := hidm (show ∀ c ∈ x.l, ChLim c.c from fun c hc => (hsm c hc).lim (by omega))
  have HWF := hidm (show x.tx.wf from fun c hc => by
    obtain ⟨m, hm, rfl⟩ := List.mem_map.1 hc
    exact (hsm m hm).wf (by omega))
  clear hin hb hn hsm hq hfr hfc hbl hbA HZ1 HB1 HR1 hr1 hzr
  rcases hrt : txB x.tx with _ | _
  · have R := txright_is hrt HLN.out HLM.out _ HX3.out
    have HNO := hidm (show ∀ q : Tx, txB q = true → q.wf → bodyT q = l → False from fun q h1 h2 h3 => by
      rw [HQ.out q h1 h2 h3, h1] at hrt; cases hrt)
    clear hrt
    go_wp2_with fail
    refine R.mono ?_
    rintro e w4 ⟨rfl, hb⟩
    have HZ4 := hidm (below_keeps hb HZ3.out)
    have HB4 := hidm (HB3.out.trans (hb.mono HB3.out.size))
    clear hb R HK3 HZ3 HZ2
    obtain ⟨z0, z1, z2⟩ := three HZ4.out
    have zf0 := frz HZ4.out 0
    have zf1 := frz HZ4.out 1
    have zf2 := frz HZ4.out 2
    obtain ⟨r0, r1, r2⟩ := three (put2 (u := .slice none 0 0) (put1 (u := .int .i64 0) (put0 (u := .int .i64 0) HZ4.out)))
    have R0 := hidm r0
    have R1 := hidm r1
    have R2 := hidm r2
    have HBF := hidm (((HB4.out.setCell (p := ⟨w.heap.size, 0, none⟩) (Nat.le_refl _) (.int .i64 0)).setCell (p := ⟨w.heap.size, 1, none⟩) (Nat.le_refl _) (.int .i64 0)).setCell (p := ⟨w.heap.size, 2, none⟩) (Nat.le_refl _) (.slice none 0 0))
    clear r0 r1 r2
    go_wp2_with fail
    refine bodyPost_ret (v := .tuple #[.agg #[.int .i64 0, .int .i64 0, .slice none 0 0], .int .i64 7]) (by simp [results, Try.results16, go_sem, R0.out, R1.out, R2.out]) rfl ?_
    exact ⟨⟨0, 0, [], none, 0⟩, 7, rfl, MsAt.nil _, HBF.out, by simp, (fun c hc => by cases hc), .inr ⟨rfl, rfl, HNO.out⟩⟩
  · have R := txright_is hrt HLN.out HLM.out _ HX3.out
    have HRT := hidm hrt
    clear hrt
    go_wp2_with fail
    refine R.mono ?_
    rintro e w4 ⟨rfl, hb⟩
    have HZ4 := hidm (below_keeps hb HZ3.out)
    have HB4 := hidm (HB3.out.trans (hb.mono HB3.out.size))
    have HX4 := hidm (HX3.out.later hb)
    have HK4 := hidm (below_keeps hb HK3.out)
    have E := body_any HRT.out HWF.out w4 HX4.out
    obtain ⟨k0, k1, k2⟩ := three HK4.out
    clear hb R HK3 HZ3 HZ2
    go_wp2_with fail
    refine E.mono ?_
    rintro e w5 ⟨rfl, hb⟩
    have HZ5 := hidm (below_keeps hb HZ4.out)
    have HB5 := hidm (HB4.out.trans (hb.mono HB4.out.size))
    have HX5 := hidm (HX4.out.later hb)
    have HK5 := hidm (below_keeps hb HK4.out)
    clear hb E k0 k1 k2 HK4 HZ4 HB4 HX4 HB3 HX3 HB2 HX2
    by_cases heq : bodyT x.tx = l
    · have HEQ := hidm heq
      have f1 : (bodyT x.tx == l) = true := by simpa using heq
      have f2 : (bodyT x.tx != l) = false := by simpa using heq
      clear heq
      obtain ⟨z0, z1, z2⟩ := three HZ5.out
      have zf0 := frz HZ5.out 0
      have zf1 := frz HZ5.out 1
      have zf2 := frz HZ5.out 2
      obtain ⟨x0, x1, x2⟩ := three HK5.out
      obtain ⟨r0, r1, r2⟩ := three (put2 (u := .slice x.co x.l.length x.cc) (put1 (u := .int .i64 x.tm) (put0 (u := .int .i64 x.seq) HZ5.out)))
      have R0 := hidm r0
      have R1 := hidm r1
      have R2 := hidm r2
      have HBF := hidm (((HB5.out.setCell (p := ⟨w.heap.size, 0, none⟩) (Nat.le_refl _) (.int .i64 x.seq)).setCell (p := ⟨w.heap.size, 1, none⟩) (Nat.le_refl _) (.int .i64 x.tm)).setCell (p := ⟨w.heap.size, 2, none⟩) (Nat.le_refl _) (.slice x.co x.l.length x.cc))
      have HXF := hidm (HX5.out.move (w' := ((w5.setCell ⟨w.heap.size, 0, none⟩ (.int .i64 x.seq)).setCell ⟨w.heap.size, 1, none⟩ (.int .i64 x.tm)).setCell ⟨w.heap.size, 2, none⟩ (.slice x.co x.l.length x.cc)) HFR.out HFC.out (by simp) (fun b hb => by
        have hne : b ≠ w.heap.size := by omega
        rw [Below.heap_setCell _ _ _ _ (by exact hne), Below.heap_setCell _ _ _ _ (by exact hne), Below.heap_setCell _ _ _ _ (by exact hne)]))
      clear r0 r1 r2
      go_wp2_with fail
      refine bodyPost_ret (v := .tuple #[.agg #[.int .i64 x.seq, .int .i64 x.tm, .slice x.co x.l.length x.cc], .int .i64 0]) (by simp [results, Try.results16, go_sem, R0.out, R1.out, R2.out]) rfl ?_
      exact ⟨x, 0, rfl, HXF.out, HBF.out, HN.out, HSM.out, .inl ⟨rfl, HRT.out, HWF.out, HEQ.out, HQ.out⟩⟩
    · have HNO := hidm (show ∀ q : Tx, txB q = true → q.wf → bodyT q = l → False from fun q h1 h2 h3 => by
        rw [← HQ.out q h1 h2 h3] at h3; exact heq h3)
      have f1 : (bodyT x.tx == l) = false := by simpa using heq
      have f2 : (bodyT x.tx != l) = true := by simpa using heq
      clear heq
      have HZ4 := HZ5
      have HB4 := HB5
      obtain ⟨z0, z1, z2⟩ := three HZ4.out
      have zf0 := frz HZ4.out 0
      have zf1 := frz HZ4.out 1
      have zf2 := frz HZ4.out 2
      obtain ⟨r0, r1, r2⟩ := three (put2 (u := .slice none 0 0) (put1 (u := .int .i64 0) (put0 (u := .int .i64 0) HZ4.out)))
      have R0 := hidm r0
      have R1 := hidm r1
      have R2 := hidm r2
      have HBF := hidm (((HB4.out.setCell (p := ⟨w.heap.size, 0, none⟩) (Nat.le_refl _) (.int .i64 0)).setCell (p := ⟨w.heap.size, 1, none⟩) (Nat.le_refl _) (.int .i64 0)).setCell (p := ⟨w.heap.size, 2, none⟩) (Nat.le_refl _) (.slice none 0 0))
      clear r0 r1 r2
      go_wp2_with fail
      refine bodyPost_ret (v := .tuple #[.agg #[.int .i64 0, .int .i64 0, .slice none 0 0], .int .i64 7]) (by simp [results, Try.results16, go_sem, R0.out, R1.out, R2.out]) rfl ?_
      exact ⟨⟨0, 0, [], none, 0⟩, 7, rfl, MsAt.nil _, HBF.out, by simp, (fun c hc => by cases hc), .inr ⟨rfl, rfl, HNO.out⟩⟩
end Frm
end Go.Proofs.Ytopmbhpjdmcabaa
