import Derived.Test.YtkgbemkcnahkoaaGreatDoorZVfto
namespace Go.Proofs.YtkgbemkcnahkoaaGreatDoor
open Go.RowKit
namespace Dsk
set_option maxHeartbeats 8000000 in
set_option maxRecDepth 100000 in
theorem rwrite_on {R : Nat} {d : PD} {T : Nat → Prop} (k : Nat) (s : ByteArray) (hs : s.size ≤ 128) (w : World) (h : RefIs R d T w) (hk : k < d.n) (hb : d.burnt = false) (hc : d.cs.length < 1000000) (hw : d.wr < 1000000) (hfl : (d.f k).length = 128) :
   Calls Tryz.prog 86 #[.pointer (some ⟨R, 0, none⟩), .int .i64 (k : Int), .string s] w fun e w' => e = .returned (.int .i64 0) ∧ RefIs R (d.write k s.data.toList).burn (Grow T w w') w' ∧ Only T w w' := by
 obtain ⟨i0, hi0, hz0, hz1, hz2⟩ := info_parts infoR
 obtain ⟨lf, g, lc, wo, wc, hA, r1, r2, r3, r4⟩ := h
 obtain ⟨o1, o2, o3, o4, o5, o6⟩ := r4
 have hlf := burnt_lf hb
 have B := hidm (rburnt_no R d.fu lf w hA.c4 hA.c5 (hA.z 5) (fun e => by have := hlf e; have := r1 e; omega) (by omega) r3)
 have hR1 : d.fu = true → lf - 1 = ((d.lf - 1 : Nat) : Int) := fun e => by have := hlf e; have := r1 e; omega
 have hA1 := hA.put (wr' := d.wr) (fl' := d.fl) (fu' := d.fu) (lf' := lf - 1) 5 (.int .i64 (lf - 1)) rfl
 have hO1 : Only T w (w.setCell ⟨R, 5, none⟩ (.int .i64 (lf - 1))) := (Only.refl _ _).set (.inl hA.tR) _
 have f1 : ¬ (128 : Int) < (s.size : Int) := by omega
 have f2 : ¬ (k : Int) < 0 := by omega
 have f3 : ¬ (d.n : Int) ≤ (k : Int) := by omega
 have f4 : wrap64 ((d.wr : Int) + 1) = ((d.wr + 1 : Nat) : Int) := by unfold wrap64; omega
 have c0 := hA.c0
 have hpl : (pad s.data.toList).length = 128 := pad_len (by rw [len_eq]; exact hs)
 have PADC := hidm (fun w => rpad_any s (by omega) w)
 obtain ⟨tx, htx⟩ : ∃ t, t = pad s.data.toList := ⟨_, rfl⟩
 rw [← htx] at PADC
 obtain ⟨m, hm⟩ : ∃ m, m = d.cs.length := ⟨_, rfl⟩
 have hm1 : m < 1000000 := by omega
 rw [← hm] at hA1
 obtain ⟨b1, b2, b3, b4⟩ := hA1.bounds
 obtain ⟨W1, hW1⟩ : ∃ W1, W1 = w.setCell ⟨R, 5, none⟩ (.int .i64 (lf - 1)) := ⟨_, rfl⟩
 have hlt := hA.lt
 rw [← hW1] at hA1 hO1
 have hsz1 : W1.heap.size = w.heap.size := by rw [hW1]; simp
 have hoD := (hA1.later ((Below.refl _ _).drew)).own
 have HOD := hidm hoD
 have c1d : W1.drew.cell? ⟨R, 1, none⟩ = some (.slice wo m wc) := hA1.c1
 have HAP := hidm (rwrite_grown (k := k) (tx := tx) hm hA1 hO1 hsz1 hlt)
 have FIN := hidm (rwrite_fin (w := w) (lf := lf) (g := g) (lc := lc) (k := k) (s := s) hm htx hA.tR hR1 r2 r3 ⟨o1, o2, o3, o4, o5, o6⟩ hpl hc hw hfl)
 clear hA hA1 hm hlf r1 hb hoD hR1 htx hpl hlt hO1
 go_enter Tryz.func86, Tryz.ntmps86
 go_wp2_with fail
 refine B.out.mono ?_
 rintro e w1 ⟨rfl, rfl⟩
 rw [← hW1]
 clear hW1 c0
 go_wp2_with fail
 refine wp_region_held_drew (S := fun _ => True) (by kernel_rfl) trivial (fun hHeld => ?_)
 refine Man.t1 0 (by assumption) ?_
 (try simp only [Act.put, Mqa, Mqb, Mqc])
 refine Man.t1 1 (by assumption) ?_
 (try simp only [Act.put, Mqa, Mqb, Mqc])
 refine Man.t1 2 (by assumption) ?_
 (try simp only [Act.put, Mqa, Mqb, Mqc])
 refine Man.t1 3 (by assumption) ?_
 (try simp only [Act.put, Mqa, Mqb, Mqc])
 refine Man.t1 5 (by assumption) ?_
 (try simp only [Act.put, Mqa, Mqb, Mqc])
 refine Man.t1 6 (by assumption) ?_
 (try simp only [Act.put, Mqa, Mqb, Mqc])
 refine Man.two (i := 4) (j := 7) rfl rfl (by kernel_rfl) (fun K hK => ?_) (fun K hK => ?_)
 · go_simp
   refine hK.out _ _ trivial (fun hNew => ?_)
   clear hK K hHeld
   have hHeld := hNew
   clear hNew
   (try simp only [Act.put, Mqa, Mqb, Mqc])
   refine Man.one (i := 7) rfl (by kernel_rfl) (fun K hK => ?_)
   go_simp
   refine (PADC.out _).mono ?_
   rintro e w2 ⟨rfl, hb2⟩
   have c1p := cell_later hb2 c1d
   have c1a := fun o => cell_later ((Below.refl _ w2).alloc (Nat.le_refl _) o) c1p
   have HB2 := hidm hb2
   clear hb2
   refine hK.out _ _ trivial (fun hNew => ?_)
   clear hK K hHeld
   have hHeld := hNew
   clear hNew
   (try simp only [Act.put, Mqa, Mqb, Mqc])
   refine Man.t1 8 (by assumption) ?_
   (try simp only [Act.put, Mqa, Mqb, Mqc])
   refine Man.one (i := 9) rfl (by kernel_rfl) (fun K hK => ?_)
   go_simp
   refine hK.out _ _ trivial (fun hNew => ?_)
   clear hK K hHeld
   have hHeld := hNew
   clear hNew
   (try simp only [Act.put, Mqa, Mqb, Mqc])
   refine Man.one (i := 10) rfl (by kernel_rfl) (fun K hK => ?_)
   refine step_append_lies _ rfl _ _ 84 rfl 0 96 i0 (.agg #[.int .i64 0, .string ⟨#[]⟩]) 2 24 Tryz.underlying84 hi0 hz0 hz1 hz2 rfl (by decide) _ m (flatR d.cs) rfl (owns_later (owns_later HOD.out HB2.out) ((Below.refl _ _).alloc (Nat.le_refl _) _)) ⟨w2.heap.size, 0, none⟩ 1 1 [.int .i64 (k : Int), .string (S tx)] rfl rfl ?a2x ?a3x (by decide) ?a4x ?a5x ?a6x _ rfl (fun g' cap' w7 hown hgrow hg hlt7 => ?_)
   case a2x => exact World.news_of_block (heap_alloc_last _ _)
   case a3x => intro u hu; simp at hu; rcases hu with rfl | rfl <;> rfl
   case a4x => unfold maxLen; omega
   case a5x => omega
   case a6x => omega
   have hAP := HAP.out w2 HB2.out w7 g' cap' hown hgrow hg hlt7
   have h17 := hAP.1
   have z17 := hAP.2.1
   have HAN := hidm hAP.2.2
   clear hAP hown hgrow hg hlt7
   refine hK.out _ _ trivial (fun hNew => ?_)
   clear hK K hHeld
   have hHeld := hNew
   clear hNew
   (try simp only [Act.put, Mqa, Mqb, Mqc])
   refine Man.t1 11 (by assumption) ?_
   (try simp only [Act.put, Mqa, Mqb, Mqc])
   refine Man.t1 12 (by assumption) ?_
   (try simp only [Act.put, Mqa, Mqb, Mqc])
   refine Man.one (i := 13) rfl (by kernel_rfl) (fun K hK => ?_)
   go_simp
   refine hK.out _ _ trivial (fun hNew => ?_)
   clear hK K hHeld hNew
   (try simp only [Act.put])
   refine wpAnyH_done (by kernel_rfl) ?_ _
   obtain ⟨W8, hW8⟩ : ∃ W8, W8 = w7.setCell ⟨R, 1, none⟩ (.slice (some ⟨g', 0, none⟩) (m + 1) cap') := ⟨_, rfl⟩
   have HAN8 := HAN
   rw [← hW8] at HAN8 ⊢
   clear hW8 h17 z17 c1p c1a HAN
   have k2 := HAN8.out.1.c2
   have z2 := HAN8.out.1.z 2
   go_wp2_with fail
   go_ret
   have hF := (FIN.out W8 g' cap' ⟨by have h1 := HAN8.out.1; have h2 := HAN8.out.2.2; unfold Grow at h1 ⊢; rw [h2] at h1; exact h1, HAN8.out.2.1⟩).2
   have hcast : ((d.wr + 1 : Nat) : Int) = (d.wr : Int) + 1 := by omega
   rw [hcast] at hF
   exact ⟨rfl, hF⟩
 · go_simp
   refine (PADC.out _).mono ?_
   rintro e w2 ⟨rfl, hb2⟩
   have c1p := cell_later hb2 c1d
   have c1a := fun o => cell_later ((Below.refl _ w2).alloc (Nat.le_refl _) o) c1p
   have HB2 := hidm hb2
   clear hb2
   refine hK.out _ _ trivial (fun hNew => ?_)
   clear hK K hHeld
   have hHeld := hNew
   clear hNew
   (try simp only [Act.put, Mqa, Mqb, Mqc])
   refine Man.t1 8 (by assumption) ?_
   (try simp only [Act.put, Mqa, Mqb, Mqc])
   refine Man.two (i := 4) (j := 9) rfl rfl (by kernel_rfl) (fun K hK => ?_) (fun K hK => ?_)
   · go_simp
     refine hK.out _ _ trivial (fun hNew => ?_)
     clear hK K hHeld
     have hHeld := hNew
     clear hNew
     (try simp only [Act.put, Mqa, Mqb, Mqc])
     refine Man.one (i := 9) rfl (by kernel_rfl) (fun K hK => ?_)
     go_simp
     refine hK.out _ _ trivial (fun hNew => ?_)
     clear hK K hHeld
     have hHeld := hNew
     clear hNew
     (try simp only [Act.put, Mqa, Mqb, Mqc])
     refine Man.one (i := 10) rfl (by kernel_rfl) (fun K hK => ?_)
     refine step_append_lies _ rfl _ _ 84 rfl 0 96 i0 (.agg #[.int .i64 0, .string ⟨#[]⟩]) 2 24 Tryz.underlying84 hi0 hz0 hz1 hz2 rfl (by decide) _ m (flatR d.cs) rfl (owns_later (owns_later HOD.out HB2.out) ((Below.refl _ _).alloc (Nat.le_refl _) _)) ⟨w2.heap.size, 0, none⟩ 1 1 [.int .i64 (k : Int), .string (S tx)] rfl rfl ?a2y ?a3y (by decide) ?a4y ?a5y ?a6y _ rfl (fun g' cap' w7 hown hgrow hg hlt7 => ?_)
     case a2y => exact World.news_of_block (heap_alloc_last _ _)
     case a3y => intro u hu; simp at hu; rcases hu with rfl | rfl <;> rfl
     case a4y => unfold maxLen; omega
     case a5y => omega
     case a6y => omega
     have hAP := HAP.out w2 HB2.out w7 g' cap' hown hgrow hg hlt7
     have h17 := hAP.1
     have z17 := hAP.2.1
     have HAN := hidm hAP.2.2
     clear hAP hown hgrow hg hlt7
     refine hK.out _ _ trivial (fun hNew => ?_)
     clear hK K hHeld
     have hHeld := hNew
     clear hNew
     (try simp only [Act.put, Mqa, Mqb, Mqc])
     refine Man.t1 11 (by assumption) ?_
     (try simp only [Act.put, Mqa, Mqb, Mqc])
     refine Man.t1 12 (by assumption) ?_
     (try simp only [Act.put, Mqa, Mqb, Mqc])
     refine Man.one (i := 13) rfl (by kernel_rfl) (fun K hK => ?_)
     go_simp
     refine hK.out _ _ trivial (fun hNew => ?_)
     clear hK K hHeld hNew
     (try simp only [Act.put])
     refine wpAnyH_done (by kernel_rfl) ?_ _
     obtain ⟨W8, hW8⟩ : ∃ W8, W8 = w7.setCell ⟨R, 1, none⟩ (.slice (some ⟨g', 0, none⟩) (m + 1) cap') := ⟨_, rfl⟩
     have HAN8 := HAN
     rw [← hW8] at HAN8 ⊢
     clear hW8 h17 z17 c1p c1a HAN
     have k2 := HAN8.out.1.c2
     have z2 := HAN8.out.1.z 2
     go_wp2_with fail
     go_ret
     have hF := (FIN.out W8 g' cap' ⟨by have h1 := HAN8.out.1; have h2 := HAN8.out.2.2; unfold Grow at h1 ⊢; rw [h2] at h1; exact h1, HAN8.out.2.1⟩).2
     have hcast : ((d.wr + 1 : Nat) : Int) = (d.wr : Int) + 1 := by omega
     rw [hcast] at hF
     exact ⟨rfl, hF⟩
   · go_simp
     refine hK.out _ _ trivial (fun hNew => ?_)
     clear hK K hHeld
     have hHeld := hNew
     clear hNew
     (try simp only [Act.put, Mqa, Mqb, Mqc])
     refine Man.one (i := 4) rfl (by kernel_rfl) (fun K hK => ?_)
     go_simp
     refine hK.out _ _ trivial (fun hNew => ?_)
     clear hK K hHeld
     have hHeld := hNew
     clear hNew
     (try simp only [Act.put, Mqa, Mqb, Mqc])
     refine Man.one (i := 10) rfl (by kernel_rfl) (fun K hK => ?_)
     refine step_append_lies _ rfl _ _ 84 rfl 0 96 i0 (.agg #[.int .i64 0, .string ⟨#[]⟩]) 2 24 Tryz.underlying84 hi0 hz0 hz1 hz2 rfl (by decide) _ m (flatR d.cs) rfl (owns_later (owns_later HOD.out HB2.out) ((Below.refl _ _).alloc (Nat.le_refl _) _)) ⟨w2.heap.size, 0, none⟩ 1 1 [.int .i64 (k : Int), .string (S tx)] rfl rfl ?a2z ?a3z (by decide) ?a4z ?a5z ?a6z _ rfl (fun g' cap' w7 hown hgrow hg hlt7 => ?_)
     case a2z => exact World.news_of_block (heap_alloc_last _ _)
     case a3z => intro u hu; simp at hu; rcases hu with rfl | rfl <;> rfl
     case a4z => unfold maxLen; omega
     case a5z => omega
     case a6z => omega
     have hAP := HAP.out w2 HB2.out w7 g' cap' hown hgrow hg hlt7
     have h17 := hAP.1
     have z17 := hAP.2.1
     have HAN := hidm hAP.2.2
     clear hAP hown hgrow hg hlt7
     refine hK.out _ _ trivial (fun hNew => ?_)
     clear hK K hHeld
     have hHeld := hNew
     clear hNew
     (try simp only [Act.put, Mqa, Mqb, Mqc])
     refine Man.t1 11 (by assumption) ?_
     (try simp only [Act.put, Mqa, Mqb, Mqc])
     refine Man.t1 12 (by assumption) ?_
     (try simp only [Act.put, Mqa, Mqb, Mqc])
     refine Man.one (i := 13) rfl (by kernel_rfl) (fun K hK => ?_)
     go_simp
     refine hK.out _ _ trivial (fun hNew => ?_)
     clear hK K hHeld hNew
     (try simp only [Act.put])
     refine wpAnyH_done (by kernel_rfl) ?_ _
     obtain ⟨W8, hW8⟩ : ∃ W8, W8 = w7.setCell ⟨R, 1, none⟩ (.slice (some ⟨g', 0, none⟩) (m + 1) cap') := ⟨_, rfl⟩
     have HAN8 := HAN
     rw [← hW8] at HAN8 ⊢
     clear hW8 h17 z17 c1p c1a HAN
     have k2 := HAN8.out.1.c2
     have z2 := HAN8.out.1.z 2
     go_wp2_with fail
     go_ret
     have hF := (FIN.out W8 g' cap' ⟨by have h1 := HAN8.out.1; have h2 := HAN8.out.2.2; unfold Grow at h1 ⊢; rw [h2] at h1; exact h1, HAN8.out.2.1⟩).2
     have hcast : ((d.wr + 1 : Nat) : Int) = (d.wr : Int) + 1 := by omega
     rw [hcast] at hF
     exact ⟨rfl, hF⟩
end Dsk
end Go.Proofs.YtkgbemkcnahkoaaGreatDoor
