import Derived.Test.YtkgbemkcnahkoaaGreatDoorZVjto
namespace Go.Proofs.YtkgbemkcnahkoaaGreatDoor
open Go.RowKit
namespace Dsk
set_option maxHeartbeats 4000000 in
set_option maxRecDepth 100000 in
theorem rdirty_any {R : Nat} {d : PD} {T : Nat → Prop} (w : World) (h : RefIs R d T w) :
   Calls Tryz.prog 16 #[.pointer (some ⟨R, 0, none⟩)] w fun e w' => ∃ v, e = .returned v ∧ IntsAt w.heap.size d.dirty v w' ∧ Below w.heap.size w w' := by
 obtain ⟨i0, hi0, hz0, hz1, hz2⟩ := info_parts infoI
 obtain ⟨lf, g, lc, wo, wc, hA, r1, r2, r3, r4⟩ := h
 have HA := hidm hA
 obtain ⟨b1, b2, b3, b4⟩ := hA.bounds
 have hRl : R < w.heap.size := lt_of_block hA.row
 have c1 := hA.c1
 obtain ⟨n, hn⟩ : ∃ n, n = d.cs.length := ⟨_, rfl⟩
 have hn1 : n ≤ 1000000 := by rw [hn]; exact r4.2.2.1
 rw [← hn] at c1 b1
 have HN := hidm hn
 have HRL := hidm hRl
 have HC1 := hidm c1
 clear hA hn r1 r2 r3 r4 b3 b4 hRl c1
 go_enter Tryz.func16, Tryz.ntmps16
 go_wp2_with fail
 go_loopw [3, 4] (fun vv ii wr => ∃ (i : Nat) (vo : Option Addr) (vc : Nat), ii = .int .i64 i ∧ i ≤ n ∧ vv = .slice vo i vc ∧ Hid (wr.ownsRow w.heap.size 3 1 (.slice vo i vc) i (ints (d.dirty.take i))) ∧ Hid (Below w.heap.size w wr)) (fun _ ii _ => (n - (intOf ii).toNat))
 case atStart => exact ⟨0, none, 0, rfl, by omega, rfl, hidm (World.ownsRow_nil _ _ _ _), hidm (Below.refl _ _)⟩
 case round =>
   rename World => wr
   obtain ⟨i, vo, vc, rfl, hi, rfl, HO, HB⟩ := hrel
   have k1 := cell_later HB.out HC1.out
   rcases Nat.lt_or_ge i n with hlt | hge
   · have f1 : (i : Int) < n := by omega
     have hic : i < d.cs.length := by have := HN.out; omega
     obtain ⟨b, hb⟩ := HA.out.some (by omega)
     have hw := HA.out.wAt _ hb
     have p0 := cell_later HB.out (hw.2.2.2.2.2.2 _ _ (flatR_at d.cs i hic).1)
     subst hb
     obtain ⟨x, hx⟩ : ∃ x, x = d.cs[i] := ⟨_, rfl⟩
     rw [← hx] at p0
     rw [show 2 * i = i * 2 by omega] at p0
     have HD := hidm (show ints (d.dirty.take (i + 1)) = ints (d.dirty.take i) ++ [.int .i64 (x.pos : Int)] from by
       rw [List.take_succ_eq_append_getElem (by rw [dirty_len]; exact hic), ints_snoc, hx]
       simp [PD.dirty])
     clear hw hx
     go_wp2_with (at_builtin; refine wpList_append_own _ rfl _ _ 41 rfl w.heap.size 3 i0 (.int .i64 0) 1 8 Tryz.underlying41 hi0 hz0 hz1 hz2 rfl (by decide) _ _ _ rfl (owns_later HO.out ((Below.refl _ _).alloc (Nat.le_refl _) _)) ⟨wr.heap.size, 0, none⟩ 1 1 [.int .i64 (x.pos : Int)] rfl rfl ?CA ?CB ?CC ?CD ?CE ?_)
     case CB => rfl
     case CC => (try unfold maxLen); omega
     case CD => omega
     case CE => have := HB.out.size; (try simp); omega
     intro v' w2 hown hgrow _
     rw [← HD.out] at hown
     obtain ⟨so, sc, hvv⟩ : ∃ so sc, v' = .slice so (i + 1) sc := by
       rcases hown.2 with ⟨hv, h0⟩ | ⟨g', c', cur, hv, _⟩
       · exact absurd h0 (by omega)
       · exact ⟨_, _, hv⟩
     subst hvv
     have HO2 := hidm hown
     have HB2 := hidm ((HB.out.alloc HB.out.size (.cells #[.int .i64 (x.pos : Int)] 3)).grown hgrow (by have := HB.out.size; simp; omega) (fun q hq => (HO.out.lt q hq).1))
     clear hown hgrow p0 k1
     go_wp2_with fail
     go_roundw
     case rel => exact ⟨i + 1, so, sc, by go_num, by omega, rfl, HO2, HB2⟩
     case measure => simp [intOf]; omega
   · obtain rfl : i = n := by omega
     have f1 : ¬ (i : Int) < (i : Int) := by omega
     have HT := hidm (show d.dirty.take i = d.dirty from List.take_of_length_le (by rw [dirty_len, ← HN.out]; exact Nat.le_refl _))
     have HL := hidm (show d.dirty.length = i from by rw [dirty_len, ← HN.out])
     go_wp2_with fail
     go_ret
     refine ⟨_, rfl, ?_, HB.out⟩
     unfold IntsAt
     rw [HL.out, ← HT.out]
     exact HO.out
set_option maxHeartbeats 1000000 in
theorem rflush_burnt {R : Nat} {d : PD} {T : Nat → Prop} (w : World) (h : RefIs R d T w) (hb : d.burnt = true) :
   Calls Tryz.prog 49 #[.pointer (some ⟨R, 0, none⟩)] w fun e w' => e = .returned (.int .i64 6) ∧ Below w.heap.size w w' := by
 obtain ⟨lf, g, lc, wo, wc, hA, r1, r2, r3, r4⟩ := h
 have hfu : d.fu = true ∧ d.lf = 0 := by unfold PD.burnt at hb; simpa using hb
 have c4 := hA.c4
 have c5 := hA.c5
 rw [hfu.1] at c4
 rw [r1 hfu.1, hfu.2] at c5
 have B := hidm (rburnt_yes R w c4 c5)
 clear hA c4 c5 r1 r2 r3 r4 hfu hb
 go_enter Tryz.func49, Tryz.ntmps49
 go_wp2_with fail
 refine B.out.mono ?_
 rintro e w1 ⟨rfl, rfl⟩
 go_wp2_with fail
 go_ret
 exact ⟨rfl, Below.refl _ _⟩
set_option maxHeartbeats 8000000 in
set_option maxRecDepth 100000 in
theorem rflush_on {R : Nat} {d : PD} {T : Nat → Prop} (w : World) (h : RefIs R d T w) (hg : Good d) (hb : d.burnt = false) (hf : d.fl < 1000000) :
   Calls Tryz.prog 49 #[.pointer (some ⟨R, 0, none⟩)] w fun e w' => e = .returned (.int .i64 0) ∧ RefIs R d.flush.burn T w' ∧ Only T w w' := by
 obtain ⟨lf, g, lc, wo, wc, hA, r1, r2, r3, r4⟩ := h
 obtain ⟨o1, o2, o3, o4, o5, o6⟩ := r4
 have hlf := burnt_lf hb
 have B := hidm (rburnt_no R d.fu lf w hA.c4 hA.c5 (hA.z 5) (fun e => by have := hlf e; have := r1 e; omega) (by omega) r3)
 have HR1 := hidm (show d.fu = true → lf - 1 = ((d.lf - 1 : Nat) : Int) from fun e => by have := hlf e; have := r1 e; omega)
 have hA1 := hA.put (wr' := d.wr) (fl' := d.fl) (fu' := d.fu) (lf' := lf - 1) 5 (.int .i64 (lf - 1)) rfl
 have HO1 := hidm (show Only T w (w.setCell ⟨R, 5, none⟩ (.int .i64 (lf - 1))) from (Only.refl _ _).set (.inl hA.tR) _)
 have f4 : wrap64 ((d.fl : Int) + 1) = ((d.fl + 1 : Nat) : Int) := by unfold wrap64; omega
 obtain ⟨n, hn⟩ : ∃ n, n = d.n := ⟨_, rfl⟩
 obtain ⟨m, hm⟩ : ∃ m, m = d.cs.length := ⟨_, rfl⟩
 have hm1 : m ≤ 1000000 := by rw [hm]; exact o3
 rw [← hn, ← hm] at hA1
 obtain ⟨b1, b2, b3, b4⟩ := hA1.bounds
 have HA1 := hidm hA1
 have HNN := hidm hn
 have HM := hidm hm
 have HG := hidm hg
 clear hn hm hA hA1 hg hlf r1 hb
 go_enter Tryz.func49, Tryz.ntmps49
 go_wp2_with fail
 refine B.out.mono ?_
 rintro e w1 ⟨rfl, rfl⟩
 obtain ⟨W1, hW1⟩ : ∃ W1, W1 = w.setCell ⟨R, 5, none⟩ (.int .i64 (lf - 1)) := ⟨_, rfl⟩
 rw [← hW1] at HA1 HO1 ⊢
 clear hW1
 go_wp2_with fail
 go_loopw [3] (fun ii wr => ∃ i : Nat, ii = .int .i64 i ∧ i ≤ m ∧ Hid (RefAt R (rowL n (redoN (undoW d.f d.cs) d.cs (List.replicate d.cs.length true) i)) n d.cs m d.wr d.fl d.fu (lf - 1) g lc wo wc T wr) ∧ Hid (Only T w wr)) (fun ii _ => (m - (intOf ii).toNat))
 case atStart => exact ⟨0, rfl, by omega, HA1, HO1⟩
 case round =>
   rename World => wr
   obtain ⟨q, rfl, hq, HRA, HON0⟩ := hrel
   rcases Nat.lt_or_ge q m with hlt | hge
   · have hqm : q < d.cs.length := by have := HM.out; omega
     obtain ⟨b, hb⟩ := HRA.out.some (by omega)
     have hw := HRA.out.wAt _ hb
     obtain ⟨e0, e1⟩ := flatR_at d.cs q hqm
     have p0 := hw.2.2.2.2.2.2 _ _ e0
     have p1 := hw.2.2.2.2.2.2 _ _ e1
     subst hb
     obtain ⟨x, hx⟩ : ∃ x, x = d.cs[q] := ⟨_, rfl⟩
     have hxp : x.pos < n := by have := HG.out.pos d.cs[q] (List.getElem_mem hqm); rw [hx]; have := HNN.out; omega
     rw [← hx] at p0 p1
     rw [show 2 * q = q * 2 by omega] at p0 p1
     have HST := hidm (show redoN (undoW d.f d.cs) d.cs (List.replicate d.cs.length true) (q + 1) = upd (redoN (undoW d.f d.cs) d.cs (List.replicate d.cs.length true) q) x.pos x.laid from by
       rw [redoN_succ _ _ _ q hqm (by simpa using hqm)]
       simp [hx])
     have hlen : x.pos < (rowL n (redoN (undoW d.f d.cs) d.cs (List.replicate d.cs.length true) q)).length := by rw [rowL_len]; exact hxp
     have hcg : wr.cell? ⟨g, x.pos, none⟩ = some (.string (S (rowL n (redoN (undoW d.f d.cs) d.cs (List.replicate d.cs.length true) q))[x.pos])) := by
       have := HRA.out.part.at x.pos hlen
       rwa [Nat.zero_add] at this
     have hzg : wr.frozen? ⟨g, x.pos, none⟩ = false := by
       obtain ⟨cur, hh, _⟩ := HRA.out.part.row
       exact frozen_of_row wr g x.pos _ _ hh
     obtain ⟨oldv, hov⟩ : ∃ v, v = Value.string (S (rowL n (redoN (undoW d.f d.cs) d.cs (List.replicate d.cs.length true) q))[x.pos]) := ⟨_, rfl⟩
     rw [← hov] at hcg
     have hcgd : wr.drew.cell? ⟨g, x.pos, none⟩ = some oldv := hcg
     have hzgd : wr.drew.frozen? ⟨g, x.pos, none⟩ = false := hzg
     have k0 := HRA.out.c0
     have k1 := HRA.out.c1
     have hgR := HRA.out.gR
     have hgb : b ≠ g := hw.2.1
     have HSK := hidm (show ∀ v, ((wr.drew.setCell ⟨g, x.pos, none⟩ v).cell? ⟨R, 0, none⟩ = some (.slice (some ⟨g, 0, none⟩) n lc) ∧ (wr.drew.setCell ⟨g, x.pos, none⟩ v).cell? ⟨R, 1, none⟩ = some (.slice (some ⟨b, 0, none⟩) m wc) ∧ (wr.drew.setCell ⟨g, x.pos, none⟩ v).cell? ⟨b, q * 2, none⟩ = some (.int .i64 (x.pos : Int)) ∧ (wr.drew.setCell ⟨g, x.pos, none⟩ v).cell? ⟨b, q * 2 + 1, none⟩ = some (.string (S x.laid))) from fun v =>
       ⟨(World.cell?_of_block (w := wr.drew) (a := ⟨R, 0, none⟩) (heap_setCell_other _ _ _ v (fun e => hgR e.symm))).trans k0,
        (World.cell?_of_block (w := wr.drew) (a := ⟨R, 1, none⟩) (heap_setCell_other _ _ _ v (fun e => hgR e.symm))).trans k1,
        (World.cell?_of_block (w := wr.drew) (a := ⟨b, q * 2, none⟩) (heap_setCell_other _ _ _ v hgb)).trans p0,
        (World.cell?_of_block (w := wr.drew) (a := ⟨b, q * 2 + 1, none⟩) (heap_setCell_other _ _ _ v hgb)).trans p1⟩)
     have HS0 := hidm (show wr.drew.cell? ⟨R, 0, none⟩ = some (.slice (some ⟨g, 0, none⟩) n lc) ∧ wr.drew.cell? ⟨R, 1, none⟩ = some (.slice (some ⟨b, 0, none⟩) m wc) ∧ wr.drew.cell? ⟨b, q * 2, none⟩ = some (.int .i64 (x.pos : Int)) ∧ wr.drew.cell? ⟨b, q * 2 + 1, none⟩ = some (.string (S x.laid)) from ⟨k0, k1, p0, p1⟩)
     have HRN := hidm (show RefAt R (rowL n (redoN (undoW d.f d.cs) d.cs (List.replicate d.cs.length true) (q + 1))) n d.cs m d.wr d.fl d.fu (lf - 1) g lc (some ⟨b, 0, none⟩) wc T (wr.drew.setCell ⟨g, x.pos, none⟩ (.string (S x.laid))) from by
       rw [HST.out, ← rowL_set]
       exact (HRA.out.later ((Below.refl _ _).drew)).laid x.pos x.laid)
     have HON := hidm (show Only T w (wr.drew.setCell ⟨g, x.pos, none⟩ (.string (S x.laid))) from ((HON0.out.trans (T' := fun _ => False) (.of ((Below.refl _ _).drew)) (fun _ h => h.elim))).set (p := ⟨g, x.pos, none⟩) (.inl HRA.out.tG) _)
     have g3 : (x.pos : Int) < n := by omega
     have g4 : (q : Int) < m := by omega
     clear e0 e1 hw hx hov k0 k1 hgR hgb p0 p1 hlen
     have k1 : wr.cell? ⟨R, 1, none⟩ = some (.slice (some ⟨b, 0, none⟩) m wc) := HS0.out.2.1
     go_wp2_with fail
     refine wp_region_held_drew (S := fun u => u.cell? ⟨R, 0, none⟩ = some (.slice (some ⟨g, 0, none⟩) n lc) ∧ u.cell? ⟨R, 1, none⟩ = some (.slice (some ⟨b, 0, none⟩) m wc) ∧ u.cell? ⟨b, q * 2, none⟩ = some (.int .i64 (x.pos : Int)) ∧ u.cell? ⟨b, q * 2 + 1, none⟩ = some (.string (S x.laid))) (by kernel_rfl) HS0.out (fun hHeld => ?_)
     refine Man.t1 0 (by assumption) ?_
     (try simp only [Act.put, Mqa, Mqb, Mqc])
     refine Man.t1 1 (by assumption) ?_
     (try simp only [Act.put, Mqa, Mqb, Mqc])
     refine Man.t1 2 (by assumption) ?_
     (try simp only [Act.put, Mqa, Mqb, Mqc])
     refine Man.t1 3 (by assumption) ?_
     (try simp only [Act.put, Mqa, Mqb, Mqc])
     refine Man.t1 4 (by assumption) ?_
     (try simp only [Act.put, Mqa, Mqb, Mqc])
     refine Man.t1 5 (by assumption) ?_
     (try simp only [Act.put, Mqa, Mqb, Mqc])
     refine Man.t1 6 (by assumption) ?_
     (try simp only [Act.put, Mqa, Mqb, Mqc])
     refine Man.t1 7 (by assumption) ?_
     (try simp only [Act.put, Mqa, Mqb, Mqc])
     refine Man.t1 8 (by assumption) ?_
     (try simp only [Act.put, Mqa, Mqb, Mqc])
     refine Man.t1 9 (by assumption) ?_
     (try simp only [Act.put, Mqa, Mqb, Mqc])
     refine Man.t1 10 (by assumption) ?_
     (try simp only [Act.put, Mqa, Mqb, Mqc])
     refine Man.t1 11 (by assumption) ?_
     (try simp only [Act.put, Mqa, Mqb, Mqc])
     refine Man.t1 12 (by assumption) ?_
     (try simp only [Act.put, Mqa, Mqb, Mqc])
     refine Man.t1 13 (by assumption) ?_
     (try simp only [Act.put, Mqa, Mqb, Mqc])
     refine Man.t1 14 (by assumption) ?_
     (try simp only [Act.put, Mqa, Mqb, Mqc])
     refine Man.t1 15 (by assumption) ?_
     (try simp only [Act.put, Mqa, Mqb, Mqc])
     refine Man.t1 16 (by assumption) ?_
     (try simp only [Act.put, Mqa, Mqb, Mqc])
     refine Man.t1 17 (by assumption) ?_
     (try simp only [Act.put, Mqa, Mqb, Mqc])
     refine Man.t1 18 (by assumption) ?_
     (try simp only [Act.put, Mqa, Mqb, Mqc])
     refine Man.t1 19 (by assumption) ?_
     (try simp only [Act.put, Mqa, Mqb, Mqc])
     refine Man.t1 20 (by assumption) ?_
     (try simp only [Act.put, Mqa, Mqb, Mqc])
     refine Man.one (i := 21) rfl (by kernel_rfl) (fun K hK => ?_)
     go_simp
     refine hK.out _ _ (HSK.out _) (fun hNew => ?_)
     clear hK K hHeld hNew
     (try simp only [Act.put, Mqa, Mqb, Mqc])
     refine wpAnyH_done (by kernel_rfl) ?_ _
     go_wp2_with fail
     go_roundw
     case rel => exact ⟨q + 1, by go_num, by omega, HRN, HON⟩
     case measure => simp [intOf] <;> omega
   · obtain rfl : q = m := by omega
     have g4 : ¬ (q : Int) < (q : Int) := by omega
     have k1 := HRA.out.c1
     have z1 := HRA.out.z 1
     have k3 := HRA.out.c3
     have z3 := HRA.out.z 3
     go_wp2_with fail
     go_ret
     have hE := (HRA.out.emptied).put (wr' := d.wr) (fl' := d.fl + 1) (fu' := d.fu) (lf' := lf - 1) 3 (.int .i64 ((d.fl + 1 : Nat) : Int)) rfl
     have hrows : redoN (undoW d.f d.cs) d.cs (List.replicate d.cs.length true) q = d.f := by rw [redoN_all _ _ _ _ (by rw [HM.out]; simp), HG.out.full]
     rw [hrows] at hE
     refine ⟨rfl, ⟨lf - 1, g, lc, none, 0, ?_, ?_, ?_, by omega, ?_⟩, (HON0.out.set (p := ⟨R, 1, none⟩) (.inl HRA.out.tR) _).set (p := ⟨R, 3, none⟩) (.inl HRA.out.tR) _⟩
     · rw [HNN.out] at hE
       exact hE
     · intro e
       have h1 := HR1.out e
       have h2 : d.flush.burn.lf = d.lf - 1 := by
         show (if d.fu then d.lf - 1 else d.lf) = d.lf - 1
         rw [if_pos (show d.fu = true from e)]
       rw [h2]; exact h1
     · show -((d.wr : Int) + ((d.fl + 1 : Nat) : Int)) ≤ lf - 1
       omega
     · refine ⟨o1, fun x hx => (nomatch hx), Nat.zero_le _, o4, by show d.fl + 1 ≤ _; omega, ?_⟩
       show (if d.fu then d.lf - 1 else d.lf) ≤ _
       split <;> omega
set_option maxHeartbeats 8000000 in
set_option maxRecDepth 100000 in
theorem rcrash_on {R : Nat} {d : PD} {T : Nat → Prop} (ks : List Bool) (so : Option Addr) (kn sc : Nat) (w : World) (h : RefIs R d T w) (hg : Good d) (hkn : kn = ks.length) (hk : kn ≤ d.cs.length) (hks : BoolsAt ks so sc w) (hkT : ks ≠ [] → ∀ p, so = some p → ¬ T p.block) :
   Calls Tryz.prog 18 #[.pointer (some ⟨R, 0, none⟩), .slice so kn sc] w fun e w' => e = .returned (.int .i64 0) ∧ RefIs R (d.crash ks) T w' ∧ Only T w w' := by
 obtain ⟨lf, g, lc, wo, wc, hA, r1, r2, r3, r4⟩ := h
 obtain ⟨o1, o2, o3, o4, o5, o6⟩ := r4
 have hsc := hks.1
 have hsm := hks.2.1
 obtain ⟨n, hn⟩ : ∃ n, n = d.n := ⟨_, rfl⟩
 obtain ⟨m, hm⟩ : ∃ m, m = d.cs.length := ⟨_, rfl⟩
 have hm1 : m ≤ 1000000 := by rw [hm]; exact o3
 have f1 : ¬ (m : Int) < (kn : Int) := by omega
 rw [← hn, ← hm] at hA
 obtain ⟨b1, b2, b3, b4⟩ := hA.bounds
 have c1 := hA.c1
 have HA := hidm hA
 have HNN := hidm hn
 have HM := hidm hm
 have HG := hidm hg
 have HKS := hidm hks
 have HKT := hidm hkT
 have HKN := hidm hkn
 rw [← hkn] at hsc
 rw [← hm] at hk
 clear hn hm hA hg r1 hks hkT hkn
 go_enter Tryz.func18, Tryz.ntmps18
 go_wp2_with fail
 clear c1
 go_loopw [5] (fun ii wr => ∃ i : Nat, ii = .int .i64 i ∧ i ≤ kn ∧ Hid (RefAt R (rowL n (redoN (undoW d.f d.cs) d.cs ks i)) n d.cs m d.wr d.fl d.fu lf g lc wo wc T wr) ∧ Hid (Only T w wr)) (fun ii _ => (kn - (intOf ii).toNat))
 case atStart => exact ⟨0, rfl, by omega, HA, hidm (Only.refl _ _)⟩
 case round =>
   rename World => wr
   obtain ⟨q, rfl, hq, HRA, HON0⟩ := hrel
   rcases Nat.lt_or_ge q kn with hlt | hge
   · have hqm : q < d.cs.length := by have := HM.out; omega
     have hqk : q < ks.length := by have := HKN.out; omega
     have g5 : (q : Int) < kn := by omega
     obtain ⟨bb, bo, hso, hbl, hcc⟩ := (HKS.out.keep HON0.out HKT.out).2.2 (fun e => by rw [e] at hqk; simp at hqk)
     have kq := hcc q hqk
     subst hso
     obtain ⟨kv, hkv⟩ : ∃ kv, kv = ks[q] := ⟨_, rfl⟩
     rw [← hkv] at kq
     have hqs : q < sc := by omega
     clear hcc
     cases kv
     · have HRN := hidm (show RefAt R (rowL n (redoN (undoW d.f d.cs) d.cs ks (q + 1))) n d.cs m d.wr d.fl d.fu lf g lc wo wc T wr from by
         have e : redoN (undoW d.f d.cs) d.cs ks (q + 1) = redoN (undoW d.f d.cs) d.cs ks q := by
           rw [redoN_succ _ _ _ q hqm hqk, if_neg (by rw [← hkv]; simp)]
         rw [e]; exact HRA.out)
       clear hkv
       go_wp2_with fail
       go_roundw
       case rel => exact ⟨q + 1, by go_num, by omega, HRN, HON0⟩
       case measure => simp [intOf] <;> omega
     · have hkt : ks[q] = true := hkv.symm
       obtain ⟨b, hb⟩ := HRA.out.some (by omega)
       have hw := HRA.out.wAt _ hb
       obtain ⟨e0, e1⟩ := flatR_at d.cs q hqm
       have p0 := hw.2.2.2.2.2.2 _ _ e0
       have p1 := hw.2.2.2.2.2.2 _ _ e1
       subst hb
       obtain ⟨x, hx⟩ : ∃ x, x = d.cs[q] := ⟨_, rfl⟩
       have hxp : x.pos < n := by have := HG.out.pos d.cs[q] (List.getElem_mem hqm); rw [hx]; have := HNN.out; omega
       rw [← hx] at p0 p1
       rw [show 2 * q = q * 2 by omega] at p0 p1
       have HST := hidm (show redoN (undoW d.f d.cs) d.cs ks (q + 1) = upd (redoN (undoW d.f d.cs) d.cs ks q) x.pos x.laid from by
         rw [redoN_succ _ _ _ q hqm hqk, if_pos hkt, hx])
       have hlen : x.pos < (rowL n (redoN (undoW d.f d.cs) d.cs ks q)).length := by rw [rowL_len]; exact hxp
       have hcg : wr.cell? ⟨g, x.pos, none⟩ = some (.string (S (rowL n (redoN (undoW d.f d.cs) d.cs ks q))[x.pos])) := by
         have := HRA.out.part.at x.pos hlen
         rwa [Nat.zero_add] at this
       have hzg : wr.frozen? ⟨g, x.pos, none⟩ = false := by
         obtain ⟨cur, hh, _⟩ := HRA.out.part.row
         exact frozen_of_row wr g x.pos _ _ hh
       obtain ⟨oldv, hov⟩ : ∃ v, v = Value.string (S (rowL n (redoN (undoW d.f d.cs) d.cs ks q))[x.pos]) := ⟨_, rfl⟩
       rw [← hov] at hcg
       have hcgd : wr.drew.cell? ⟨g, x.pos, none⟩ = some oldv := hcg
       have hzgd : wr.drew.frozen? ⟨g, x.pos, none⟩ = false := hzg
       have k0 := HRA.out.c0
       have k1 := HRA.out.c1
       have hgR := HRA.out.gR
       have hgb : b ≠ g := hw.2.1
       have HSK := hidm (show ∀ v, ((wr.drew.setCell ⟨g, x.pos, none⟩ v).cell? ⟨R, 0, none⟩ = some (.slice (some ⟨g, 0, none⟩) n lc) ∧ (wr.drew.setCell ⟨g, x.pos, none⟩ v).cell? ⟨R, 1, none⟩ = some (.slice (some ⟨b, 0, none⟩) m wc) ∧ (wr.drew.setCell ⟨g, x.pos, none⟩ v).cell? ⟨b, q * 2, none⟩ = some (.int .i64 (x.pos : Int)) ∧ (wr.drew.setCell ⟨g, x.pos, none⟩ v).cell? ⟨b, q * 2 + 1, none⟩ = some (.string (S x.laid))) from fun v =>
         ⟨(World.cell?_of_block (w := wr.drew) (a := ⟨R, 0, none⟩) (heap_setCell_other _ _ _ v (fun e => hgR e.symm))).trans k0,
          (World.cell?_of_block (w := wr.drew) (a := ⟨R, 1, none⟩) (heap_setCell_other _ _ _ v (fun e => hgR e.symm))).trans k1,
          (World.cell?_of_block (w := wr.drew) (a := ⟨b, q * 2, none⟩) (heap_setCell_other _ _ _ v hgb)).trans p0,
          (World.cell?_of_block (w := wr.drew) (a := ⟨b, q * 2 + 1, none⟩) (heap_setCell_other _ _ _ v hgb)).trans p1⟩)
       have HS0 := hidm (show wr.drew.cell? ⟨R, 0, none⟩ = some (.slice (some ⟨g, 0, none⟩) n lc) ∧ wr.drew.cell? ⟨R, 1, none⟩ = some (.slice (some ⟨b, 0, none⟩) m wc) ∧ wr.drew.cell? ⟨b, q * 2, none⟩ = some (.int .i64 (x.pos : Int)) ∧ wr.drew.cell? ⟨b, q * 2 + 1, none⟩ = some (.string (S x.laid)) from ⟨k0, k1, p0, p1⟩)
       have HRN := hidm (show RefAt R (rowL n (redoN (undoW d.f d.cs) d.cs ks (q + 1))) n d.cs m d.wr d.fl d.fu lf g lc (some ⟨b, 0, none⟩) wc T (wr.drew.setCell ⟨g, x.pos, none⟩ (.string (S x.laid))) from by
         rw [HST.out, ← rowL_set]
         exact (HRA.out.later ((Below.refl _ _).drew)).laid x.pos x.laid)
       have HON := hidm (show Only T w (wr.drew.setCell ⟨g, x.pos, none⟩ (.string (S x.laid))) from ((HON0.out.trans (T' := fun _ => False) (.of ((Below.refl _ _).drew)) (fun _ h => h.elim))).set (p := ⟨g, x.pos, none⟩) (.inl HRA.out.tG) _)
       have g3 : (x.pos : Int) < n := by omega
       have g4 : (q : Int) < m := by omega
       clear e0 e1 hw hx hov k0 k1 hgR hgb p0 p1 hlen
       clear hkv hkt
       go_wp2_with fail
       refine wp_region_held_drew (S := fun u => u.cell? ⟨R, 0, none⟩ = some (.slice (some ⟨g, 0, none⟩) n lc) ∧ u.cell? ⟨R, 1, none⟩ = some (.slice (some ⟨b, 0, none⟩) m wc) ∧ u.cell? ⟨b, q * 2, none⟩ = some (.int .i64 (x.pos : Int)) ∧ u.cell? ⟨b, q * 2 + 1, none⟩ = some (.string (S x.laid))) (by kernel_rfl) HS0.out (fun hHeld => ?_)
       refine Man.t1 0 (by assumption) ?_
       (try simp only [Act.put, Mqa, Mqb, Mqc])
       refine Man.t1 1 (by assumption) ?_
       (try simp only [Act.put, Mqa, Mqb, Mqc])
       refine Man.t1 2 (by assumption) ?_
       (try simp only [Act.put, Mqa, Mqb, Mqc])
       refine Man.t1 3 (by assumption) ?_
       (try simp only [Act.put, Mqa, Mqb, Mqc])
       refine Man.t1 4 (by assumption) ?_
       (try simp only [Act.put, Mqa, Mqb, Mqc])
       refine Man.t1 5 (by assumption) ?_
       (try simp only [Act.put, Mqa, Mqb, Mqc])
       refine Man.t1 6 (by assumption) ?_
       (try simp only [Act.put, Mqa, Mqb, Mqc])
       refine Man.t1 7 (by assumption) ?_
       (try simp only [Act.put, Mqa, Mqb, Mqc])
       refine Man.t1 8 (by assumption) ?_
       (try simp only [Act.put, Mqa, Mqb, Mqc])
       refine Man.t1 9 (by assumption) ?_
       (try simp only [Act.put, Mqa, Mqb, Mqc])
       refine Man.t1 10 (by assumption) ?_
       (try simp only [Act.put, Mqa, Mqb, Mqc])
       refine Man.t1 11 (by assumption) ?_
       (try simp only [Act.put, Mqa, Mqb, Mqc])
       refine Man.t1 12 (by assumption) ?_
       (try simp only [Act.put, Mqa, Mqb, Mqc])
       refine Man.t1 13 (by assumption) ?_
       (try simp only [Act.put, Mqa, Mqb, Mqc])
       refine Man.t1 14 (by assumption) ?_
       (try simp only [Act.put, Mqa, Mqb, Mqc])
       refine Man.t1 15 (by assumption) ?_
       (try simp only [Act.put, Mqa, Mqb, Mqc])
       refine Man.t1 16 (by assumption) ?_
       (try simp only [Act.put, Mqa, Mqb, Mqc])
       refine Man.t1 17 (by assumption) ?_
       (try simp only [Act.put, Mqa, Mqb, Mqc])
       refine Man.t1 18 (by assumption) ?_
       (try simp only [Act.put, Mqa, Mqb, Mqc])
       refine Man.t1 19 (by assumption) ?_
       (try simp only [Act.put, Mqa, Mqb, Mqc])
       refine Man.t1 20 (by assumption) ?_
       (try simp only [Act.put, Mqa, Mqb, Mqc])
       refine Man.one (i := 21) rfl (by kernel_rfl) (fun K hK => ?_)
       go_simp
       refine hK.out _ _ (HSK.out _) (fun hNew => ?_)
       clear hK K hHeld hNew
       (try simp only [Act.put, Mqa, Mqb, Mqc])
       refine wpAnyH_done (by kernel_rfl) ?_ _
       go_wp2_with fail
       go_roundw
       case rel => exact ⟨q + 1, by go_num, by omega, HRN, HON⟩
       case measure => simp [intOf] <;> omega
   · obtain rfl : q = kn := by omega
     have g4 : ¬ (q : Int) < (q : Int) := by omega
     have k1 := HRA.out.c1
     have z1 := HRA.out.z 1
     have k4 := HRA.out.c4
     have z4 := HRA.out.z 4
     go_wp2_with fail
     go_ret
     have hE := (HRA.out.emptied).put (wr' := d.wr) (fl' := d.fl) (fu' := false) (lf' := lf) 4 (.bool false) rfl
     have hrows : redoN (undoW d.f d.cs) d.cs ks q = redo (undoW d.f d.cs) d.cs ks := redoN_all _ _ _ _ (by rw [HKN.out, List.length_zip]; omega)
     rw [hrows] at hE
     refine ⟨rfl, ⟨lf, g, lc, none, 0, ?_, (fun e => by cases e), by show -((d.wr : Int) + d.fl) ≤ lf; omega, by omega, ?_⟩, (HON0.out.set (p := ⟨R, 1, none⟩) (.inl HRA.out.tR) _).set (p := ⟨R, 4, none⟩) (.inl HRA.out.tR) _⟩
     · rw [HNN.out] at hE
       exact hE
     · exact ⟨o1, fun x hx => (nomatch hx), Nat.zero_le _, o4, o5, Nat.zero_le _⟩
end Dsk
end Go.Proofs.YtkgbemkcnahkoaaGreatDoor
namespace Go.Proofs.YtkgbemkcnahkoaaGreatDoor
open Go.RowKit
namespace Dsk
set_option maxHeartbeats 1000000 in
theorem rwrite_burnt {R : Nat} {d : PD} {T : Nat → Prop} (k : Nat) (s : ByteArray) (hs : s.size ≤ 128) (w : World) (h : RefIs R d T w) (hk : k < d.n) (hb : d.burnt = true) :
   Calls Tryz.prog 86 #[.pointer (some ⟨R, 0, none⟩), .int .i64 (k : Int), .string s] w fun e w' => e = .returned (.int .i64 6) ∧ Below w.heap.size w w' := by
 obtain ⟨lf, g, lc, wo, wc, hA, r1, r2, r3, r4⟩ := h
 have hfu : d.fu = true ∧ d.lf = 0 := by unfold PD.burnt at hb; simpa using hb
 have c0 := hA.c0
 have c4 := hA.c4
 have c5 := hA.c5
 rw [hfu.1] at c4
 rw [r1 hfu.1, hfu.2] at c5
 have B := hidm (rburnt_yes R w c4 c5)
 have f1 : ¬ (128 : Int) < (s.size : Int) := by omega
 have f2 : ¬ (k : Int) < 0 := by omega
 have f3 : ¬ (d.n : Int) ≤ (k : Int) := by omega
 clear hA c4 c5 r1 r2 r3 r4 hfu hb
 go_enter Tryz.func86, Tryz.ntmps86
 go_wp2_with fail
 refine B.out.mono ?_
 rintro e w1 ⟨rfl, rfl⟩
 go_wp2_with fail
 go_ret
 exact ⟨rfl, Below.refl _ _⟩
theorem infoR : (Tryz.prog.info? 96).map (fun i => (i.zero, i.size, i.bytes)) = some (some (.agg #[.int .i64 0, .string ⟨#[]⟩]), 2, 24) := by kernel_rfl
theorem rwrite_grown {R : Nat} {d : PD} {T : Nat → Prop} {w W1 : World} {lf : Int} {g lc : Nat} {wo : Option Addr} {wc m : Nat} {tx : List UInt8} {k : Nat} (hm : m = d.cs.length)
   (hA1 : RefAt R (rowL d.n (undoW d.f d.cs)) d.n d.cs m d.wr d.fl d.fu (lf - 1) g lc wo wc T W1) (hO1 : Only T w W1) (hsz1 : W1.heap.size = w.heap.size) (hlt : ∀ k, T k → k < w.heap.size) :
   ∀ w2, Below W1.drew.heap.size W1.drew w2 → ∀ w7 g' cap', w7.ownsRow 0 96 2 (.slice (some ⟨g', 0, none⟩) (m + 1) cap') (m + 1) (flatR d.cs ++ [.int .i64 (k : Int), .string (S tx)]) →
     (w2.alloc (.cells #[.int .i64 (k : Int), .string (S tx)] 96)).grownBy w7 (Value.slice wo m wc).ownBlock → ((Value.slice wo m wc).ownBlock = some g' ∨ g' = (w2.alloc (.cells #[.int .i64 (k : Int), .string (S tx)] 96)).heap.size) → g' < w7.heap.size →
     w7.cell? ⟨R, 1, none⟩ = some (.slice wo m wc) ∧ w7.frozen? ⟨R, 1, none⟩ = false ∧
       (RefAt R (rowL d.n (undoW d.f d.cs)) d.n (d.cs ++ [⟨k, tx, d.f k⟩]) (m + 1) d.wr d.fl d.fu (lf - 1) g lc (some ⟨g', 0, none⟩) cap' (Grow T w w7) (w7.setCell ⟨R, 1, none⟩ (.slice (some ⟨g', 0, none⟩) (m + 1) cap')) ∧
         Only T w (w7.setCell ⟨R, 1, none⟩ (.slice (some ⟨g', 0, none⟩) (m + 1) cap')) ∧ w7.heap.size = (w7.setCell ⟨R, 1, none⟩ (.slice (some ⟨g', 0, none⟩) (m + 1) cap')).heap.size) := by
 intro w2 hb2 w7 g' cap' hown hgrow hg hlt7
 have hsd : W1.drew.heap.size = w.heap.size := hsz1
 have hba : Below W1.drew.heap.size W1.drew (w2.alloc (.cells #[.int .i64 (k : Int), .string (S tx)] 96)) := hb2.alloc hb2.size _
 have hAd := hA1.later ((Below.refl _ W1).drew)
 have hAa := hAd.later hba
 have hob : ∀ q, (Value.slice wo m wc).ownBlock = some q → T q ∧ q ≠ R ∧ q ≠ g := fun q hq => by
   cases hwo : wo with
   | none => rw [hwo] at hq; cases hq
   | some p =>
     rw [hwo] at hq; cases hq
     exact ⟨hA1.tW p hwo, (hAa.wAt p hwo).1, (hAa.wAt p hwo).2.1⟩
 have hRl := lt_of_block hAa.row
 have hgl := hAa.part.lt
 have hrow : w7.heap[R]? = some (.cells (rcells g d.n lc wo m wc d.wr d.fl d.fu (lf - 1)) 86 (0, 0)) := by
   rw [hgrow.block R hRl (fun e => (hob R e.symm).2.1 rfl)]
   exact hAa.row
 have hpart : Part (rowL d.n (undoW d.f d.cs)) g 0 lc w7 := hAa.part.keep (hgrow.block g hgl (fun e => (hob g e.symm).2.2 rfl))
 have hne : ∀ q, q ≠ R → (w7.setCell ⟨R, 1, none⟩ (.slice (some ⟨g', 0, none⟩) (m + 1) cap')).heap[q]? = w7.heap[q]? := fun q hq => heap_setCell_other w7 _ q _ hq
 have hg'R : g' ≠ R := fun e => by
   rcases hown.2 with ⟨hv, _⟩ | ⟨g2, c, cur, hv, _, hh, _⟩
   · cases hv
   · simp only [Value.slice.injEq, Option.some.injEq, Addr.mk.injEq] at hv
     obtain ⟨⟨rfl, _⟩, _⟩ := hv
     rw [e, hrow] at hh
     simp at hh
 have hsa : w.heap.size ≤ (w2.alloc (.cells #[.int .i64 (k : Int), .string (S tx)] 96)).heap.size := by have := hba.size; omega
 have hs7 := hgrow.size
 have hT7 : T g' ∨ (w.heap.size ≤ g' ∧ g' < w7.heap.size) := by
   rcases hg with hg | hg
   · exact .inl (hob g' hg).1
   · exact .inr ⟨by omega, hlt7⟩
 refine ⟨row_cell hrow 1, frozen_of_row w7 R 1 _ _ hrow, ⟨by rw [heap_setCell_same w7 R 1 _ _ _ hrow]; rfl, hpart.keep (hne g hA1.gR), ?_, rowL_len _ _, by simp [hm], .inl hA1.tR, .inl hA1.tG, fun p hp => ?_, fun q hq => ?_⟩, ?_, by simp⟩
 · have e : flatR (d.cs ++ [(⟨k, tx, d.f k⟩ : Wt)]) = flatR d.cs ++ [.int .i64 (k : Int), .string (S tx)] := flatR_snoc _ _
   rw [e]
   exact ownsRow_of hown (fun q hq => hne q (by cases hq; exact hg'R))
 · cases hp; exact hT7
 · have : (w7.setCell ⟨R, 1, none⟩ (.slice (some ⟨g', 0, none⟩) (m + 1) cap')).heap.size = w7.heap.size := by simp
   rw [this]
   rcases hq with hq | hq
   · have := hlt q hq; omega
   · exact hq.2
 · have h1 : Only T w (w2.alloc (.cells #[.int .i64 (k : Int), .string (S tx)] 96)) := (hO1.trans (T' := fun _ => False) (.of ((Below.refl _ W1).drew)) (fun _ h => h.elim)).trans (T' := fun _ => False) (.of hba) (fun _ h => h.elim)
   exact (h1.grown hgrow (fun q hq => .inl (hob q hq).1)).set (p := ⟨R, 1, none⟩) (.inl hA1.tR) _
theorem rwrite_fin {R : Nat} {d : PD} {T : Nat → Prop} {w : World} {lf : Int} {g lc m : Nat} {tx : List UInt8} {k : Nat} {s : ByteArray} (hm : m = d.cs.length) (htx : tx = pad s.data.toList) (htR : T R)
   (hR1 : d.fu = true → lf - 1 = ((d.lf - 1 : Nat) : Int)) (r2 : -((d.wr : Int) + d.fl) ≤ lf) (r3 : lf ≤ 9223372036854775807) (ok : d.ok) (hpl : (pad s.data.toList).length = 128) (hc : d.cs.length < 1000000) (hw : d.wr < 1000000) (hfl : (d.f k).length = 128) :
   ∀ (W8 : World) g' cap', (RefAt R (rowL d.n (undoW d.f d.cs)) d.n (d.cs ++ [⟨k, tx, d.f k⟩]) (m + 1) d.wr d.fl d.fu (lf - 1) g lc (some ⟨g', 0, none⟩) cap' (Grow T w W8) W8 ∧ Only T w W8) →
     Ending.returned (.int .i64 0) = .returned (.int .i64 0) ∧ RefIs R (d.write k s.data.toList).burn (Grow T w (W8.setCell ⟨R, 2, none⟩ (.int .i64 ((d.wr + 1 : Nat) : Int)))) (W8.setCell ⟨R, 2, none⟩ (.int .i64 ((d.wr + 1 : Nat) : Int))) ∧ Only T w (W8.setCell ⟨R, 2, none⟩ (.int .i64 ((d.wr + 1 : Nat) : Int))) := by
 obtain ⟨o1, o2, o3, o4, o5, o6⟩ := ok
 intro W8 g' cap' ⟨hA8, hO8⟩
 have hE := hA8.put (wr' := d.wr + 1) (fl' := d.fl) (fu' := d.fu) (lf' := lf - 1) 2 (.int .i64 ((d.wr + 1 : Nat) : Int)) rfl
 have hsz : (W8.setCell ⟨R, 2, none⟩ (.int .i64 ((d.wr + 1 : Nat) : Int))).heap.size = W8.heap.size := by simp
 have hTT : Grow T w W8 = Grow T w (W8.setCell ⟨R, 2, none⟩ (.int .i64 ((d.wr + 1 : Nat) : Int))) := by
   unfold Grow; rw [hsz]
 rw [hTT] at hE
 refine ⟨rfl, ⟨lf - 1, g, lc, some ⟨g', 0, none⟩, cap', ?_, ?_, ?_, by omega, ?_⟩, hO8.set (p := ⟨R, 2, none⟩) (.inl htR) _⟩
 · have e1 : (d.write k s.data.toList).burn.cs = d.cs ++ [(⟨k, tx, d.f k⟩ : Wt)] := by rw [htx]; rfl
   have e2 : undoW (d.write k s.data.toList).burn.f (d.write k s.data.toList).burn.cs = undoW d.f d.cs := by
     show undoW (upd d.f k (pad s.data.toList)) (d.cs ++ [(⟨k, pad s.data.toList, d.f k⟩ : Wt)]) = _
     rw [undoW_write]
   rw [e2, e1, List.length_append, List.length_singleton, ← hm]
   exact hE
 · intro e
   have h2 : (d.write k s.data.toList).burn.lf = d.lf - 1 := by
     show (if d.fu then d.lf - 1 else d.lf) = d.lf - 1
     rw [if_pos (show d.fu = true from e)]
   rw [h2]; exact hR1 e
 · show -(((d.wr + 1 : Nat) : Int) + (d.fl : Int)) ≤ lf - 1
   omega
 · refine ⟨o1, fun y hy => ?_, by show (d.cs ++ [_]).length ≤ _; simp; omega, by show d.wr + 1 ≤ _; omega, o5, ?_⟩
   · rcases List.mem_append.1 hy with hy | hy
     · exact o2 y hy
     · rw [List.mem_singleton.1 hy]
       exact ⟨hpl, hfl⟩
   · show (if d.fu then d.lf - 1 else d.lf) ≤ _
     split <;> omega
end Dsk
end Go.Proofs.YtkgbemkcnahkoaaGreatDoor
namespace Go.Proofs.YtkgbemkcnahkoaaGreatDoor
open Go.RowKit
namespace Dsk
theorem RefIs.keepQ {R : Nat} {d : PD} {Q : Nat → Prop} {w w' : World} (h : RefIs R d Q w) (hk : KeepQ Q w w') (hl : ∀ k, Q k → k < w'.heap.size) : RefIs R d Q w' := by
 obtain ⟨lf, g, lc, wo, wc, h, r⟩ := h
 exact ⟨lf, g, lc, wo, wc, ⟨(hk _ h.tR).trans h.row, h.part.keep (hk _ h.tG), ownsRow_of h.own (fun b hb => hk b (by
   cases hwo : wo with
   | none => rw [hwo] at hb; cases hb
   | some p => rw [hwo] at hb; cases hb; exact h.tW p hwo)), h.ln, h.lm, h.tR, h.tG, h.tW, hl⟩, r⟩
theorem DiskIs.keepQ {D : Nat} {d : PD} {T : Nat → Prop} {w w' : World} (h : DiskIs D d T w) (hk : KeepQ T w w') (hl : ∀ k, T k → k < w'.heap.size) : DiskIs D d T w' := by
 obtain ⟨M, ao, cap, h⟩ := h
 exact ⟨M, ao, cap, (hk _ h.tD).trans h.row, h.map.keep (hk _ h.tM), ownsRow_of h.own (fun b hb => hk b (by
   cases hao : ao with
   | none => rw [hao] at hb; cases hb
   | some p => rw [hao] at hb; cases hb; exact h.tC p hao)), h.tD, h.tM, h.tC, hl, h.ok⟩
section
variable {W : World} {P : Nat → Prop} {D R : Nat} {d dr : PD} {w w' : World}
end
end Dsk
end Go.Proofs.YtkgbemkcnahkoaaGreatDoor
