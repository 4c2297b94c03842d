/- The document's Dirty, Flush, Crash. Conditions: as each says. -/
import Derived.Test.YtkbadjlehmaneaaRb
namespace Go.Proofs.Ytkbadjlehmaneaa
open Go.RowKit
namespace Dsk
set_option maxHeartbeats 4000000 in
set_option maxRecDepth 100000 in
theorem rdirty_any {R : Nat} {d : PD} {T : Nat → Prop} (w : World) (h : RefIs R d T w) :
    Calls Try.prog 25 #[.pointer (some ⟨R, 0, none⟩)] w fun e w' => ∃ v, e = .returned v ∧ IntsAt w.heap.size d.dirty v w' ∧ Below w.heap.size w w' := by
  obtain ⟨i0, hi0, hz0, hz1, hz2⟩ := info_parts infoI
  obtain ⟨lf, g, lc, wo, wc, hA, r1, r2, r3, r4⟩ := h
  have HA := hidm hA
  obtain ⟨b1, b2, b3, b4⟩ := hA.bounds
  have hRl : R < w.heap.size := lt_of_block hA.row
  have c1 := hA.c1
  obtain ⟨n, hn⟩ : ∃ n, n = d.cs.length := ⟨_, rfl⟩
  have hn1 : n ≤ 1000000 := by rw [hn]; exact r4.2.2.1
  rw [← hn] at c1 b1
  have HN := hidm hn
  have HRL := hidm hRl
  have HC1 := hidm c1
  clear hA hn r1 r2 r3 r4 b3 b4 hRl c1
  go_enter Try.func25, Try.ntmps25
  go_wp2_with fail
  go_loopw [3, 4] (fun vv ii wr => ∃ (i : Nat) (vo : Option Addr) (vc : Nat), ii = .int .i64 i ∧ i ≤ n ∧ vv = .slice vo i vc ∧ Hid (wr.ownsRow w.heap.size 3 1 (.slice vo i vc) i (ints (d.dirty.take i))) ∧ Hid (Below w.heap.size w wr)) (fun _ ii _ => (n - (intOf ii).toNat))
  case atStart => exact ⟨0, none, 0, rfl, by omega, rfl, hidm (World.ownsRow_nil _ _ _ _), hidm (Below.refl _ _)⟩
  case round =>
    rename World => wr
    obtain ⟨i, vo, vc, rfl, hi, rfl, HO, HB⟩ := hrel
    have k1 := cell_later HB.out HC1.out
    rcases Nat.lt_or_ge i n with hlt | hge
    · have f1 : (i : Int) < n := by omega
      have hic : i < d.cs.length := by have := HN.out; omega
      obtain ⟨b, hb⟩ := HA.out.some (by omega)
      have hw := HA.out.wAt _ hb
      have p0 := cell_later HB.out (hw.2.2.2.2.2.2 _ _ (flatR_at d.cs i hic).1)
      subst hb
      obtain ⟨x, hx⟩ : ∃ x, x = d.cs[i] := ⟨_, rfl⟩
      rw [← hx] at p0
      rw [show 2 * i = i * 2 by omega] at p0
      have HD := hidm (show ints (d.dirty.take (i + 1)) = ints (d.dirty.take i) ++ [.int .i64 (x.pos : Int)] from by
        rw [List.take_succ_eq_append_getElem (by rw [dirty_len]; exact hic), ints_snoc, hx]
        simp [PD.dirty])
      clear hw hx
      go_wp2_with (at_builtin; refine wpList_append_own _ rfl _ _ 48 rfl w.heap.size 3 i0 (.int .i64 0) 1 8 Try.underlying48 hi0 hz0 hz1 hz2 rfl (by decide) _ _ _ rfl (owns_later HO.out ((Below.refl _ _).alloc (Nat.le_refl _) _)) ⟨wr.heap.size, 0, none⟩ 1 1 [.int .i64 (x.pos : Int)] rfl rfl ?CA ?CB ?CC ?CD ?CE ?_)
      case CB => rfl
      case CC => (try unfold maxLen); omega
      case CD => omega
      case CE => have := HB.out.size; (try simp); omega
      intro v' w2 hown hgrow _
      rw [← HD.out] at hown
      obtain ⟨so, sc, hvv⟩ : ∃ so sc, v' = .slice so (i + 1) sc := by
        rcases hown.2 with ⟨hv, h0⟩ | ⟨g', c', cur, hv, _⟩
        · exact absurd h0 (by omega)
        · exact ⟨_, _, hv⟩
      subst hvv
      have HO2 := hidm hown
      have HB2 := hidm ((HB.out.alloc HB.out.size (.cells #[.int .i64 (x.pos : Int)] 3)).grown hgrow (by have := HB.out.size; simp; omega) (fun q hq => (HO.out.lt q hq).1))
      clear hown hgrow p0 k1
      go_wp2_with fail
      go_roundw
      case rel => exact ⟨i + 1, so, sc, by go_num, by omega, rfl, HO2, HB2⟩
      case measure => simp [intOf]; omega
    · obtain rfl : i = n := by omega
      have f1 : ¬ (i : Int) < (i : Int) := by omega
      have HT := hidm (show d.dirty.take i = d.dirty from List.take_of_length_le (by rw [dirty_len, ← HN.out]; exact Nat.le_refl _))
      have HL := hidm (show d.dirty.length = i from by rw [dirty_len, ← HN.out])
      go_wp2_with fail
      go_ret
      refine ⟨_, rfl, ?_, HB.out⟩
      unfold IntsAt
      rw [HL.out, ← HT.out]
      exact HO.out
set_option maxHeartbeats 1000000 in
theorem rflush_burnt {R : Nat} {d : PD} {T : Nat → Prop} (w : World) (h : RefIs R d T w) (hb : d.burnt = true) :
    Calls Try.prog 16 #[.pointer (some ⟨R, 0, none⟩)] w fun e w' => e = .returned (.int .i64 6) ∧ Below w.heap.size w w' := by
  obtain ⟨lf, g, lc, wo, wc, hA, r1, r2, r3, r4⟩ := h
  have hfu : d.fu = true ∧ d.lf = 0 := by unfold PD.burnt at hb; simpa using hb
  have c4 := hA.c4
  have c5 := hA.c5
  rw [hfu.1] at c4
  rw [r1 hfu.1, hfu.2] at c5
  have B := hidm (rburnt_yes R w c4 c5)
  clear hA c4 c5 r1 r2 r3 r4 hfu hb
  go_enter Try.func16, Try.ntmps16
  go_wp2_with fail
  refine B.out.mono ?_
  rintro e w1 ⟨rfl, rfl⟩
  go_wp2_with fail
  go_ret
  exact ⟨rfl, Below.refl _ _⟩
set_option maxHeartbeats 8000000 in
set_option maxRecDepth 100000 in
theorem rflush_on {R : Nat} {d : PD} {T : Nat → Prop} (w : World) (h : RefIs R d T w) (hg : Good d) (hb : d.burnt = false) (hf : d.fl < 1000000) :
    Calls Try.prog 16 #[.pointer (some ⟨R, 0, none⟩)] w fun e w' => e = .returned (.int .i64 0) ∧ RefIs R d.flush.burn T w' ∧ Only T w w' := by
  obtain ⟨lf, g, lc, wo, wc, hA, r1, r2, r3, r4⟩ := h
  obtain ⟨o1, o2, o3, o4, o5, o6⟩ := r4
  have hlf := burnt_lf hb
  have B := hidm (rburnt_no R d.fu lf w hA.c4 hA.c5 (hA.z 5) (fun e => by have := hlf e; have := r1 e; omega) (by omega) r3)
  have HR1 := hidm (show d.fu = true → lf - 1 = ((d.lf - 1 : Nat) : Int) from fun e => by have := hlf e; have := r1 e; omega)
  have hA1 := hA.put (wr' := d.wr) (fl' := d.fl) (fu' := d.fu) (lf' := lf - 1) 5 (.int .i64 (lf - 1)) rfl
  have HO1 := hidm (show Only T w (w.setCell ⟨R, 5, none⟩ (.int .i64 (lf - 1))) from (Only.refl _ _).set (.inl hA.tR) _)
  have f4 : wrap64 ((d.fl : Int) + 1) = ((d.fl + 1 : Nat) : Int) := by unfold wrap64; omega
  obtain ⟨n, hn⟩ : ∃ n, n = d.n := ⟨_, rfl⟩
  obtain ⟨m, hm⟩ : ∃ m, m = d.cs.length := ⟨_, rfl⟩
  have hm1 : m ≤ 1000000 := by rw [hm]; exact o3
  rw [← hn, ← hm] at hA1
  obtain ⟨b1, b2, b3, b4⟩ := hA1.bounds
  have HA1 := hidm hA1
  have HNN := hidm hn
  have HM := hidm hm
  have HG := hidm hg
  clear hn hm hA hA1 hg hlf r1 hb
  go_enter Try.func16, Try.ntmps16
  go_wp2_with fail
  refine B.out.mono ?_
  rintro e w1 ⟨rfl, rfl⟩
  obtain ⟨W1, hW1⟩ : ∃ W1, W1 = w.setCell ⟨R, 5, none⟩ (.int .i64 (lf - 1)) := ⟨_, rfl⟩
  rw [← hW1] at HA1 HO1 ⊢
  clear hW1
  go_wp2_with fail
  go_loopw [3] (fun ii wr => ∃ i : Nat, ii = .int .i64 i ∧ i ≤ m ∧ Hid (RefAt R (rowL n (redoN (undoW d.f d.cs) d.cs (List.replicate d.cs.length true) i)) n d.cs m d.wr d.fl d.fu (lf - 1) g lc wo wc T wr) ∧ Hid (Only T w wr)) (fun ii _ => (m - (intOf ii).toNat))
  case atStart => exact ⟨0, rfl, by omega, HA1, HO1⟩
  case round =>
    rename World => wr
    obtain ⟨q, rfl, hq, HRA, HON0⟩ := hrel
    rcases Nat.lt_or_ge q m with hlt | hge
    · have hqm : q < d.cs.length := by have := HM.out; omega
      obtain ⟨b, hb⟩ := HRA.out.some (by omega)
      have hw := HRA.out.wAt _ hb
      obtain ⟨e0, e1⟩ := flatR_at d.cs q hqm
      have p0 := hw.2.2.2.2.2.2 _ _ e0
      have p1 := hw.2.2.2.2.2.2 _ _ e1
      subst hb
      obtain ⟨x, hx⟩ : ∃ x, x = d.cs[q] := ⟨_, rfl⟩
      have hxp : x.pos < n := by have := HG.out.pos d.cs[q] (List.getElem_mem hqm); rw [hx]; have := HNN.out; omega
      rw [← hx] at p0 p1
      rw [show 2 * q = q * 2 by omega] at p0 p1
      have HST := hidm (show redoN (undoW d.f d.cs) d.cs (List.replicate d.cs.length true) (q + 1) = upd (redoN (undoW d.f d.cs) d.cs (List.replicate d.cs.length true) q) x.pos x.laid from by
        rw [redoN_succ _ _ _ q hqm (by simpa using hqm)]
        simp [hx])
      have hlen : x.pos < (rowL n (redoN (undoW d.f d.cs) d.cs (List.replicate d.cs.length true) q)).length := by rw [rowL_len]; exact hxp
      have hcg : wr.cell? ⟨g, x.pos, none⟩ = some (.string (S (rowL n (redoN (undoW d.f d.cs) d.cs (List.replicate d.cs.length true) q))[x.pos])) := by
        have := HRA.out.part.at x.pos hlen
        rwa [Nat.zero_add] at this
      have hzg : wr.frozen? ⟨g, x.pos, none⟩ = false := by
        obtain ⟨cur, hh, _⟩ := HRA.out.part.row
        exact frozen_of_row wr g x.pos _ _ hh
      obtain ⟨oldv, hov⟩ : ∃ v, v = Value.string (S (rowL n (redoN (undoW d.f d.cs) d.cs (List.replicate d.cs.length true) q))[x.pos]) := ⟨_, rfl⟩
      rw [← hov] at hcg
      have hcgd : wr.drew.cell? ⟨g, x.pos, none⟩ = some oldv := hcg
      have hzgd : wr.drew.frozen? ⟨g, x.pos, none⟩ = false := hzg
      have k0 := HRA.out.c0
      have k1 := HRA.out.c1
      have hgR := HRA.out.gR
      have hgb : b ≠ g := hw.2.1
      have HSK := hidm (show ∀ v, ((wr.drew.setCell ⟨g, x.pos, none⟩ v).cell? ⟨R, 0, none⟩ = some (.slice (some ⟨g, 0, none⟩) n lc) ∧ (wr.drew.setCell ⟨g, x.pos, none⟩ v).cell? ⟨R, 1, none⟩ = some (.slice (some ⟨b, 0, none⟩) m wc) ∧ (wr.drew.setCell ⟨g, x.pos, none⟩ v).cell? ⟨b, q * 2, none⟩ = some (.int .i64 (x.pos : Int)) ∧ (wr.drew.setCell ⟨g, x.pos, none⟩ v).cell? ⟨b, q * 2 + 1, none⟩ = some (.string (S x.laid))) from fun v =>
        ⟨(World.cell?_of_block (w := wr.drew) (a := ⟨R, 0, none⟩) (heap_setCell_other _ _ _ v (fun e => hgR e.symm))).trans k0,
         (World.cell?_of_block (w := wr.drew) (a := ⟨R, 1, none⟩) (heap_setCell_other _ _ _ v (fun e => hgR e.symm))).trans k1,
         (World.cell?_of_block (w := wr.drew) (a := ⟨b, q * 2, none⟩) (heap_setCell_other _ _ _ v hgb)).trans p0,
         (World.cell?_of_block (w := wr.drew) (a := ⟨b, q * 2 + 1, none⟩) (heap_setCell_other _ _ _ v hgb)).trans p1⟩)
      have HS0 := hidm (show wr.drew.cell? ⟨R, 0, none⟩ = some (.slice (some ⟨g, 0, none⟩) n lc) ∧ wr.drew.cell? ⟨R, 1, none⟩ = some (.slice (some ⟨b, 0, none⟩) m wc) ∧ wr.drew.cell? ⟨b, q * 2, none⟩ = some (.int .i64 (x.pos : Int)) ∧ wr.drew.cell? ⟨b, q * 2 + 1, none⟩ = some (.string (S x.laid)) from ⟨k0, k1, p0, p1⟩)
      have HRN := hidm (show RefAt R (rowL n (redoN (undoW d.f d.cs) d.cs (List.replicate d.cs.length true) (q + 1))) n d.cs m d.wr d.fl d.fu (lf - 1) g lc (some ⟨b, 0, none⟩) wc T (wr.drew.setCell ⟨g, x.pos, none⟩ (.string (S x.laid))) from by
        rw [HST.out, ← rowL_set]
        exact (HRA.out.later ((Below.refl _ _).drew)).laid x.pos x.laid)
      have HON := hidm (show Only T w (wr.drew.setCell ⟨g, x.pos, none⟩ (.string (S x.laid))) from ((HON0.out.trans (T' := fun _ => False) (.of ((Below.refl _ _).drew)) (fun _ h => h.elim))).set (p := ⟨g, x.pos, none⟩) (.inl HRA.out.tG) _)
      have g3 : (x.pos : Int) < n := by omega
      have g4 : (q : Int) < m := by omega
      clear e0 e1 hw hx hov k0 k1 hgR hgb p0 p1 hlen
      have k1 : wr.cell? ⟨R, 1, none⟩ = some (.slice (some ⟨b, 0, none⟩) m wc) := HS0.out.2.1
      go_wp2_with fail
      refine wp_region_held_drew (S := fun u => u.cell? ⟨R, 0, none⟩ = some (.slice (some ⟨g, 0, none⟩) n lc) ∧ u.cell? ⟨R, 1, none⟩ = some (.slice (some ⟨b, 0, none⟩) m wc) ∧ u.cell? ⟨b, q * 2, none⟩ = some (.int .i64 (x.pos : Int)) ∧ u.cell? ⟨b, q * 2 + 1, none⟩ = some (.string (S x.laid))) (by kernel_rfl) HS0.out (fun hHeld => ?_)
      refine Man.take1 (i := 0) (v := ?_) rfl (by kernel_rfl) (by kernel_rfl) (by kernel_rfl) (fun _ _ _ h => h) (by rfl) ?_ (by assumption) ?_
      rotate_left
      · (intro u hSu; (try dsimp only at hSu); go_simp; (try with_reducible rfl))
      (try simp only [Act.put, List.setIfInBounds_toArray, List.set_cons_zero, List.set_cons_succ])
      refine Man.take1 (i := 1) (v := ?_) rfl (by kernel_rfl) (by kernel_rfl) (by kernel_rfl) (fun _ _ _ h => h) (by rfl) ?_ (by assumption) ?_
      rotate_left
      · (intro u hSu; (try dsimp only at hSu); go_simp; (try with_reducible rfl))
      (try simp only [Act.put, List.setIfInBounds_toArray, List.set_cons_zero, List.set_cons_succ])
      refine Man.take1 (i := 2) (v := ?_) rfl (by kernel_rfl) (by kernel_rfl) (by kernel_rfl) (fun _ _ _ h => h) (by rfl) ?_ (by assumption) ?_
      rotate_left
      · (intro u hSu; (try dsimp only at hSu); go_simp; (try with_reducible rfl))
      (try simp only [Act.put, List.setIfInBounds_toArray, List.set_cons_zero, List.set_cons_succ])
      refine Man.take1 (i := 3) (v := ?_) rfl (by kernel_rfl) (by kernel_rfl) (by kernel_rfl) (fun _ _ _ h => h) (by rfl) ?_ (by assumption) ?_
      rotate_left
      · (intro u hSu; (try dsimp only at hSu); go_simp; (try with_reducible rfl))
      (try simp only [Act.put, List.setIfInBounds_toArray, List.set_cons_zero, List.set_cons_succ])
      refine Man.take1 (i := 4) (v := ?_) rfl (by kernel_rfl) (by kernel_rfl) (by kernel_rfl) (fun _ _ _ h => h) (by rfl) ?_ (by assumption) ?_
      rotate_left
      · (intro u hSu; (try dsimp only at hSu); go_simp; (try with_reducible rfl))
      (try simp only [Act.put, List.setIfInBounds_toArray, List.set_cons_zero, List.set_cons_succ])
      refine Man.take1 (i := 5) (v := ?_) rfl (by kernel_rfl) (by kernel_rfl) (by kernel_rfl) (fun _ _ _ h => h) (by rfl) ?_ (by assumption) ?_
      rotate_left
      · (intro u hSu; (try dsimp only at hSu); go_simp; (try with_reducible rfl))
      (try simp only [Act.put, List.setIfInBounds_toArray, List.set_cons_zero, List.set_cons_succ])
      refine Man.take1 (i := 6) (v := ?_) rfl (by kernel_rfl) (by kernel_rfl) (by kernel_rfl) (fun _ _ _ h => h) (by rfl) ?_ (by assumption) ?_
      rotate_left
      · (intro u hSu; (try dsimp only at hSu); go_simp; (try with_reducible rfl))
      (try simp only [Act.put, List.setIfInBounds_toArray, List.set_cons_zero, List.set_cons_succ])
      refine Man.take1 (i := 7) (v := ?_) rfl (by kernel_rfl) (by kernel_rfl) (by kernel_rfl) (fun _ _ _ h => h) (by rfl) ?_ (by assumption) ?_
      rotate_left
      · (intro u hSu; (try dsimp only at hSu); go_simp; (try with_reducible rfl))
      (try simp only [Act.put, List.setIfInBounds_toArray, List.set_cons_zero, List.set_cons_succ])
      refine Man.take1 (i := 8) (v := ?_) rfl (by kernel_rfl) (by kernel_rfl) (by kernel_rfl) (fun _ _ _ h => h) (by rfl) ?_ (by assumption) ?_
      rotate_left
      · (intro u hSu; (try dsimp only at hSu); go_simp; (try with_reducible rfl))
      (try simp only [Act.put, List.setIfInBounds_toArray, List.set_cons_zero, List.set_cons_succ])
      refine Man.take1 (i := 9) (v := ?_) rfl (by kernel_rfl) (by kernel_rfl) (by kernel_rfl) (fun _ _ _ h => h) (by rfl) ?_ (by assumption) ?_
      rotate_left
      · (intro u hSu; (try dsimp only at hSu); go_simp; (try with_reducible rfl))
      (try simp only [Act.put, List.setIfInBounds_toArray, List.set_cons_zero, List.set_cons_succ])
      refine Man.take1 (i := 10) (v := ?_) rfl (by kernel_rfl) (by kernel_rfl) (by kernel_rfl) (fun _ _ _ h => h) (by rfl) ?_ (by assumption) ?_
      rotate_left
      · (intro u hSu; (try dsimp only at hSu); go_simp; (try with_reducible rfl))
      (try simp only [Act.put, List.setIfInBounds_toArray, List.set_cons_zero, List.set_cons_succ])
      refine Man.take1 (i := 11) (v := ?_) rfl (by kernel_rfl) (by kernel_rfl) (by kernel_rfl) (fun _ _ _ h => h) (by rfl) ?_ (by assumption) ?_
      rotate_left
      · (intro u hSu; (try dsimp only at hSu); go_simp; (try with_reducible rfl))
      (try simp only [Act.put, List.setIfInBounds_toArray, List.set_cons_zero, List.set_cons_succ])
      refine Man.take1 (i := 12) (v := ?_) rfl (by kernel_rfl) (by kernel_rfl) (by kernel_rfl) (fun _ _ _ h => h) (by rfl) ?_ (by assumption) ?_
      rotate_left
      · (intro u hSu; (try dsimp only at hSu); go_simp; (try with_reducible rfl))
      (try simp only [Act.put, List.setIfInBounds_toArray, List.set_cons_zero, List.set_cons_succ])
      refine Man.take1 (i := 13) (v := ?_) rfl (by kernel_rfl) (by kernel_rfl) (by kernel_rfl) (fun _ _ _ h => h) (by rfl) ?_ (by assumption) ?_
      rotate_left
      · (intro u hSu; (try dsimp only at hSu); go_simp; (try with_reducible rfl))
      (try simp only [Act.put, List.setIfInBounds_toArray, List.set_cons_zero, List.set_cons_succ])
      refine Man.take1 (i := 14) (v := ?_) rfl (by kernel_rfl) (by kernel_rfl) (by kernel_rfl) (fun _ _ _ h => h) (by rfl) ?_ (by assumption) ?_
      rotate_left
      · (intro u hSu; (try dsimp only at hSu); go_simp; (try with_reducible rfl))
      (try simp only [Act.put, List.setIfInBounds_toArray, List.set_cons_zero, List.set_cons_succ])
      refine Man.take1 (i := 15) (v := ?_) rfl (by kernel_rfl) (by kernel_rfl) (by kernel_rfl) (fun _ _ _ h => h) (by rfl) ?_ (by assumption) ?_
      rotate_left
      · (intro u hSu; (try dsimp only at hSu); go_simp; (try with_reducible rfl))
      (try simp only [Act.put, List.setIfInBounds_toArray, List.set_cons_zero, List.set_cons_succ])
      refine Man.take1 (i := 16) (v := ?_) rfl (by kernel_rfl) (by kernel_rfl) (by kernel_rfl) (fun _ _ _ h => h) (by rfl) ?_ (by assumption) ?_
      rotate_left
      · (intro u hSu; (try dsimp only at hSu); go_simp; (try with_reducible rfl))
      (try simp only [Act.put, List.setIfInBounds_toArray, List.set_cons_zero, List.set_cons_succ])
      refine Man.take1 (i := 17) (v := ?_) rfl (by kernel_rfl) (by kernel_rfl) (by kernel_rfl) (fun _ _ _ h => h) (by rfl) ?_ (by assumption) ?_
      rotate_left
      · (intro u hSu; (try dsimp only at hSu); go_simp; (try with_reducible rfl))
      (try simp only [Act.put, List.setIfInBounds_toArray, List.set_cons_zero, List.set_cons_succ])
      refine Man.take1 (i := 18) (v := ?_) rfl (by kernel_rfl) (by kernel_rfl) (by kernel_rfl) (fun _ _ _ h => h) (by rfl) ?_ (by assumption) ?_
      rotate_left
      · (intro u hSu; (try dsimp only at hSu); go_simp; (try with_reducible rfl))
      (try simp only [Act.put, List.setIfInBounds_toArray, List.set_cons_zero, List.set_cons_succ])
      refine Man.take1 (i := 19) (v := ?_) rfl (by kernel_rfl) (by kernel_rfl) (by kernel_rfl) (fun _ _ _ h => h) (by rfl) ?_ (by assumption) ?_
      rotate_left
      · (intro u hSu; (try dsimp only at hSu); go_simp; (try with_reducible rfl))
      (try simp only [Act.put, List.setIfInBounds_toArray, List.set_cons_zero, List.set_cons_succ])
      refine Man.take1 (i := 20) (v := ?_) rfl (by kernel_rfl) (by kernel_rfl) (by kernel_rfl) (fun _ _ _ h => h) (by rfl) ?_ (by assumption) ?_
      rotate_left
      · (intro u hSu; (try dsimp only at hSu); go_simp; (try with_reducible rfl))
      (try simp only [Act.put, List.setIfInBounds_toArray, List.set_cons_zero, List.set_cons_succ])
      refine Man.one (i := 21) rfl (by kernel_rfl) (fun K hK => ?_)
      go_simp
      refine hK.out _ _ (HSK.out _) (fun hNew => ?_)
      clear hK K hHeld hNew
      (try simp only [Act.put, List.setIfInBounds_toArray, List.set_cons_zero, List.set_cons_succ])
      refine wpAnyH_done (by kernel_rfl) ?_ _
      go_wp2_with fail
      go_roundw
      case rel => exact ⟨q + 1, by go_num, by omega, HRN, HON⟩
      case measure => simp [intOf] <;> omega
    · obtain rfl : q = m := by omega
      have g4 : ¬ (q : Int) < (q : Int) := by omega
      have k1 := HRA.out.c1
      have z1 := HRA.out.z 1
      have k3 := HRA.out.c3
      have z3 := HRA.out.z 3
      go_wp2_with fail
      go_ret
      have hE := (HRA.out.emptied).put (wr' := d.wr) (fl' := d.fl + 1) (fu' := d.fu) (lf' := lf - 1) 3 (.int .i64 ((d.fl + 1 : Nat) : Int)) rfl
      have hrows : redoN (undoW d.f d.cs) d.cs (List.replicate d.cs.length true) q = d.f := by rw [redoN_all _ _ _ _ (by rw [HM.out]; simp), HG.out.full]
      rw [hrows] at hE
      refine ⟨rfl, ⟨lf - 1, g, lc, none, 0, ?_, ?_, ?_, by omega, ?_⟩, (HON0.out.set (p := ⟨R, 1, none⟩) (.inl HRA.out.tR) _).set (p := ⟨R, 3, none⟩) (.inl HRA.out.tR) _⟩
      · rw [HNN.out] at hE
        exact hE
      · intro e
        have h1 := HR1.out e
        have h2 : d.flush.burn.lf = d.lf - 1 := by
          show (if d.fu then d.lf - 1 else d.lf) = d.lf - 1
          rw [if_pos (show d.fu = true from e)]
        rw [h2]; exact h1
      · show -((d.wr : Int) + ((d.fl + 1 : Nat) : Int)) ≤ lf - 1
        omega
      · refine ⟨o1, fun x hx => (nomatch hx), Nat.zero_le _, o4, by show d.fl + 1 ≤ _; omega, ?_⟩
        show (if d.fu then d.lf - 1 else d.lf) ≤ _
        split <;> omega
set_option maxHeartbeats 1000000 in
theorem rcrash_many {R : Nat} {d : PD} {T : Nat → Prop} (so : Option Addr) (sl sc : Nat) (w : World) (h : RefIs R d T w) (hk : d.cs.length < sl) :
    Calls Try.prog 18 #[.pointer (some ⟨R, 0, none⟩), .slice so sl sc] w fun e w' => e = .returned (.int .i64 1) ∧ Below w.heap.size w w' := by
  obtain ⟨lf, g, lc, wo, wc, hA, r1, r2, r3, r4⟩ := h
  have c1 := hA.c1
  have f1 : (d.cs.length : Int) < (sl : Int) := by omega
  clear hA
  go_enter Try.func18, Try.ntmps18
  go_wp2_with fail
  go_ret
  exact ⟨rfl, Below.refl _ _⟩
set_option maxHeartbeats 8000000 in
set_option maxRecDepth 100000 in
theorem rcrash_on {R : Nat} {d : PD} {T : Nat → Prop} (ks : List Bool) (so : Option Addr) (kn sc : Nat) (w : World) (h : RefIs R d T w) (hg : Good d) (hkn : kn = ks.length) (hk : kn ≤ d.cs.length) (hks : BoolsAt ks so sc w) (hkT : ks ≠ [] → ∀ p, so = some p → ¬ T p.block) :
    Calls Try.prog 18 #[.pointer (some ⟨R, 0, none⟩), .slice so kn sc] w fun e w' => e = .returned (.int .i64 0) ∧ RefIs R (d.crash ks) T w' ∧ Only T w w' := by
  obtain ⟨lf, g, lc, wo, wc, hA, r1, r2, r3, r4⟩ := h
  obtain ⟨o1, o2, o3, o4, o5, o6⟩ := r4
  have hsc := hks.1
  have hsm := hks.2.1
  obtain ⟨n, hn⟩ : ∃ n, n = d.n := ⟨_, rfl⟩
  obtain ⟨m, hm⟩ : ∃ m, m = d.cs.length := ⟨_, rfl⟩
  have hm1 : m ≤ 1000000 := by rw [hm]; exact o3
  have f1 : ¬ (m : Int) < (kn : Int) := by omega
  rw [← hn, ← hm] at hA
  obtain ⟨b1, b2, b3, b4⟩ := hA.bounds
  have c1 := hA.c1
  have HA := hidm hA
  have HNN := hidm hn
  have HM := hidm hm
  have HG := hidm hg
  have HKS := hidm hks
  have HKT := hidm hkT
  have HKN := hidm hkn
  rw [← hkn] at hsc
  rw [← hm] at hk
  clear hn hm hA hg r1 hks hkT hkn
  go_enter Try.func18, Try.ntmps18
  go_wp2_with fail
  clear c1
  go_loopw [5] (fun ii wr => ∃ i : Nat, ii = .int .i64 i ∧ i ≤ kn ∧ Hid (RefAt R (rowL n (redoN (undoW d.f d.cs) d.cs ks i)) n d.cs m d.wr d.fl d.fu lf g lc wo wc T wr) ∧ Hid (Only T w wr)) (fun ii _ => (kn - (intOf ii).toNat))
  case atStart => exact ⟨0, rfl, by omega, HA, hidm (Only.refl _ _)⟩
  case round =>
    rename World => wr
    obtain ⟨q, rfl, hq, HRA, HON0⟩ := hrel
    rcases Nat.lt_or_ge q kn with hlt | hge
    · have hqm : q < d.cs.length := by have := HM.out; omega
      have hqk : q < ks.length := by have := HKN.out; omega
      have g5 : (q : Int) < kn := by omega
      obtain ⟨bb, bo, hso, hbl, hcc⟩ := (HKS.out.keep HON0.out HKT.out).2.2 (fun e => by rw [e] at hqk; simp at hqk)
      have kq := hcc q hqk
      subst hso
      obtain ⟨kv, hkv⟩ : ∃ kv, kv = ks[q] := ⟨_, rfl⟩
      rw [← hkv] at kq
      have hqs : q < sc := by omega
      clear hcc
      cases kv
      · have HRN := hidm (show RefAt R (rowL n (redoN (undoW d.f d.cs) d.cs ks (q + 1))) n d.cs m d.wr d.fl d.fu lf g lc wo wc T wr from by
          have e : redoN (undoW d.f d.cs) d.cs ks (q + 1) = redoN (undoW d.f d.cs) d.cs ks q := by
            rw [redoN_succ _ _ _ q hqm hqk, if_neg (by rw [← hkv]; simp)]
          rw [e]; exact HRA.out)
        clear hkv
        go_wp2_with fail
        go_roundw
        case rel => exact ⟨q + 1, by go_num, by omega, HRN, HON0⟩
        case measure => simp [intOf] <;> omega
      · have hkt : ks[q] = true := hkv.symm
        obtain ⟨b, hb⟩ := HRA.out.some (by omega)
        have hw := HRA.out.wAt _ hb
        obtain ⟨e0, e1⟩ := flatR_at d.cs q hqm
        have p0 := hw.2.2.2.2.2.2 _ _ e0
        have p1 := hw.2.2.2.2.2.2 _ _ e1
        subst hb
        obtain ⟨x, hx⟩ : ∃ x, x = d.cs[q] := ⟨_, rfl⟩
        have hxp : x.pos < n := by have := HG.out.pos d.cs[q] (List.getElem_mem hqm); rw [hx]; have := HNN.out; omega
        rw [← hx] at p0 p1
        rw [show 2 * q = q * 2 by omega] at p0 p1
        have HST := hidm (show redoN (undoW d.f d.cs) d.cs ks (q + 1) = upd (redoN (undoW d.f d.cs) d.cs ks q) x.pos x.laid from by
          rw [redoN_succ _ _ _ q hqm hqk, if_pos hkt, hx])
        have hlen : x.pos < (rowL n (redoN (undoW d.f d.cs) d.cs ks q)).length := by rw [rowL_len]; exact hxp
        have hcg : wr.cell? ⟨g, x.pos, none⟩ = some (.string (S (rowL n (redoN (undoW d.f d.cs) d.cs ks q))[x.pos])) := by
          have := HRA.out.part.at x.pos hlen
          rwa [Nat.zero_add] at this
        have hzg : wr.frozen? ⟨g, x.pos, none⟩ = false := by
          obtain ⟨cur, hh, _⟩ := HRA.out.part.row
          exact frozen_of_row wr g x.pos _ _ hh
        obtain ⟨oldv, hov⟩ : ∃ v, v = Value.string (S (rowL n (redoN (undoW d.f d.cs) d.cs ks q))[x.pos]) := ⟨_, rfl⟩
        rw [← hov] at hcg
        have hcgd : wr.drew.cell? ⟨g, x.pos, none⟩ = some oldv := hcg
        have hzgd : wr.drew.frozen? ⟨g, x.pos, none⟩ = false := hzg
        have k0 := HRA.out.c0
        have k1 := HRA.out.c1
        have hgR := HRA.out.gR
        have hgb : b ≠ g := hw.2.1
        have HSK := hidm (show ∀ v, ((wr.drew.setCell ⟨g, x.pos, none⟩ v).cell? ⟨R, 0, none⟩ = some (.slice (some ⟨g, 0, none⟩) n lc) ∧ (wr.drew.setCell ⟨g, x.pos, none⟩ v).cell? ⟨R, 1, none⟩ = some (.slice (some ⟨b, 0, none⟩) m wc) ∧ (wr.drew.setCell ⟨g, x.pos, none⟩ v).cell? ⟨b, q * 2, none⟩ = some (.int .i64 (x.pos : Int)) ∧ (wr.drew.setCell ⟨g, x.pos, none⟩ v).cell? ⟨b, q * 2 + 1, none⟩ = some (.string (S x.laid))) from fun v =>
          ⟨(World.cell?_of_block (w := wr.drew) (a := ⟨R, 0, none⟩) (heap_setCell_other _ _ _ v (fun e => hgR e.symm))).trans k0,
           (World.cell?_of_block (w := wr.drew) (a := ⟨R, 1, none⟩) (heap_setCell_other _ _ _ v (fun e => hgR e.symm))).trans k1,
           (World.cell?_of_block (w := wr.drew) (a := ⟨b, q * 2, none⟩) (heap_setCell_other _ _ _ v hgb)).trans p0,
           (World.cell?_of_block (w := wr.drew) (a := ⟨b, q * 2 + 1, none⟩) (heap_setCell_other _ _ _ v hgb)).trans p1⟩)
        have HS0 := hidm (show wr.drew.cell? ⟨R, 0, none⟩ = some (.slice (some ⟨g, 0, none⟩) n lc) ∧ wr.drew.cell? ⟨R, 1, none⟩ = some (.slice (some ⟨b, 0, none⟩) m wc) ∧ wr.drew.cell? ⟨b, q * 2, none⟩ = some (.int .i64 (x.pos : Int)) ∧ wr.drew.cell? ⟨b, q * 2 + 1, none⟩ = some (.string (S x.laid)) from ⟨k0, k1, p0, p1⟩)
        have HRN := hidm (show RefAt R (rowL n (redoN (undoW d.f d.cs) d.cs ks (q + 1))) n d.cs m d.wr d.fl d.fu lf g lc (some ⟨b, 0, none⟩) wc T (wr.drew.setCell ⟨g, x.pos, none⟩ (.string (S x.laid))) from by
          rw [HST.out, ← rowL_set]
          exact (HRA.out.later ((Below.refl _ _).drew)).laid x.pos x.laid)
        have HON := hidm (show Only T w (wr.drew.setCell ⟨g, x.pos, none⟩ (.string (S x.laid))) from ((HON0.out.trans (T' := fun _ => False) (.of ((Below.refl _ _).drew)) (fun _ h => h.elim))).set (p := ⟨g, x.pos, none⟩) (.inl HRA.out.tG) _)
        have g3 : (x.pos : Int) < n := by omega
        have g4 : (q : Int) < m := by omega
        clear e0 e1 hw hx hov k0 k1 hgR hgb p0 p1 hlen
        clear hkv hkt
        go_wp2_with fail
        refine wp_region_held_drew (S := fun u => u.cell? ⟨R, 0, none⟩ = some (.slice (some ⟨g, 0, none⟩) n lc) ∧ u.cell? ⟨R, 1, none⟩ = some (.slice (some ⟨b, 0, none⟩) m wc) ∧ u.cell? ⟨b, q * 2, none⟩ = some (.int .i64 (x.pos : Int)) ∧ u.cell? ⟨b, q * 2 + 1, none⟩ = some (.string (S x.laid))) (by kernel_rfl) HS0.out (fun hHeld => ?_)
        refine Man.take1 (i := 0) (v := ?_) rfl (by kernel_rfl) (by kernel_rfl) (by kernel_rfl) (fun _ _ _ h => h) (by rfl) ?_ (by assumption) ?_
        rotate_left
        · (intro u hSu; (try dsimp only at hSu); go_simp; (try with_reducible rfl))
        (try simp only [Act.put, List.setIfInBounds_toArray, List.set_cons_zero, List.set_cons_succ])
        refine Man.take1 (i := 1) (v := ?_) rfl (by kernel_rfl) (by kernel_rfl) (by kernel_rfl) (fun _ _ _ h => h) (by rfl) ?_ (by assumption) ?_
        rotate_left
        · (intro u hSu; (try dsimp only at hSu); go_simp; (try with_reducible rfl))
        (try simp only [Act.put, List.setIfInBounds_toArray, List.set_cons_zero, List.set_cons_succ])
        refine Man.take1 (i := 2) (v := ?_) rfl (by kernel_rfl) (by kernel_rfl) (by kernel_rfl) (fun _ _ _ h => h) (by rfl) ?_ (by assumption) ?_
        rotate_left
        · (intro u hSu; (try dsimp only at hSu); go_simp; (try with_reducible rfl))
        (try simp only [Act.put, List.setIfInBounds_toArray, List.set_cons_zero, List.set_cons_succ])
        refine Man.take1 (i := 3) (v := ?_) rfl (by kernel_rfl) (by kernel_rfl) (by kernel_rfl) (fun _ _ _ h => h) (by rfl) ?_ (by assumption) ?_
        rotate_left
        · (intro u hSu; (try dsimp only at hSu); go_simp; (try with_reducible rfl))
        (try simp only [Act.put, List.setIfInBounds_toArray, List.set_cons_zero, List.set_cons_succ])
        refine Man.take1 (i := 4) (v := ?_) rfl (by kernel_rfl) (by kernel_rfl) (by kernel_rfl) (fun _ _ _ h => h) (by rfl) ?_ (by assumption) ?_
        rotate_left
        · (intro u hSu; (try dsimp only at hSu); go_simp; (try with_reducible rfl))
        (try simp only [Act.put, List.setIfInBounds_toArray, List.set_cons_zero, List.set_cons_succ])
        refine Man.take1 (i := 5) (v := ?_) rfl (by kernel_rfl) (by kernel_rfl) (by kernel_rfl) (fun _ _ _ h => h) (by rfl) ?_ (by assumption) ?_
        rotate_left
        · (intro u hSu; (try dsimp only at hSu); go_simp; (try with_reducible rfl))
        (try simp only [Act.put, List.setIfInBounds_toArray, List.set_cons_zero, List.set_cons_succ])
        refine Man.take1 (i := 6) (v := ?_) rfl (by kernel_rfl) (by kernel_rfl) (by kernel_rfl) (fun _ _ _ h => h) (by rfl) ?_ (by assumption) ?_
        rotate_left
        · (intro u hSu; (try dsimp only at hSu); go_simp; (try with_reducible rfl))
        (try simp only [Act.put, List.setIfInBounds_toArray, List.set_cons_zero, List.set_cons_succ])
        refine Man.take1 (i := 7) (v := ?_) rfl (by kernel_rfl) (by kernel_rfl) (by kernel_rfl) (fun _ _ _ h => h) (by rfl) ?_ (by assumption) ?_
        rotate_left
        · (intro u hSu; (try dsimp only at hSu); go_simp; (try with_reducible rfl))
        (try simp only [Act.put, List.setIfInBounds_toArray, List.set_cons_zero, List.set_cons_succ])
        refine Man.take1 (i := 8) (v := ?_) rfl (by kernel_rfl) (by kernel_rfl) (by kernel_rfl) (fun _ _ _ h => h) (by rfl) ?_ (by assumption) ?_
        rotate_left
        · (intro u hSu; (try dsimp only at hSu); go_simp; (try with_reducible rfl))
        (try simp only [Act.put, List.setIfInBounds_toArray, List.set_cons_zero, List.set_cons_succ])
        refine Man.take1 (i := 9) (v := ?_) rfl (by kernel_rfl) (by kernel_rfl) (by kernel_rfl) (fun _ _ _ h => h) (by rfl) ?_ (by assumption) ?_
        rotate_left
        · (intro u hSu; (try dsimp only at hSu); go_simp; (try with_reducible rfl))
        (try simp only [Act.put, List.setIfInBounds_toArray, List.set_cons_zero, List.set_cons_succ])
        refine Man.take1 (i := 10) (v := ?_) rfl (by kernel_rfl) (by kernel_rfl) (by kernel_rfl) (fun _ _ _ h => h) (by rfl) ?_ (by assumption) ?_
        rotate_left
        · (intro u hSu; (try dsimp only at hSu); go_simp; (try with_reducible rfl))
        (try simp only [Act.put, List.setIfInBounds_toArray, List.set_cons_zero, List.set_cons_succ])
        refine Man.take1 (i := 11) (v := ?_) rfl (by kernel_rfl) (by kernel_rfl) (by kernel_rfl) (fun _ _ _ h => h) (by rfl) ?_ (by assumption) ?_
        rotate_left
        · (intro u hSu; (try dsimp only at hSu); go_simp; (try with_reducible rfl))
        (try simp only [Act.put, List.setIfInBounds_toArray, List.set_cons_zero, List.set_cons_succ])
        refine Man.take1 (i := 12) (v := ?_) rfl (by kernel_rfl) (by kernel_rfl) (by kernel_rfl) (fun _ _ _ h => h) (by rfl) ?_ (by assumption) ?_
        rotate_left
        · (intro u hSu; (try dsimp only at hSu); go_simp; (try with_reducible rfl))
        (try simp only [Act.put, List.setIfInBounds_toArray, List.set_cons_zero, List.set_cons_succ])
        refine Man.take1 (i := 13) (v := ?_) rfl (by kernel_rfl) (by kernel_rfl) (by kernel_rfl) (fun _ _ _ h => h) (by rfl) ?_ (by assumption) ?_
        rotate_left
        · (intro u hSu; (try dsimp only at hSu); go_simp; (try with_reducible rfl))
        (try simp only [Act.put, List.setIfInBounds_toArray, List.set_cons_zero, List.set_cons_succ])
        refine Man.take1 (i := 14) (v := ?_) rfl (by kernel_rfl) (by kernel_rfl) (by kernel_rfl) (fun _ _ _ h => h) (by rfl) ?_ (by assumption) ?_
        rotate_left
        · (intro u hSu; (try dsimp only at hSu); go_simp; (try with_reducible rfl))
        (try simp only [Act.put, List.setIfInBounds_toArray, List.set_cons_zero, List.set_cons_succ])
        refine Man.take1 (i := 15) (v := ?_) rfl (by kernel_rfl) (by kernel_rfl) (by kernel_rfl) (fun _ _ _ h => h) (by rfl) ?_ (by assumption) ?_
        rotate_left
        · (intro u hSu; (try dsimp only at hSu); go_simp; (try with_reducible rfl))
        (try simp only [Act.put, List.setIfInBounds_toArray, List.set_cons_zero, List.set_cons_succ])
        refine Man.take1 (i := 16) (v := ?_) rfl (by kernel_rfl) (by kernel_rfl) (by kernel_rfl) (fun _ _ _ h => h) (by rfl) ?_ (by assumption) ?_
        rotate_left
        · (intro u hSu; (try dsimp only at hSu); go_simp; (try with_reducible rfl))
        (try simp only [Act.put, List.setIfInBounds_toArray, List.set_cons_zero, List.set_cons_succ])
        refine Man.take1 (i := 17) (v := ?_) rfl (by kernel_rfl) (by kernel_rfl) (by kernel_rfl) (fun _ _ _ h => h) (by rfl) ?_ (by assumption) ?_
        rotate_left
        · (intro u hSu; (try dsimp only at hSu); go_simp; (try with_reducible rfl))
        (try simp only [Act.put, List.setIfInBounds_toArray, List.set_cons_zero, List.set_cons_succ])
        refine Man.take1 (i := 18) (v := ?_) rfl (by kernel_rfl) (by kernel_rfl) (by kernel_rfl) (fun _ _ _ h => h) (by rfl) ?_ (by assumption) ?_
        rotate_left
        · (intro u hSu; (try dsimp only at hSu); go_simp; (try with_reducible rfl))
        (try simp only [Act.put, List.setIfInBounds_toArray, List.set_cons_zero, List.set_cons_succ])
        refine Man.take1 (i := 19) (v := ?_) rfl (by kernel_rfl) (by kernel_rfl) (by kernel_rfl) (fun _ _ _ h => h) (by rfl) ?_ (by assumption) ?_
        rotate_left
        · (intro u hSu; (try dsimp only at hSu); go_simp; (try with_reducible rfl))
        (try simp only [Act.put, List.setIfInBounds_toArray, List.set_cons_zero, List.set_cons_succ])
        refine Man.take1 (i := 20) (v := ?_) rfl (by kernel_rfl) (by kernel_rfl) (by kernel_rfl) (fun _ _ _ h => h) (by rfl) ?_ (by assumption) ?_
        rotate_left
        · (intro u hSu; (try dsimp only at hSu); go_simp; (try with_reducible rfl))
        (try simp only [Act.put, List.setIfInBounds_toArray, List.set_cons_zero, List.set_cons_succ])
        refine Man.one (i := 21) rfl (by kernel_rfl) (fun K hK => ?_)
        go_simp
        refine hK.out _ _ (HSK.out _) (fun hNew => ?_)
        clear hK K hHeld hNew
        (try simp only [Act.put, List.setIfInBounds_toArray, List.set_cons_zero, List.set_cons_succ])
        refine wpAnyH_done (by kernel_rfl) ?_ _
        go_wp2_with fail
        go_roundw
        case rel => exact ⟨q + 1, by go_num, by omega, HRN, HON⟩
        case measure => simp [intOf] <;> omega
    · obtain rfl : q = kn := by omega
      have g4 : ¬ (q : Int) < (q : Int) := by omega
      have k1 := HRA.out.c1
      have z1 := HRA.out.z 1
      have k4 := HRA.out.c4
      have z4 := HRA.out.z 4
      go_wp2_with fail
      go_ret
      have hE := (HRA.out.emptied).put (wr' := d.wr) (fl' := d.fl) (fu' := false) (lf' := lf) 4 (.bool false) rfl
      have hrows : redoN (undoW d.f d.cs) d.cs ks q = redo (undoW d.f d.cs) d.cs ks := redoN_all _ _ _ _ (by rw [HKN.out, List.length_zip]; omega)
      rw [hrows] at hE
      refine ⟨rfl, ⟨lf, g, lc, none, 0, ?_, (fun e => by cases e), by show -((d.wr : Int) + d.fl) ≤ lf; omega, by omega, ?_⟩, (HON0.out.set (p := ⟨R, 1, none⟩) (.inl HRA.out.tR) _).set (p := ⟨R, 4, none⟩) (.inl HRA.out.tR) _⟩
      · rw [HNN.out] at hE
        exact hE
      · exact ⟨o1, fun x hx => (nomatch hx), Nat.zero_le _, o4, o5, Nat.zero_le _⟩
end Dsk
end Go.Proofs.Ytkbadjlehmaneaa
