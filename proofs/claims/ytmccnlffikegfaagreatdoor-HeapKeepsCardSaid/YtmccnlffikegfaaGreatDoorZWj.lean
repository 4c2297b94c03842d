/- greaterSlot, begin, Commit, Reset. Conditions: as each says. -/
import Derived.Test.YtmccnlffikegfaaGreatDoorZWi
namespace Go.Proofs.YtmccnlffikegfaaGreatDoor
open Go.RowKit
namespace Wal
open Dsk (PD Mine KeepQ DiskIs Only Grow upd pad)
open Crc (S S_of S_size S_append S_add hidm)
/-- What greaterSlot has behind i slots. -/
def gst (a b : Nat × Nat) : Nat → Nat × Nat
  | 0 => (0, 0)
  | 1 => if 0 < a.1 then a else (0, 0)
  | _ => gr a b
theorem gst_step (a b : Nat × Nat) (i : Nat) (hi : i < 2) (x : Nat × Nat) (hx : x = if i = 0 then a else b) : gst a b (i + 1) = if (gst a b i).1 < x.1 then x else gst a b i := by
  rcases (show i = 0 ∨ i = 1 by omega) with rfl | rfl
  · rw [hx]; rfl
  · rw [hx]; rfl
theorem slotB_lt (l : List UInt8) : (slotB l).1 ≤ 1099511627776 ∧ (slotB l).2 ≤ (slotB l).1 := by
  unfold slotB
  split
  · split
    · split
      · rename_i h; exact ⟨h.2.1, h.2.2⟩
      · exact ⟨by simp, by simp⟩
    · exact ⟨by simp, by simp⟩
  · exact ⟨by simp, by simp⟩
theorem slotP_lt (s : List UInt8) : (slotP s).1 ≤ 1099511627776 ∧ (slotP s).2 ≤ (slotP s).1 := by
  unfold slotP
  split
  · exact slotB_lt _
  · exact ⟨by simp, by simp⟩
theorem gr_lt {a b : Nat × Nat} (ha : a.1 ≤ 1099511627776 ∧ a.2 ≤ a.1) (hb : b.1 ≤ 1099511627776 ∧ b.2 ≤ b.1) : (gr a b).1 ≤ 1099511627776 ∧ (gr a b).2 ≤ (gr a b).1 := by
  unfold gr
  simp only
  by_cases h0 : 0 < a.1
  · rw [if_pos h0]
    by_cases h1 : a.1 < b.1
    · rw [if_pos h1]; exact hb
    · rw [if_neg h1]; exact ha
  · rw [if_neg h0]
    by_cases h1 : 0 < b.1
    · rw [if_pos h1]; exact hb
    · rw [if_neg h1]; exact ⟨by simp, by simp⟩
theorem slF_lt (F : Nat) (f : Int → List UInt8) : (slF F f).1 ≤ 1099511627776 ∧ (slF F f).2 ≤ (slF F f).1 := gr_lt (slotP_lt _) (slotP_lt _)
section
variable {W : World} {Q : Nat → Prop} {L D : Nat} {g : PL} {d : PD} {w : World}
theorem Pair.len (h : Pair W Q L D g d w) (k : Int) : (d.f k).length = 128 := by
  obtain ⟨U, sl, ⟨⟨T, ⟨M, ao, cap, hT⟩, _⟩, _, _⟩, _, _⟩ := h.ex
  exact hT.map.1 k
set_option maxHeartbeats 4000000 in
set_option maxRecDepth 100000 in
theorem greater_any (h : Pair W Q L D g d w) (hd : g.F + 1 < d.n) :
    Calls Tryz.prog 61 #[.pointer (some ⟨L, 0, none⟩)] w fun e w' => e = .returned (.agg #[.int .u64 ((slF g.F d.f).1 : Int), .int .u64 ((slF g.F d.f).2 : Int)]) ∧ Below w.heap.size w w' := by
  obtain ⟨X0, hX0⟩ : ∃ X, X = slotP (d.f ((g.F + 0 : Nat) : Int)) := ⟨_, rfl⟩
  obtain ⟨X1, hX1⟩ : ∃ X, X = slotP (d.f ((g.F + 1 : Nat) : Int)) := ⟨_, rfl⟩
  have hsl : slF g.F d.f = gr X0 X1 := by rw [hX0, hX1]; rfl
  have HSL := hidm hsl
  have HX0 := hidm hX0
  have HX1 := hidm hX1
  have H := hidm h
  have hlen := fun k => h.len k
  have HS := hidm (show ∀ i : Nat, i < 2 → ∀ w', Below w.heap.size w w' → Calls Tryz.prog 86 #[.pointer (some ⟨L, 0, none⟩), .int .i64 (i : Int)] w' fun e w'' => e = .returned (.string (S (d.f ((g.F + i : Nat) : Int)))) ∧ Below w'.heap.size w' w'' from fun i hi w' hb => sector_any (h.later hb) i (by omega) (by omega))
  have HT := hidm (show ∀ i : Nat, i < 2 → ∀ w', Calls Tryz.prog 85 #[.string (S (d.f ((g.F + i : Nat) : Int)))] w' fun e w'' => e = .returned (.agg #[.int .u64 ((if i = 0 then X0 else X1).1 : Int), .int .u64 ((if i = 0 then X0 else X1).2 : Int)]) ∧ Below w'.heap.size w' w'' from fun i hi w' => by
    have h1 := slotof_any (S (d.f ((g.F + i : Nat) : Int))) (by rw [S_size, hlen]; omega) w'
    have h2 : slotP (S (d.f ((g.F + i : Nat) : Int))).data.toList = if i = 0 then X0 else X1 := by
      rcases (show i = 0 ∨ i = 1 by omega) with rfl | rfl
      · rw [hX0]; rfl
      · rw [hX1]; rfl
    rw [h2] at h1
    exact h1)
  have A0 := hidm (slotRow.later (slotRow.new w 0 0) ((Below.refl _ _).alloc (Nat.le_refl _) (.cells #[.int .u64 0, .int .u64 0] 118)))
  have A1 := hidm (show slotRow (w.heap.size + 1) 0 0 ((w.alloc (.cells #[.int .u64 0, .int .u64 0] 118)).alloc (.cells #[.int .u64 0, .int .u64 0] 118)) from by
    have := slotRow.new (w.alloc (.cells #[.int .u64 0, .int .u64 0] 118)) 0 0
    simpa using this)
  have AB := hidm (show Below w.heap.size w ((w.alloc (.cells #[.int .u64 0, .int .u64 0] 118)).alloc (.cells #[.int .u64 0, .int .u64 0] 118)) from ((Below.refl _ _).alloc (Nat.le_refl _) _).alloc (by simp) _)
  rw [hsl]
  clear h hsl hX0 hX1 hlen
  go_enter Tryz.func61, Tryz.ntmps61
  go_wp2_with fail
  go_loopw [6] (fun ii wr => ∃ i : Nat, ii = .int .i64 i ∧ i ≤ 2 ∧ Hid (slotRow w.heap.size 0 0 wr) ∧ Hid (slotRow (w.heap.size + 1) ((gst X0 X1 i).1 : Int) ((gst X0 X1 i).2 : Int) wr) ∧ Hid (Below w.heap.size w wr)) (fun ii _ => (2 - (intOf ii).toNat))
  case atStart => exact ⟨0, rfl, by omega, A0, A1, AB⟩
  case round =>
    rename World => wr
    obtain ⟨i, rfl, hi, HR, HG, HB⟩ := hrel
    obtain ⟨q, hq⟩ : ∃ q, q = gst X0 X1 i := ⟨_, rfl⟩
    rw [← hq] at HG
    have HQ := hidm hq
    clear hq
    rcases Nat.lt_or_ge i 2 with hlt | hge
    · have g1 : (i : Int) < 2 := by omega
      obtain ⟨x, hx⟩ : ∃ x, x = if i = 0 then X0 else X1 := ⟨_, rfl⟩
      have HX := hidm hx
      have HT2 := hidm (HT.out i hlt)
      rw [← hx] at HT2
      clear hx
      go_wp2_with fail
      refine (HS.out i hlt wr HB.out).mono ?_
      rintro e w1 ⟨rfl, hb⟩
      have HR1 := hidm (HR.out.later hb)
      have HG1 := hidm (HG.out.later hb)
      have HB1 := hidm (HB.out.trans (hb.mono HB.out.size))
      clear hb HR HG HB
      go_wp2_with fail
      refine (HT2.out w1).mono ?_
      rintro e w2 ⟨rfl, hb⟩
      have hba := (Below.refl _ _).alloc (Nat.le_refl w2.heap.size) (.cells #[.int .u64 (x.1 : Int), .int .u64 (x.2 : Int)] 118)
      have HR2 := hidm ((HR1.out.later hb).later hba)
      have HG2 := hidm ((HG1.out.later hb).later hba)
      have HB2 := hidm ((HB1.out.trans (hb.mono HB1.out.size)).trans (hba.mono (Nat.le_trans HB1.out.size hb.size)))
      clear hb HR1 HG1 HB1 hba
      have c0 := HG2.out.c0
      have c1 := HG2.out.c1
      have z0 := HG2.out.z
      by_cases hc : q.1 < x.1
      · have g2 : (q.1 : Int) < (x.1 : Int) := by omega
        go_wp2_with fail
        go_roundw
        case rel =>
          have hst : gst X0 X1 (i + 1) = x := by rw [gst_step X0 X1 i hlt x HX.out, ← HQ.out, if_pos hc]
          refine ⟨i + 1, by go_num, by omega, ?_, ?_, ?_⟩
          · exact hidm (HR2.out.keep (by
              rw [heap_setCell_other _ _ _ _ (by simp), heap_setCell_other _ _ _ _ (by simp)]))
          · rw [hst]; exact hidm (HG2.out.set _ _)
          · exact hidm ((HB2.out.setCell (p := ⟨w.heap.size + 1, 0, none⟩) (by simp) _).setCell (p := ⟨w.heap.size + 1, 1, none⟩) (by simp) _)
        case measure => simp [intOf]; omega
      · have g2 : ¬ (q.1 : Int) < (x.1 : Int) := by omega
        go_wp2_with fail
        go_roundw
        case rel =>
          have hst : gst X0 X1 (i + 1) = q := by rw [gst_step X0 X1 i hlt x HX.out, ← HQ.out, if_neg hc]
          exact ⟨i + 1, by go_num, by omega, HR2, by rw [hst]; exact HG2, HB2⟩
        case measure => simp [intOf]; omega
    · obtain rfl : i = 2 := by omega
      have g1 : ¬ ((2 : Nat) : Int) < 2 := by omega
      have c0 := HG.out.c0
      have c1 := HG.out.c1
      have y0 := HR.out.c0
      have y1 := HR.out.c1
      have z0 := HR.out.z
      go_wp2_with fail
      have HP := HR.out.set (q.1 : Int) (q.2 : Int)
      have p0 := HP.c0
      have p1 := HP.c1
      have HQ2 : q = gr X0 X1 := HQ.out
      show bodyPost _ _ _ _ _ ((World.setCell wr ⟨w.heap.size, 0, none⟩ (.int .u64 (q.1 : Int))).setCell ⟨w.heap.size, 1, none⟩ (.int .u64 (q.2 : Int)))
      refine bodyPost_ret (v := .agg #[.int .u64 (q.1 : Int), .int .u64 (q.2 : Int)]) (by simp [results, Tryz.results61, go_sem, p0, p1]) rfl ?_
      refine ⟨by rw [HQ2], (HB.out.setCell (p := ⟨w.heap.size, 0, none⟩) (Nat.le_refl _) _).setCell (p := ⟨w.heap.size, 1, none⟩) (Nat.le_refl _) _⟩
theorem keepQ_less {Q Q' : Nat → Prop} {w w' : World} (h : KeepQ Q w w') (hq : ∀ k, Q' k → Q k) : KeepQ Q' w w' := fun k hk => h k (hq k hk)
set_option maxHeartbeats 4000000 in
set_option maxRecDepth 100000 in
theorem begin_off1 (h : Pair W Q L D g d w) (t b : Nat) (ht : t ≤ 1099511627776) (hbt : b ≤ t) (hd : g.F + 1 < d.n) (hb : d.burnt = true) :
    Calls Tryz.prog 63 #[.pointer (some ⟨L, 0, none⟩), .agg #[.int .u64 (t : Int), .int .u64 (b : Int)]] w fun e w' => e = .returned (.int .i64 6) ∧ Pair W Q L D g.halt d w' ∧ KeepQ Q w w' := by
  obtain ⟨m, hm⟩ : ∃ m, m = t % 2 := ⟨_, rfl⟩
  have hm2 : m < 2 := by omega
  have hmod : (t : Int).tmod 2 = (m : Int) := by rw [Int.tmod_eq_emod_of_nonneg (by omega)]; omega
  have hw1 : IntKind.u64.wrap (m : Int) = (m : Int) := by simp only [IntKind.wrap_u64]; omega
  have hw2 : IntKind.i64.wrap (m : Int) = (m : Int) := by simp only [IntKind.wrap_i64]; omega
  have hw3 : wrap64 (m : Int) = (m : Int) := by unfold wrap64; omega
  have hsl : g.F + m = slot g.F t := by rw [hm]; rfl
  obtain ⟨x, hx⟩ : ∃ x, x = S (sbody t b) := ⟨_, rfl⟩
  have hxs : x.size ≤ 123 := by rw [hx, S_size]; have := sbody_len (by omega : t ≤ 1099511627776) hbt; omega
  have hxl : x.data.toList = sbody t b := by rw [hx]
  have SB := hidm (fun w => slotbody_any t b (by omega) (by omega) w)
  rw [← hx] at SB
  have R1 := hidm (slotRow.new w (t : Int) (b : Int))
  have hba := (Below.refl w.heap.size w).alloc (Nat.le_refl w.heap.size) (.cells #[.int .u64 (t : Int), .int .u64 (b : Int)] 118)
  obtain ⟨w1, hw1'⟩ : ∃ w1, w1 = w.alloc (.cells #[.int .u64 (t : Int), .int .u64 (b : Int)] 118) := ⟨_, rfl⟩
  have hBl : w.heap.size < w1.heap.size := by rw [hw1']; simp
  rw [← hw1'] at R1 hba
  have H1 := hidm (h.guard hba)
  have K1 := hidm (h.kept hba)
  have HW1 := hidm hw1'
  have HF := hidm (show g.F ≤ 4096 from h.ok.1)
  have HOK := hidm h.ok
  clear h hm hx hba
  have HM := hidm hmod
  clear hmod
  go_enter Tryz.func63, Tryz.ntmps63
  go_wp2_with fail
  rw [← HW1.out]
  clear HW1 hw1'
  obtain ⟨B, hB⟩ : ∃ B, B = w.heap.size := ⟨_, rfl⟩
  have HQB := hidm (show (fun k => Q k ∨ (w.heap.size ≤ k ∧ k < w1.heap.size)) B from .inr ⟨by omega, by omega⟩)
  rw [← hB] at R1 ⊢
  clear hB
  have hmod := HM.out
  have R2 := hidm (R1.out.later (Below.refl _ _).drew)
  have H2 := hidm (H1.out.later (Below.refl _ _).drew)
  have K2 := hidm (K1.out.trans (keepQ_less (H1.out.kept (Below.refl _ _).drew) (fun _ h => .inl h)))
  refine wp_region_held_drew (S := fun u => u.cell? ⟨B, 0, none⟩ = some (.int .u64 (t : Int)) ∧ u.cell? ⟨B, 1, none⟩ = some (.int .u64 (b : Int)) ∧ slotRow B (t : Int) (b : Int) u) (by kernel_rfl) (⟨R2.out.c0, R2.out.c1, R2.out⟩) (fun hHeld => ?_)
  refine Man.take1 (i := 0) (v := ?_) rfl (by kernel_rfl) (by kernel_rfl) (by kernel_rfl) (fun _ _ _ h => h) (by rfl) ?_ (by assumption) ?_
  rotate_left
  · (intro u hSu; (try dsimp only at hSu); go_simp; (try with_reducible rfl))
  (try simp only [Act.put, List.setIfInBounds_toArray, List.set_cons_zero, List.set_cons_succ])
  refine Man.take1 (i := 1) (v := ?_) rfl (by kernel_rfl) (by kernel_rfl) (by kernel_rfl) (fun _ _ _ h => h) (by rfl) ?_ (by assumption) ?_
  rotate_left
  · (intro u hSu; (try dsimp only at hSu); go_simp; (try with_reducible rfl))
  (try simp only [Act.put, List.setIfInBounds_toArray, List.set_cons_zero, List.set_cons_succ])
  refine Man.take1 (i := 2) (v := ?_) rfl (by kernel_rfl) (by kernel_rfl) (by kernel_rfl) (fun _ _ _ h => h) (by rfl) ?_ (by assumption) ?_
  rotate_left
  · (intro u hSu; (try dsimp only at hSu); go_simp; (try with_reducible rfl))
  (try simp only [Act.put, List.setIfInBounds_toArray, List.set_cons_zero, List.set_cons_succ])
  refine Man.take1 (i := 3) (v := ?_) rfl (by kernel_rfl) (by kernel_rfl) (by kernel_rfl) (fun _ _ _ h => h) (by rfl) ?_ (by assumption) ?_
  rotate_left
  · (intro u hSu; (try dsimp only at hSu); go_simp; (try with_reducible rfl))
  (try simp only [Act.put, List.setIfInBounds_toArray, List.set_cons_zero, List.set_cons_succ])
  refine Man.take1 (i := 4) (v := ?_) rfl (by kernel_rfl) (by kernel_rfl) (by kernel_rfl) (fun _ _ _ h => h) (by rfl) ?_ (by assumption) ?_
  rotate_left
  · (intro u hSu; (try dsimp only at hSu); go_simp; (try with_reducible rfl))
  (try simp only [Act.put, List.setIfInBounds_toArray, List.set_cons_zero, List.set_cons_succ])
  refine Man.take1 (i := 5) (v := ?_) rfl (by kernel_rfl) (by kernel_rfl) (by kernel_rfl) (fun _ _ _ h => h) (by rfl) ?_ (by assumption) ?_
  rotate_left
  · (intro u hSu; (try dsimp only at hSu); go_simp; (try with_reducible rfl))
  (try simp only [Act.put, List.setIfInBounds_toArray, List.set_cons_zero, List.set_cons_succ])
  refine Man.one (i := 6) rfl (by kernel_rfl) (fun K hK => ?_)
  go_simp
  refine (SB.out _).mono ?_
  rintro e w5 ⟨rfl, hb5⟩
  have R3 := hidm (hHeld.2.2.later hb5)
  have H3 := hidm (H2.out.later hb5)
  have K3 := hidm (K2.out.trans (keepQ_less (H2.out.kept hb5) (fun _ h => .inl h)))
  refine hK.out _ _ (⟨R3.out.c0, R3.out.c1, R3.out⟩) (fun hNew => ?_)
  clear hK K hHeld
  have hHeld := hNew
  clear hNew
  (try simp only [Act.put, List.setIfInBounds_toArray, List.set_cons_zero, List.set_cons_succ])
  refine Man.one (i := 7) rfl (by kernel_rfl) (fun K hK => ?_)
  go_simp
  refine (lay_off H3.out m (by omega) (by rw [hsl]; have := HF.out; unfold slot; omega) x hxs hb).mono ?_
  rintro e w6 ⟨rfl, h6, k6⟩
  have R4 := hidm (hHeld.2.2.keep (k6 B HQB.out))
  have H4 := hidm h6
  have K4 := hidm (K3.out.trans (keepQ_less k6 (fun _ h => .inl h)))
  clear h6 k6
  refine hK.out _ _ (⟨R4.out.c0, R4.out.c1, R4.out⟩) (fun hNew => ?_)
  clear hK K hHeld
  have hHeld := hNew
  clear hNew
  (try simp only [Act.put, List.setIfInBounds_toArray, List.set_cons_zero, List.set_cons_succ])
  refine Man.take1 (i := 8) (v := ?_) rfl (by kernel_rfl) (by kernel_rfl) (by kernel_rfl) (fun _ _ _ h => h) (by rfl) ?_ (by assumption) ?_
  rotate_left
  · (intro u hSu; (try dsimp only at hSu); go_simp; (try with_reducible rfl))
  (try simp only [Act.put, List.setIfInBounds_toArray, List.set_cons_zero, List.set_cons_succ])
  refine wpAnyH_done (by kernel_rfl) ?_ _
  go_wp2_with fail
  go_ret
  exact ⟨rfl, (H4.out).less (fun _ h => .inl h), K4.out⟩
set_option maxHeartbeats 4000000 in
set_option maxRecDepth 100000 in
theorem begin_off2 (h : Pair W Q L D g d w) (t b : Nat) (ht : t ≤ 1099511627776) (hbt : b ≤ t) (hd : g.F + 1 < d.n) (hb : d.burnt = false) (hb2 : (d.write (slot g.F t) (sealB (sbody t b))).burn.burnt = true) (hc : d.cs.length < 1000000) (hw : d.wr < 1000000) :
    Calls Tryz.prog 63 #[.pointer (some ⟨L, 0, none⟩), .agg #[.int .u64 (t : Int), .int .u64 (b : Int)]] w fun e w' => e = .returned (.int .i64 6) ∧ Pair W Q L D g.halt (d.write (slot g.F t) (sealB (sbody t b))).burn w' ∧ KeepQ Q w w' := by
  obtain ⟨m, hm⟩ : ∃ m, m = t % 2 := ⟨_, rfl⟩
  have hm2 : m < 2 := by omega
  have hmod : (t : Int).tmod 2 = (m : Int) := by rw [Int.tmod_eq_emod_of_nonneg (by omega)]; omega
  have hw1 : IntKind.u64.wrap (m : Int) = (m : Int) := by simp only [IntKind.wrap_u64]; omega
  have hw2 : IntKind.i64.wrap (m : Int) = (m : Int) := by simp only [IntKind.wrap_i64]; omega
  have hw3 : wrap64 (m : Int) = (m : Int) := by unfold wrap64; omega
  have hsl : g.F + m = slot g.F t := by rw [hm]; rfl
  obtain ⟨x, hx⟩ : ∃ x, x = S (sbody t b) := ⟨_, rfl⟩
  have hxs : x.size ≤ 123 := by rw [hx, S_size]; have := sbody_len (by omega : t ≤ 1099511627776) hbt; omega
  have hxl : x.data.toList = sbody t b := by rw [hx]
  have SB := hidm (fun w => slotbody_any t b (by omega) (by omega) w)
  rw [← hx] at SB
  have R1 := hidm (slotRow.new w (t : Int) (b : Int))
  have hba := (Below.refl w.heap.size w).alloc (Nat.le_refl w.heap.size) (.cells #[.int .u64 (t : Int), .int .u64 (b : Int)] 118)
  obtain ⟨w1, hw1'⟩ : ∃ w1, w1 = w.alloc (.cells #[.int .u64 (t : Int), .int .u64 (b : Int)] 118) := ⟨_, rfl⟩
  have hBl : w.heap.size < w1.heap.size := by rw [hw1']; simp
  rw [← hw1'] at R1 hba
  have H1 := hidm (h.guard hba)
  have K1 := hidm (h.kept hba)
  have HW1 := hidm hw1'
  have HF := hidm (show g.F ≤ 4096 from h.ok.1)
  have HOK := hidm h.ok
  clear h hm hx hba
  have HM := hidm hmod
  clear hmod
  go_enter Tryz.func63, Tryz.ntmps63
  go_wp2_with fail
  rw [← HW1.out]
  clear HW1 hw1'
  obtain ⟨B, hB⟩ : ∃ B, B = w.heap.size := ⟨_, rfl⟩
  have HQB := hidm (show (fun k => Q k ∨ (w.heap.size ≤ k ∧ k < w1.heap.size)) B from .inr ⟨by omega, by omega⟩)
  rw [← hB] at R1 ⊢
  clear hB
  have hmod := HM.out
  have R2 := hidm (R1.out.later (Below.refl _ _).drew)
  have H2 := hidm (H1.out.later (Below.refl _ _).drew)
  have K2 := hidm (K1.out.trans (keepQ_less (H1.out.kept (Below.refl _ _).drew) (fun _ h => .inl h)))
  refine wp_region_held_drew (S := fun u => u.cell? ⟨B, 0, none⟩ = some (.int .u64 (t : Int)) ∧ u.cell? ⟨B, 1, none⟩ = some (.int .u64 (b : Int)) ∧ slotRow B (t : Int) (b : Int) u) (by kernel_rfl) (⟨R2.out.c0, R2.out.c1, R2.out⟩) (fun hHeld => ?_)
  refine Man.take1 (i := 0) (v := ?_) rfl (by kernel_rfl) (by kernel_rfl) (by kernel_rfl) (fun _ _ _ h => h) (by rfl) ?_ (by assumption) ?_
  rotate_left
  · (intro u hSu; (try dsimp only at hSu); go_simp; (try with_reducible rfl))
  (try simp only [Act.put, List.setIfInBounds_toArray, List.set_cons_zero, List.set_cons_succ])
  refine Man.take1 (i := 1) (v := ?_) rfl (by kernel_rfl) (by kernel_rfl) (by kernel_rfl) (fun _ _ _ h => h) (by rfl) ?_ (by assumption) ?_
  rotate_left
  · (intro u hSu; (try dsimp only at hSu); go_simp; (try with_reducible rfl))
  (try simp only [Act.put, List.setIfInBounds_toArray, List.set_cons_zero, List.set_cons_succ])
  refine Man.take1 (i := 2) (v := ?_) rfl (by kernel_rfl) (by kernel_rfl) (by kernel_rfl) (fun _ _ _ h => h) (by rfl) ?_ (by assumption) ?_
  rotate_left
  · (intro u hSu; (try dsimp only at hSu); go_simp; (try with_reducible rfl))
  (try simp only [Act.put, List.setIfInBounds_toArray, List.set_cons_zero, List.set_cons_succ])
  refine Man.take1 (i := 3) (v := ?_) rfl (by kernel_rfl) (by kernel_rfl) (by kernel_rfl) (fun _ _ _ h => h) (by rfl) ?_ (by assumption) ?_
  rotate_left
  · (intro u hSu; (try dsimp only at hSu); go_simp; (try with_reducible rfl))
  (try simp only [Act.put, List.setIfInBounds_toArray, List.set_cons_zero, List.set_cons_succ])
  refine Man.take1 (i := 4) (v := ?_) rfl (by kernel_rfl) (by kernel_rfl) (by kernel_rfl) (fun _ _ _ h => h) (by rfl) ?_ (by assumption) ?_
  rotate_left
  · (intro u hSu; (try dsimp only at hSu); go_simp; (try with_reducible rfl))
  (try simp only [Act.put, List.setIfInBounds_toArray, List.set_cons_zero, List.set_cons_succ])
  refine Man.take1 (i := 5) (v := ?_) rfl (by kernel_rfl) (by kernel_rfl) (by kernel_rfl) (fun _ _ _ h => h) (by rfl) ?_ (by assumption) ?_
  rotate_left
  · (intro u hSu; (try dsimp only at hSu); go_simp; (try with_reducible rfl))
  (try simp only [Act.put, List.setIfInBounds_toArray, List.set_cons_zero, List.set_cons_succ])
  refine Man.one (i := 6) rfl (by kernel_rfl) (fun K hK => ?_)
  go_simp
  refine (SB.out _).mono ?_
  rintro e w5 ⟨rfl, hb5⟩
  have R3 := hidm (hHeld.2.2.later hb5)
  have H3 := hidm (H2.out.later hb5)
  have K3 := hidm (K2.out.trans (keepQ_less (H2.out.kept hb5) (fun _ h => .inl h)))
  refine hK.out _ _ (⟨R3.out.c0, R3.out.c1, R3.out⟩) (fun hNew => ?_)
  clear hK K hHeld
  have hHeld := hNew
  clear hNew
  (try simp only [Act.put, List.setIfInBounds_toArray, List.set_cons_zero, List.set_cons_succ])
  refine Man.one (i := 7) rfl (by kernel_rfl) (fun K hK => ?_)
  go_simp
  refine (lay_on H3.out m (by omega) (by rw [hsl]; have := HF.out; unfold slot; omega) x hxs hb hc hw).mono ?_
  rintro e w6 ⟨rfl, h6, k6⟩
  have R4 := hidm (hHeld.2.2.keep (k6 B HQB.out))
  have H4 := hidm h6
  have K4 := hidm (K3.out.trans (keepQ_less k6 (fun _ h => .inl h)))
  clear h6 k6
  refine hK.out _ _ (⟨R4.out.c0, R4.out.c1, R4.out⟩) (fun hNew => ?_)
  clear hK K hHeld
  have hHeld := hNew
  clear hNew
  (try simp only [Act.put, List.setIfInBounds_toArray, List.set_cons_zero, List.set_cons_succ])
  refine Man.take1 (i := 8) (v := ?_) rfl (by kernel_rfl) (by kernel_rfl) (by kernel_rfl) (fun _ _ _ h => h) (by rfl) ?_ (by assumption) ?_
  rotate_left
  · (intro u hSu; (try dsimp only at hSu); go_simp; (try with_reducible rfl))
  (try simp only [Act.put, List.setIfInBounds_toArray, List.set_cons_zero, List.set_cons_succ])
  refine wpAnyH_done (by kernel_rfl) ?_ _
  rw [hsl, hxl] at H4
  go_wp2_with fail
  refine (lflush_off H4.out hb2).mono ?_
  rintro e w7 ⟨rfl, h7, k7⟩
  have H5 := hidm h7
  have K5 := hidm (K4.out.trans (keepQ_less k7 (fun _ h => .inl h)))
  clear h7 k7
  go_wp2_with fail
  go_ret
  exact ⟨rfl, (H5.out).less (fun _ h => .inl h), K5.out⟩
set_option maxHeartbeats 4000000 in
set_option maxRecDepth 100000 in
theorem begin_on (h : Pair W Q L D g d w) (t b : Nat) (ht : t ≤ 1099511627776) (hbt : b ≤ t) (hd : g.F + 1 < d.n) (hb : d.burnt = false) (hb2 : (d.write (slot g.F t) (sealB (sbody t b))).burn.burnt = false) (hc : d.cs.length < 1000000) (hw : d.wr < 1000000) (hf : d.fl < 1000000) :
    Calls Tryz.prog 63 #[.pointer (some ⟨L, 0, none⟩), .agg #[.int .u64 (t : Int), .int .u64 (b : Int)]] w fun e w' => e = .returned (.int .i64 0) ∧ Pair W Q L D { g with turn := t } (d.write (slot g.F t) (sealB (sbody t b))).burn.flush.burn w' ∧ KeepQ Q w w' := by
  obtain ⟨m, hm⟩ : ∃ m, m = t % 2 := ⟨_, rfl⟩
  have hm2 : m < 2 := by omega
  have hmod : (t : Int).tmod 2 = (m : Int) := by rw [Int.tmod_eq_emod_of_nonneg (by omega)]; omega
  have hw1 : IntKind.u64.wrap (m : Int) = (m : Int) := by simp only [IntKind.wrap_u64]; omega
  have hw2 : IntKind.i64.wrap (m : Int) = (m : Int) := by simp only [IntKind.wrap_i64]; omega
  have hw3 : wrap64 (m : Int) = (m : Int) := by unfold wrap64; omega
  have hsl : g.F + m = slot g.F t := by rw [hm]; rfl
  obtain ⟨x, hx⟩ : ∃ x, x = S (sbody t b) := ⟨_, rfl⟩
  have hxs : x.size ≤ 123 := by rw [hx, S_size]; have := sbody_len (by omega : t ≤ 1099511627776) hbt; omega
  have hxl : x.data.toList = sbody t b := by rw [hx]
  have SB := hidm (fun w => slotbody_any t b (by omega) (by omega) w)
  rw [← hx] at SB
  have R1 := hidm (slotRow.new w (t : Int) (b : Int))
  have hba := (Below.refl w.heap.size w).alloc (Nat.le_refl w.heap.size) (.cells #[.int .u64 (t : Int), .int .u64 (b : Int)] 118)
  obtain ⟨w1, hw1'⟩ : ∃ w1, w1 = w.alloc (.cells #[.int .u64 (t : Int), .int .u64 (b : Int)] 118) := ⟨_, rfl⟩
  have hBl : w.heap.size < w1.heap.size := by rw [hw1']; simp
  rw [← hw1'] at R1 hba
  have H1 := hidm (h.guard hba)
  have K1 := hidm (h.kept hba)
  have HW1 := hidm hw1'
  have HF := hidm (show g.F ≤ 4096 from h.ok.1)
  have HOK := hidm h.ok
  clear h hm hx hba
  have HM := hidm hmod
  clear hmod
  go_enter Tryz.func63, Tryz.ntmps63
  go_wp2_with fail
  rw [← HW1.out]
  clear HW1 hw1'
  obtain ⟨B, hB⟩ : ∃ B, B = w.heap.size := ⟨_, rfl⟩
  have HQB := hidm (show (fun k => Q k ∨ (w.heap.size ≤ k ∧ k < w1.heap.size)) B from .inr ⟨by omega, by omega⟩)
  rw [← hB] at R1 ⊢
  clear hB
  have hmod := HM.out
  have R2 := hidm (R1.out.later (Below.refl _ _).drew)
  have H2 := hidm (H1.out.later (Below.refl _ _).drew)
  have K2 := hidm (K1.out.trans (keepQ_less (H1.out.kept (Below.refl _ _).drew) (fun _ h => .inl h)))
  refine wp_region_held_drew (S := fun u => u.cell? ⟨B, 0, none⟩ = some (.int .u64 (t : Int)) ∧ u.cell? ⟨B, 1, none⟩ = some (.int .u64 (b : Int)) ∧ slotRow B (t : Int) (b : Int) u) (by kernel_rfl) (⟨R2.out.c0, R2.out.c1, R2.out⟩) (fun hHeld => ?_)
  refine Man.take1 (i := 0) (v := ?_) rfl (by kernel_rfl) (by kernel_rfl) (by kernel_rfl) (fun _ _ _ h => h) (by rfl) ?_ (by assumption) ?_
  rotate_left
  · (intro u hSu; (try dsimp only at hSu); go_simp; (try with_reducible rfl))
  (try simp only [Act.put, List.setIfInBounds_toArray, List.set_cons_zero, List.set_cons_succ])
  refine Man.take1 (i := 1) (v := ?_) rfl (by kernel_rfl) (by kernel_rfl) (by kernel_rfl) (fun _ _ _ h => h) (by rfl) ?_ (by assumption) ?_
  rotate_left
  · (intro u hSu; (try dsimp only at hSu); go_simp; (try with_reducible rfl))
  (try simp only [Act.put, List.setIfInBounds_toArray, List.set_cons_zero, List.set_cons_succ])
  refine Man.take1 (i := 2) (v := ?_) rfl (by kernel_rfl) (by kernel_rfl) (by kernel_rfl) (fun _ _ _ h => h) (by rfl) ?_ (by assumption) ?_
  rotate_left
  · (intro u hSu; (try dsimp only at hSu); go_simp; (try with_reducible rfl))
  (try simp only [Act.put, List.setIfInBounds_toArray, List.set_cons_zero, List.set_cons_succ])
  refine Man.take1 (i := 3) (v := ?_) rfl (by kernel_rfl) (by kernel_rfl) (by kernel_rfl) (fun _ _ _ h => h) (by rfl) ?_ (by assumption) ?_
  rotate_left
  · (intro u hSu; (try dsimp only at hSu); go_simp; (try with_reducible rfl))
  (try simp only [Act.put, List.setIfInBounds_toArray, List.set_cons_zero, List.set_cons_succ])
  refine Man.take1 (i := 4) (v := ?_) rfl (by kernel_rfl) (by kernel_rfl) (by kernel_rfl) (fun _ _ _ h => h) (by rfl) ?_ (by assumption) ?_
  rotate_left
  · (intro u hSu; (try dsimp only at hSu); go_simp; (try with_reducible rfl))
  (try simp only [Act.put, List.setIfInBounds_toArray, List.set_cons_zero, List.set_cons_succ])
  refine Man.take1 (i := 5) (v := ?_) rfl (by kernel_rfl) (by kernel_rfl) (by kernel_rfl) (fun _ _ _ h => h) (by rfl) ?_ (by assumption) ?_
  rotate_left
  · (intro u hSu; (try dsimp only at hSu); go_simp; (try with_reducible rfl))
  (try simp only [Act.put, List.setIfInBounds_toArray, List.set_cons_zero, List.set_cons_succ])
  refine Man.one (i := 6) rfl (by kernel_rfl) (fun K hK => ?_)
  go_simp
  refine (SB.out _).mono ?_
  rintro e w5 ⟨rfl, hb5⟩
  have R3 := hidm (hHeld.2.2.later hb5)
  have H3 := hidm (H2.out.later hb5)
  have K3 := hidm (K2.out.trans (keepQ_less (H2.out.kept hb5) (fun _ h => .inl h)))
  refine hK.out _ _ (⟨R3.out.c0, R3.out.c1, R3.out⟩) (fun hNew => ?_)
  clear hK K hHeld
  have hHeld := hNew
  clear hNew
  (try simp only [Act.put, List.setIfInBounds_toArray, List.set_cons_zero, List.set_cons_succ])
  refine Man.one (i := 7) rfl (by kernel_rfl) (fun K hK => ?_)
  go_simp
  refine (lay_on H3.out m (by omega) (by rw [hsl]; have := HF.out; unfold slot; omega) x hxs hb hc hw).mono ?_
  rintro e w6 ⟨rfl, h6, k6⟩
  have R4 := hidm (hHeld.2.2.keep (k6 B HQB.out))
  have H4 := hidm h6
  have K4 := hidm (K3.out.trans (keepQ_less k6 (fun _ h => .inl h)))
  clear h6 k6
  refine hK.out _ _ (⟨R4.out.c0, R4.out.c1, R4.out⟩) (fun hNew => ?_)
  clear hK K hHeld
  have hHeld := hNew
  clear hNew
  (try simp only [Act.put, List.setIfInBounds_toArray, List.set_cons_zero, List.set_cons_succ])
  refine Man.take1 (i := 8) (v := ?_) rfl (by kernel_rfl) (by kernel_rfl) (by kernel_rfl) (fun _ _ _ h => h) (by rfl) ?_ (by assumption) ?_
  rotate_left
  · (intro u hSu; (try dsimp only at hSu); go_simp; (try with_reducible rfl))
  (try simp only [Act.put, List.setIfInBounds_toArray, List.set_cons_zero, List.set_cons_succ])
  refine wpAnyH_done (by kernel_rfl) ?_ _
  rw [hsl, hxl] at H4
  go_wp2_with fail
  refine (lflush_on H4.out hb2 hf).mono ?_
  rintro e w7 ⟨rfl, h7, k7⟩
  have R5 := hidm (hHeld.2.2.keep (k7 B HQB.out))
  have H5 := hidm h7
  have K5 := hidm (K4.out.trans (keepQ_less k7 (fun _ h => .inl h)))
  clear h7 k7 hHeld
  have c0 := R5.out.c0
  have c4 := H5.out.cells.2.2.2.2.1
  have z4 := H5.out.z 4
  have HP := hidm (H5.out.put 4 (.int .u64 (t : Int)) { g with turn := t } (fun _ => rfl) rfl ⟨HOK.out.1, HOK.out.2.1, ht, HOK.out.2.2.2.1, HOK.out.2.2.2.2⟩)
  go_wp2_with fail
  go_ret
  exact ⟨rfl, (HP.out.1).less (fun _ h => .inl h), K5.out.trans (keepQ_less HP.out.2 (fun _ h => .inl h))⟩
set_option maxHeartbeats 1000000 in
theorem commit_on (h : Pair W Q L D g d w) (hh : g.halted = false) (hb : d.burnt = false) (hf : d.fl < 1000000) :
    Calls Tryz.prog 80 #[.pointer (some ⟨L, 0, none⟩)] w fun e w' => e = .returned (.int .i64 0) ∧ Pair W Q L D g d.flush.burn w' ∧ KeepQ Q w w' := by
  have ST := hidm (state_any h)
  rw [show g.err = 0 from by unfold PL.err; rw [hh]; rfl] at ST
  have FL := hidm (lflush_on h hb hf)
  clear h
  go_enter Tryz.func80, Tryz.ntmps80
  go_wp2_with fail
  refine ST.out.mono ?_
  rintro e w1 ⟨rfl, rfl⟩
  go_wp2_with fail
  refine FL.out.mono ?_
  rintro e w1 ⟨rfl, h1, k1⟩
  have H1 := hidm h1
  have K1 := hidm k1
  clear h1 k1
  go_wp2_with fail
  go_ret
  exact ⟨rfl, H1.out, K1.out⟩
set_option maxHeartbeats 1000000 in
theorem commit_off (h : Pair W Q L D g d w) (hh : g.halted = false) (hb : d.burnt = true) :
    Calls Tryz.prog 80 #[.pointer (some ⟨L, 0, none⟩)] w fun e w' => e = .returned (.int .i64 6) ∧ Pair W Q L D g.halt d w' ∧ KeepQ Q w w' := by
  have ST := hidm (state_any h)
  rw [show g.err = 0 from by unfold PL.err; rw [hh]; rfl] at ST
  have FL := hidm (lflush_off h hb)
  clear h
  go_enter Tryz.func80, Tryz.ntmps80
  go_wp2_with fail
  refine ST.out.mono ?_
  rintro e w1 ⟨rfl, rfl⟩
  go_wp2_with fail
  refine FL.out.mono ?_
  rintro e w1 ⟨rfl, h1, k1⟩
  have H1 := hidm h1
  have K1 := hidm k1
  clear h1 k1
  go_wp2_with fail
  go_ret
  exact ⟨rfl, H1.out, K1.out⟩
set_option maxHeartbeats 1000000 in
theorem commit_shut (h : Pair W Q L D g d w) (hh : g.halted = true) :
    Calls Tryz.prog 80 #[.pointer (some ⟨L, 0, none⟩)] w fun e w' => e = .returned (.int .i64 6) ∧ w = w' := by
  have ST := hidm (state_any h)
  rw [show g.err = 6 from by unfold PL.err; rw [hh]; rfl] at ST
  clear h
  go_enter Tryz.func80, Tryz.ntmps80
  go_wp2_with fail
  refine ST.out.mono ?_
  rintro e w1 ⟨rfl, rfl⟩
  go_wp2_with fail
  go_ret
  exact ⟨rfl, rfl⟩
set_option maxHeartbeats 1000000 in
theorem commit_no (p : Option Addr) (w : World) (h : NotLog p w) : Calls Tryz.prog 80 #[.pointer p] w fun e w' => e = .returned (.int .i64 13) ∧ w = w' := by
  have ST := hidm (state_no p w h)
  go_enter Tryz.func80, Tryz.ntmps80
  go_wp2_with fail
  refine ST.out.mono ?_
  rintro e w1 ⟨rfl, rfl⟩
  go_wp2_with fail
  go_ret
  exact ⟨rfl, rfl⟩
set_option maxHeartbeats 1000000 in
theorem reset_no (p : Option Addr) (w : World) (h : NotLog p w) : Calls Tryz.prog 100 #[.pointer p] w fun e w' => e = .returned (.int .i64 13) ∧ w = w' := by
  have ST := hidm (state_no p w h)
  go_enter Tryz.func100, Tryz.ntmps100
  go_wp2_with fail
  refine ST.out.mono ?_
  rintro e w1 ⟨rfl, rfl⟩
  go_wp2_with fail
  go_ret
  exact ⟨rfl, rfl⟩
theorem Pair.cell5 (h : Pair W Q L D g d w) : ∃ sl, w.cell? ⟨L, 5, none⟩ = some sl := by
  obtain ⟨U, sl, hm, hl, _⟩ := h.ex
  exact ⟨sl, hl.cellAt 5⟩
def PL.empty (g : PL) : PL := { g with recs := [], used := 0 }
theorem Pair.empty (h : Pair W Q L D g d w) : Pair W Q L D g.empty d ((w.setCell ⟨L, 5, none⟩ (.slice none 0 0)).setCell ⟨L, 6, none⟩ (.int .i64 0)) ∧ KeepQ Q w ((w.setCell ⟨L, 5, none⟩ (.slice none 0 0)).setCell ⟨L, 6, none⟩ (.int .i64 0)) := by
  obtain ⟨h1, k1⟩ := h.clear _ rfl
  obtain ⟨a1, a2, a3, a4, a5⟩ := h.ok
  obtain ⟨h2, k2⟩ := h1.put 6 (.int .i64 0) g.empty (fun _ => rfl) rfl ⟨a1, a2, a3, Nat.zero_le _, Nat.zero_le _⟩
  exact ⟨h2, k1.trans k2⟩
set_option maxHeartbeats 4000000 in
set_option maxRecDepth 100000 in
theorem reset_off1 (h : Pair W Q L D g d w) (hh : g.halted = false) (ht : g.turn < 1099511627776) (hd : g.F + 1 < d.n) (hb : d.burnt = true) :
    Calls Tryz.prog 100 #[.pointer (some ⟨L, 0, none⟩)] w fun e w' => e = .returned (.int .i64 6) ∧ Pair W Q L D g.halt d w' ∧ KeepQ Q w w' := by
  have ST := hidm (state_any h)
  rw [show g.err = 0 from by unfold PL.err; rw [hh]; rfl] at ST
  have c4 := h.cells.2.2.2.2.1
  have C4 := hidm c4
  have HD := hidm ((Below.refl w.heap.size w).drew)
  have H1 := hidm (h.later HD.out)
  have K1 := hidm (h.kept HD.out)
  have HOK := hidm h.ok
  have hw1 : IntKind.u64.wrap ((g.turn : Int) + 1) = ((g.turn + 1 : Nat) : Int) := by simp only [IntKind.wrap_u64]; omega
  clear h hh
  go_enter Tryz.func100, Tryz.ntmps100
  go_wp2_with fail
  refine ST.out.mono ?_
  rintro e w1 ⟨rfl, rfl⟩
  go_wp2_with fail
  refine wp_region_held_drew (S := fun u => True) (by kernel_rfl) trivial (fun hHeld => ?_)
  refine Man.take1 (i := 0) (v := ?_) rfl (by kernel_rfl) (by kernel_rfl) (by kernel_rfl) (fun _ _ _ h => h) (by rfl) ?_ (by assumption) ?_
  rotate_left
  · (intro u hSu; (try dsimp only at hSu); go_simp; (try with_reducible rfl))
  (try simp only [Act.put, List.setIfInBounds_toArray, List.set_cons_zero, List.set_cons_succ])
  refine Man.take1 (i := 1) (v := ?_) rfl (by kernel_rfl) (by kernel_rfl) (by kernel_rfl) (fun _ _ _ h => h) (by rfl) ?_ (by assumption) ?_
  rotate_left
  · (intro u hSu; (try dsimp only at hSu); go_simp; (try with_reducible rfl))
  (try simp only [Act.put, List.setIfInBounds_toArray, List.set_cons_zero, List.set_cons_succ])
  refine Man.take1 (i := 2) (v := ?_) rfl (by kernel_rfl) (by kernel_rfl) (by kernel_rfl) (fun _ _ _ h => h) (by rfl) ?_ (by assumption) ?_
  rotate_left
  · (intro u hSu; (try dsimp only at hSu); go_simp; (try with_reducible rfl))
  (try simp only [Act.put, List.setIfInBounds_toArray, List.set_cons_zero, List.set_cons_succ])
  refine Man.take1 (i := 3) (v := ?_) rfl (by kernel_rfl) (by kernel_rfl) (by kernel_rfl) (fun _ _ _ h => h) (by rfl) ?_ (by assumption) ?_
  rotate_left
  · (intro u hSu; (try dsimp only at hSu); go_simp; (try with_reducible rfl))
  (try simp only [Act.put, List.setIfInBounds_toArray, List.set_cons_zero, List.set_cons_succ])
  refine Man.take1 (i := 6) (v := ?_) rfl (by kernel_rfl) (by kernel_rfl) (by kernel_rfl) (fun _ _ _ h => h) (by rfl) ?_ (by assumption) ?_
  rotate_left
  · (intro u hSu; (try dsimp only at hSu); go_simp; (try with_reducible rfl))
  (try simp only [Act.put, List.setIfInBounds_toArray, List.set_cons_zero, List.set_cons_succ])
  refine Man.take1 (i := 7) (v := ?_) rfl (by kernel_rfl) (by kernel_rfl) (by kernel_rfl) (fun _ _ _ h => h) (by rfl) ?_ (by assumption) ?_
  rotate_left
  · (intro u hSu; (try dsimp only at hSu); go_simp; (try with_reducible rfl))
  (try simp only [Act.put, List.setIfInBounds_toArray, List.set_cons_zero, List.set_cons_succ])
  refine Man.take1 (i := 8) (v := ?_) rfl (by kernel_rfl) (by kernel_rfl) (by kernel_rfl) (fun _ _ _ h => h) (by rfl) ?_ (by assumption) ?_
  rotate_left
  · (intro u hSu; (try dsimp only at hSu); go_simp; (try with_reducible rfl))
  (try simp only [Act.put, List.setIfInBounds_toArray, List.set_cons_zero, List.set_cons_succ])
  refine Man.two (i := 4) (j := 9) rfl rfl (by kernel_rfl) (fun K hK => ?_) (fun K hK => ?_)
  · go_simp
    refine hK.out _ _ trivial (fun hNew => ?_)
    clear hK K hHeld
    have hHeld := hNew
    clear hNew
    (try simp only [Act.put, List.setIfInBounds_toArray, List.set_cons_zero, List.set_cons_succ])
    refine Man.take1 (i := 5) (v := ?_) rfl (by kernel_rfl) (by kernel_rfl) (by kernel_rfl) (fun _ _ _ h => h) (by rfl) ?_ (by assumption) ?_
    rotate_left
    · (intro u hSu; (try dsimp only at hSu); go_simp; (try with_reducible rfl))
    (try simp only [Act.put, List.setIfInBounds_toArray, List.set_cons_zero, List.set_cons_succ])
    refine Man.one (i := 9) rfl (by kernel_rfl) (fun K hK => ?_)
    go_simp
    refine hK.out _ _ trivial (fun hNew => ?_)
    clear hK K hHeld
    have hHeld := hNew
    clear hNew
    (try simp only [Act.put, List.setIfInBounds_toArray, List.set_cons_zero, List.set_cons_succ])
    refine Man.take1 (i := 10) (v := ?_) rfl (by kernel_rfl) (by kernel_rfl) (by kernel_rfl) (fun _ _ _ h => h) (by rfl) ?_ (by assumption) ?_
    rotate_left
    · (intro u hSu; (try dsimp only at hSu); go_simp; (try with_reducible rfl))
    (try simp only [Act.put, List.setIfInBounds_toArray, List.set_cons_zero, List.set_cons_succ])
    refine Man.take1 (i := 11) (v := ?_) rfl (by kernel_rfl) (by kernel_rfl) (by kernel_rfl) (fun _ _ _ h => h) (by rfl) ?_ (by assumption) ?_
    rotate_left
    · (intro u hSu; (try dsimp only at hSu); go_simp; (try with_reducible rfl))
    (try simp only [Act.put, List.setIfInBounds_toArray, List.set_cons_zero, List.set_cons_succ])
    refine Man.one (i := 12) rfl (by kernel_rfl) (fun K hK => ?_)
    go_simp
    refine (begin_off1 H1.out (g.turn + 1) (g.turn + 1) (by omega) (Nat.le_refl _) hd hb).mono ?_
    rintro e w6 ⟨rfl, h6, k6⟩
    have H6 := hidm h6
    have K6 := hidm (K1.out.trans k6)
    clear h6 k6
    refine hK.out _ _ (trivial) (fun hNew => ?_)
    clear hK K hHeld
    have hHeld := hNew
    clear hNew
    (try simp only [Act.put, List.setIfInBounds_toArray, List.set_cons_zero, List.set_cons_succ])
    refine Man.take1 (i := 13) (v := ?_) rfl (by kernel_rfl) (by kernel_rfl) (by kernel_rfl) (fun _ _ _ h => h) (by rfl) ?_ (by assumption) ?_
    rotate_left
    · (intro u hSu; (try dsimp only at hSu); go_simp; (try with_reducible rfl))
    (try simp only [Act.put, List.setIfInBounds_toArray, List.set_cons_zero, List.set_cons_succ])
    refine wpAnyH_done (by kernel_rfl) ?_ _
    go_wp2_with fail
    go_ret
    exact ⟨rfl, H6.out, K6.out⟩
  · go_simp
    refine hK.out _ _ trivial (fun hNew => ?_)
    clear hK K hHeld
    have hHeld := hNew
    clear hNew
    (try simp only [Act.put, List.setIfInBounds_toArray, List.set_cons_zero, List.set_cons_succ])
    refine Man.take1 (i := 10) (v := ?_) rfl (by kernel_rfl) (by kernel_rfl) (by kernel_rfl) (fun _ _ _ h => h) (by rfl) ?_ (by assumption) ?_
    rotate_left
    · (intro u hSu; (try dsimp only at hSu); go_simp; (try with_reducible rfl))
    (try simp only [Act.put, List.setIfInBounds_toArray, List.set_cons_zero, List.set_cons_succ])
    refine Man.one (i := 4) rfl (by kernel_rfl) (fun K hK => ?_)
    go_simp
    refine hK.out _ _ trivial (fun hNew => ?_)
    clear hK K hHeld
    have hHeld := hNew
    clear hNew
    (try simp only [Act.put, List.setIfInBounds_toArray, List.set_cons_zero, List.set_cons_succ])
    refine Man.take1 (i := 5) (v := ?_) rfl (by kernel_rfl) (by kernel_rfl) (by kernel_rfl) (fun _ _ _ h => h) (by rfl) ?_ (by assumption) ?_
    rotate_left
    · (intro u hSu; (try dsimp only at hSu); go_simp; (try with_reducible rfl))
    (try simp only [Act.put, List.setIfInBounds_toArray, List.set_cons_zero, List.set_cons_succ])
    refine Man.take1 (i := 11) (v := ?_) rfl (by kernel_rfl) (by kernel_rfl) (by kernel_rfl) (fun _ _ _ h => h) (by rfl) ?_ (by assumption) ?_
    rotate_left
    · (intro u hSu; (try dsimp only at hSu); go_simp; (try with_reducible rfl))
    (try simp only [Act.put, List.setIfInBounds_toArray, List.set_cons_zero, List.set_cons_succ])
    refine Man.one (i := 12) rfl (by kernel_rfl) (fun K hK => ?_)
    go_simp
    refine (begin_off1 H1.out (g.turn + 1) (g.turn + 1) (by omega) (Nat.le_refl _) hd hb).mono ?_
    rintro e w6 ⟨rfl, h6, k6⟩
    have H6 := hidm h6
    have K6 := hidm (K1.out.trans k6)
    clear h6 k6
    refine hK.out _ _ (trivial) (fun hNew => ?_)
    clear hK K hHeld
    have hHeld := hNew
    clear hNew
    (try simp only [Act.put, List.setIfInBounds_toArray, List.set_cons_zero, List.set_cons_succ])
    refine Man.take1 (i := 13) (v := ?_) rfl (by kernel_rfl) (by kernel_rfl) (by kernel_rfl) (fun _ _ _ h => h) (by rfl) ?_ (by assumption) ?_
    rotate_left
    · (intro u hSu; (try dsimp only at hSu); go_simp; (try with_reducible rfl))
    (try simp only [Act.put, List.setIfInBounds_toArray, List.set_cons_zero, List.set_cons_succ])
    refine wpAnyH_done (by kernel_rfl) ?_ _
    go_wp2_with fail
    go_ret
    exact ⟨rfl, H6.out, K6.out⟩
set_option maxHeartbeats 4000000 in
set_option maxRecDepth 100000 in
theorem reset_off2 (h : Pair W Q L D g d w) (hh : g.halted = false) (ht : g.turn < 1099511627776) (hd : g.F + 1 < d.n) (hb : d.burnt = false) (hb2 : (d.write (slot g.F (g.turn + 1)) (sealB (sbody (g.turn + 1) (g.turn + 1)))).burn.burnt = true) (hc : d.cs.length < 1000000) (hw : d.wr < 1000000) :
    Calls Tryz.prog 100 #[.pointer (some ⟨L, 0, none⟩)] w fun e w' => e = .returned (.int .i64 6) ∧ Pair W Q L D g.halt (d.write (slot g.F (g.turn + 1)) (sealB (sbody (g.turn + 1) (g.turn + 1)))).burn w' ∧ KeepQ Q w w' := by
  have ST := hidm (state_any h)
  rw [show g.err = 0 from by unfold PL.err; rw [hh]; rfl] at ST
  have c4 := h.cells.2.2.2.2.1
  have C4 := hidm c4
  have HD := hidm ((Below.refl w.heap.size w).drew)
  have H1 := hidm (h.later HD.out)
  have K1 := hidm (h.kept HD.out)
  have HOK := hidm h.ok
  have hw1 : IntKind.u64.wrap ((g.turn : Int) + 1) = ((g.turn + 1 : Nat) : Int) := by simp only [IntKind.wrap_u64]; omega
  clear h hh
  go_enter Tryz.func100, Tryz.ntmps100
  go_wp2_with fail
  refine ST.out.mono ?_
  rintro e w1 ⟨rfl, rfl⟩
  go_wp2_with fail
  refine wp_region_held_drew (S := fun u => True) (by kernel_rfl) trivial (fun hHeld => ?_)
  refine Man.take1 (i := 0) (v := ?_) rfl (by kernel_rfl) (by kernel_rfl) (by kernel_rfl) (fun _ _ _ h => h) (by rfl) ?_ (by assumption) ?_
  rotate_left
  · (intro u hSu; (try dsimp only at hSu); go_simp; (try with_reducible rfl))
  (try simp only [Act.put, List.setIfInBounds_toArray, List.set_cons_zero, List.set_cons_succ])
  refine Man.take1 (i := 1) (v := ?_) rfl (by kernel_rfl) (by kernel_rfl) (by kernel_rfl) (fun _ _ _ h => h) (by rfl) ?_ (by assumption) ?_
  rotate_left
  · (intro u hSu; (try dsimp only at hSu); go_simp; (try with_reducible rfl))
  (try simp only [Act.put, List.setIfInBounds_toArray, List.set_cons_zero, List.set_cons_succ])
  refine Man.take1 (i := 2) (v := ?_) rfl (by kernel_rfl) (by kernel_rfl) (by kernel_rfl) (fun _ _ _ h => h) (by rfl) ?_ (by assumption) ?_
  rotate_left
  · (intro u hSu; (try dsimp only at hSu); go_simp; (try with_reducible rfl))
  (try simp only [Act.put, List.setIfInBounds_toArray, List.set_cons_zero, List.set_cons_succ])
  refine Man.take1 (i := 3) (v := ?_) rfl (by kernel_rfl) (by kernel_rfl) (by kernel_rfl) (fun _ _ _ h => h) (by rfl) ?_ (by assumption) ?_
  rotate_left
  · (intro u hSu; (try dsimp only at hSu); go_simp; (try with_reducible rfl))
  (try simp only [Act.put, List.setIfInBounds_toArray, List.set_cons_zero, List.set_cons_succ])
  refine Man.take1 (i := 6) (v := ?_) rfl (by kernel_rfl) (by kernel_rfl) (by kernel_rfl) (fun _ _ _ h => h) (by rfl) ?_ (by assumption) ?_
  rotate_left
  · (intro u hSu; (try dsimp only at hSu); go_simp; (try with_reducible rfl))
  (try simp only [Act.put, List.setIfInBounds_toArray, List.set_cons_zero, List.set_cons_succ])
  refine Man.take1 (i := 7) (v := ?_) rfl (by kernel_rfl) (by kernel_rfl) (by kernel_rfl) (fun _ _ _ h => h) (by rfl) ?_ (by assumption) ?_
  rotate_left
  · (intro u hSu; (try dsimp only at hSu); go_simp; (try with_reducible rfl))
  (try simp only [Act.put, List.setIfInBounds_toArray, List.set_cons_zero, List.set_cons_succ])
  refine Man.take1 (i := 8) (v := ?_) rfl (by kernel_rfl) (by kernel_rfl) (by kernel_rfl) (fun _ _ _ h => h) (by rfl) ?_ (by assumption) ?_
  rotate_left
  · (intro u hSu; (try dsimp only at hSu); go_simp; (try with_reducible rfl))
  (try simp only [Act.put, List.setIfInBounds_toArray, List.set_cons_zero, List.set_cons_succ])
  refine Man.two (i := 4) (j := 9) rfl rfl (by kernel_rfl) (fun K hK => ?_) (fun K hK => ?_)
  · go_simp
    refine hK.out _ _ trivial (fun hNew => ?_)
    clear hK K hHeld
    have hHeld := hNew
    clear hNew
    (try simp only [Act.put, List.setIfInBounds_toArray, List.set_cons_zero, List.set_cons_succ])
    refine Man.take1 (i := 5) (v := ?_) rfl (by kernel_rfl) (by kernel_rfl) (by kernel_rfl) (fun _ _ _ h => h) (by rfl) ?_ (by assumption) ?_
    rotate_left
    · (intro u hSu; (try dsimp only at hSu); go_simp; (try with_reducible rfl))
    (try simp only [Act.put, List.setIfInBounds_toArray, List.set_cons_zero, List.set_cons_succ])
    refine Man.one (i := 9) rfl (by kernel_rfl) (fun K hK => ?_)
    go_simp
    refine hK.out _ _ trivial (fun hNew => ?_)
    clear hK K hHeld
    have hHeld := hNew
    clear hNew
    (try simp only [Act.put, List.setIfInBounds_toArray, List.set_cons_zero, List.set_cons_succ])
    refine Man.take1 (i := 10) (v := ?_) rfl (by kernel_rfl) (by kernel_rfl) (by kernel_rfl) (fun _ _ _ h => h) (by rfl) ?_ (by assumption) ?_
    rotate_left
    · (intro u hSu; (try dsimp only at hSu); go_simp; (try with_reducible rfl))
    (try simp only [Act.put, List.setIfInBounds_toArray, List.set_cons_zero, List.set_cons_succ])
    refine Man.take1 (i := 11) (v := ?_) rfl (by kernel_rfl) (by kernel_rfl) (by kernel_rfl) (fun _ _ _ h => h) (by rfl) ?_ (by assumption) ?_
    rotate_left
    · (intro u hSu; (try dsimp only at hSu); go_simp; (try with_reducible rfl))
    (try simp only [Act.put, List.setIfInBounds_toArray, List.set_cons_zero, List.set_cons_succ])
    refine Man.one (i := 12) rfl (by kernel_rfl) (fun K hK => ?_)
    go_simp
    refine (begin_off2 H1.out (g.turn + 1) (g.turn + 1) (by omega) (Nat.le_refl _) hd hb hb2 hc hw).mono ?_
    rintro e w6 ⟨rfl, h6, k6⟩
    have H6 := hidm h6
    have K6 := hidm (K1.out.trans k6)
    clear h6 k6
    refine hK.out _ _ (trivial) (fun hNew => ?_)
    clear hK K hHeld
    have hHeld := hNew
    clear hNew
    (try simp only [Act.put, List.setIfInBounds_toArray, List.set_cons_zero, List.set_cons_succ])
    refine Man.take1 (i := 13) (v := ?_) rfl (by kernel_rfl) (by kernel_rfl) (by kernel_rfl) (fun _ _ _ h => h) (by rfl) ?_ (by assumption) ?_
    rotate_left
    · (intro u hSu; (try dsimp only at hSu); go_simp; (try with_reducible rfl))
    (try simp only [Act.put, List.setIfInBounds_toArray, List.set_cons_zero, List.set_cons_succ])
    refine wpAnyH_done (by kernel_rfl) ?_ _
    go_wp2_with fail
    go_ret
    exact ⟨rfl, H6.out, K6.out⟩
  · go_simp
    refine hK.out _ _ trivial (fun hNew => ?_)
    clear hK K hHeld
    have hHeld := hNew
    clear hNew
    (try simp only [Act.put, List.setIfInBounds_toArray, List.set_cons_zero, List.set_cons_succ])
    refine Man.take1 (i := 10) (v := ?_) rfl (by kernel_rfl) (by kernel_rfl) (by kernel_rfl) (fun _ _ _ h => h) (by rfl) ?_ (by assumption) ?_
    rotate_left
    · (intro u hSu; (try dsimp only at hSu); go_simp; (try with_reducible rfl))
    (try simp only [Act.put, List.setIfInBounds_toArray, List.set_cons_zero, List.set_cons_succ])
    refine Man.one (i := 4) rfl (by kernel_rfl) (fun K hK => ?_)
    go_simp
    refine hK.out _ _ trivial (fun hNew => ?_)
    clear hK K hHeld
    have hHeld := hNew
    clear hNew
    (try simp only [Act.put, List.setIfInBounds_toArray, List.set_cons_zero, List.set_cons_succ])
    refine Man.take1 (i := 5) (v := ?_) rfl (by kernel_rfl) (by kernel_rfl) (by kernel_rfl) (fun _ _ _ h => h) (by rfl) ?_ (by assumption) ?_
    rotate_left
    · (intro u hSu; (try dsimp only at hSu); go_simp; (try with_reducible rfl))
    (try simp only [Act.put, List.setIfInBounds_toArray, List.set_cons_zero, List.set_cons_succ])
    refine Man.take1 (i := 11) (v := ?_) rfl (by kernel_rfl) (by kernel_rfl) (by kernel_rfl) (fun _ _ _ h => h) (by rfl) ?_ (by assumption) ?_
    rotate_left
    · (intro u hSu; (try dsimp only at hSu); go_simp; (try with_reducible rfl))
    (try simp only [Act.put, List.setIfInBounds_toArray, List.set_cons_zero, List.set_cons_succ])
    refine Man.one (i := 12) rfl (by kernel_rfl) (fun K hK => ?_)
    go_simp
    refine (begin_off2 H1.out (g.turn + 1) (g.turn + 1) (by omega) (Nat.le_refl _) hd hb hb2 hc hw).mono ?_
    rintro e w6 ⟨rfl, h6, k6⟩
    have H6 := hidm h6
    have K6 := hidm (K1.out.trans k6)
    clear h6 k6
    refine hK.out _ _ (trivial) (fun hNew => ?_)
    clear hK K hHeld
    have hHeld := hNew
    clear hNew
    (try simp only [Act.put, List.setIfInBounds_toArray, List.set_cons_zero, List.set_cons_succ])
    refine Man.take1 (i := 13) (v := ?_) rfl (by kernel_rfl) (by kernel_rfl) (by kernel_rfl) (fun _ _ _ h => h) (by rfl) ?_ (by assumption) ?_
    rotate_left
    · (intro u hSu; (try dsimp only at hSu); go_simp; (try with_reducible rfl))
    (try simp only [Act.put, List.setIfInBounds_toArray, List.set_cons_zero, List.set_cons_succ])
    refine wpAnyH_done (by kernel_rfl) ?_ _
    go_wp2_with fail
    go_ret
    exact ⟨rfl, H6.out, K6.out⟩
set_option maxHeartbeats 4000000 in
set_option maxRecDepth 100000 in
theorem reset_on (h : Pair W Q L D g d w) (hh : g.halted = false) (ht : g.turn < 1099511627776) (hd : g.F + 1 < d.n) (hb : d.burnt = false) (hb2 : (d.write (slot g.F (g.turn + 1)) (sealB (sbody (g.turn + 1) (g.turn + 1)))).burn.burnt = false) (hc : d.cs.length < 1000000) (hw : d.wr < 1000000) (hf : d.fl < 1000000) :
    Calls Tryz.prog 100 #[.pointer (some ⟨L, 0, none⟩)] w fun e w' => e = .returned (.int .i64 0) ∧ Pair W Q L D (PL.empty { g with turn := g.turn + 1 }) (d.write (slot g.F (g.turn + 1)) (sealB (sbody (g.turn + 1) (g.turn + 1)))).burn.flush.burn w' ∧ KeepQ Q w w' := by
  have ST := hidm (state_any h)
  rw [show g.err = 0 from by unfold PL.err; rw [hh]; rfl] at ST
  have c4 := h.cells.2.2.2.2.1
  have C4 := hidm c4
  have HD := hidm ((Below.refl w.heap.size w).drew)
  have H1 := hidm (h.later HD.out)
  have K1 := hidm (h.kept HD.out)
  have HOK := hidm h.ok
  have hw1 : IntKind.u64.wrap ((g.turn : Int) + 1) = ((g.turn + 1 : Nat) : Int) := by simp only [IntKind.wrap_u64]; omega
  clear h hh
  go_enter Tryz.func100, Tryz.ntmps100
  go_wp2_with fail
  refine ST.out.mono ?_
  rintro e w1 ⟨rfl, rfl⟩
  go_wp2_with fail
  refine wp_region_held_drew (S := fun u => True) (by kernel_rfl) trivial (fun hHeld => ?_)
  refine Man.take1 (i := 0) (v := ?_) rfl (by kernel_rfl) (by kernel_rfl) (by kernel_rfl) (fun _ _ _ h => h) (by rfl) ?_ (by assumption) ?_
  rotate_left
  · (intro u hSu; (try dsimp only at hSu); go_simp; (try with_reducible rfl))
  (try simp only [Act.put, List.setIfInBounds_toArray, List.set_cons_zero, List.set_cons_succ])
  refine Man.take1 (i := 1) (v := ?_) rfl (by kernel_rfl) (by kernel_rfl) (by kernel_rfl) (fun _ _ _ h => h) (by rfl) ?_ (by assumption) ?_
  rotate_left
  · (intro u hSu; (try dsimp only at hSu); go_simp; (try with_reducible rfl))
  (try simp only [Act.put, List.setIfInBounds_toArray, List.set_cons_zero, List.set_cons_succ])
  refine Man.take1 (i := 2) (v := ?_) rfl (by kernel_rfl) (by kernel_rfl) (by kernel_rfl) (fun _ _ _ h => h) (by rfl) ?_ (by assumption) ?_
  rotate_left
  · (intro u hSu; (try dsimp only at hSu); go_simp; (try with_reducible rfl))
  (try simp only [Act.put, List.setIfInBounds_toArray, List.set_cons_zero, List.set_cons_succ])
  refine Man.take1 (i := 3) (v := ?_) rfl (by kernel_rfl) (by kernel_rfl) (by kernel_rfl) (fun _ _ _ h => h) (by rfl) ?_ (by assumption) ?_
  rotate_left
  · (intro u hSu; (try dsimp only at hSu); go_simp; (try with_reducible rfl))
  (try simp only [Act.put, List.setIfInBounds_toArray, List.set_cons_zero, List.set_cons_succ])
  refine Man.take1 (i := 6) (v := ?_) rfl (by kernel_rfl) (by kernel_rfl) (by kernel_rfl) (fun _ _ _ h => h) (by rfl) ?_ (by assumption) ?_
  rotate_left
  · (intro u hSu; (try dsimp only at hSu); go_simp; (try with_reducible rfl))
  (try simp only [Act.put, List.setIfInBounds_toArray, List.set_cons_zero, List.set_cons_succ])
  refine Man.take1 (i := 7) (v := ?_) rfl (by kernel_rfl) (by kernel_rfl) (by kernel_rfl) (fun _ _ _ h => h) (by rfl) ?_ (by assumption) ?_
  rotate_left
  · (intro u hSu; (try dsimp only at hSu); go_simp; (try with_reducible rfl))
  (try simp only [Act.put, List.setIfInBounds_toArray, List.set_cons_zero, List.set_cons_succ])
  refine Man.take1 (i := 8) (v := ?_) rfl (by kernel_rfl) (by kernel_rfl) (by kernel_rfl) (fun _ _ _ h => h) (by rfl) ?_ (by assumption) ?_
  rotate_left
  · (intro u hSu; (try dsimp only at hSu); go_simp; (try with_reducible rfl))
  (try simp only [Act.put, List.setIfInBounds_toArray, List.set_cons_zero, List.set_cons_succ])
  refine Man.two (i := 4) (j := 9) rfl rfl (by kernel_rfl) (fun K hK => ?_) (fun K hK => ?_)
  · go_simp
    refine hK.out _ _ trivial (fun hNew => ?_)
    clear hK K hHeld
    have hHeld := hNew
    clear hNew
    (try simp only [Act.put, List.setIfInBounds_toArray, List.set_cons_zero, List.set_cons_succ])
    refine Man.take1 (i := 5) (v := ?_) rfl (by kernel_rfl) (by kernel_rfl) (by kernel_rfl) (fun _ _ _ h => h) (by rfl) ?_ (by assumption) ?_
    rotate_left
    · (intro u hSu; (try dsimp only at hSu); go_simp; (try with_reducible rfl))
    (try simp only [Act.put, List.setIfInBounds_toArray, List.set_cons_zero, List.set_cons_succ])
    refine Man.one (i := 9) rfl (by kernel_rfl) (fun K hK => ?_)
    go_simp
    refine hK.out _ _ trivial (fun hNew => ?_)
    clear hK K hHeld
    have hHeld := hNew
    clear hNew
    (try simp only [Act.put, List.setIfInBounds_toArray, List.set_cons_zero, List.set_cons_succ])
    refine Man.take1 (i := 10) (v := ?_) rfl (by kernel_rfl) (by kernel_rfl) (by kernel_rfl) (fun _ _ _ h => h) (by rfl) ?_ (by assumption) ?_
    rotate_left
    · (intro u hSu; (try dsimp only at hSu); go_simp; (try with_reducible rfl))
    (try simp only [Act.put, List.setIfInBounds_toArray, List.set_cons_zero, List.set_cons_succ])
    refine Man.take1 (i := 11) (v := ?_) rfl (by kernel_rfl) (by kernel_rfl) (by kernel_rfl) (fun _ _ _ h => h) (by rfl) ?_ (by assumption) ?_
    rotate_left
    · (intro u hSu; (try dsimp only at hSu); go_simp; (try with_reducible rfl))
    (try simp only [Act.put, List.setIfInBounds_toArray, List.set_cons_zero, List.set_cons_succ])
    refine Man.one (i := 12) rfl (by kernel_rfl) (fun K hK => ?_)
    go_simp
    refine (begin_on H1.out (g.turn + 1) (g.turn + 1) (by omega) (Nat.le_refl _) hd hb hb2 hc hw hf).mono ?_
    rintro e w6 ⟨rfl, h6, k6⟩
    have H6 := hidm h6
    have K6 := hidm (K1.out.trans k6)
    clear h6 k6
    refine hK.out _ _ (trivial) (fun hNew => ?_)
    clear hK K hHeld
    have hHeld := hNew
    clear hNew
    (try simp only [Act.put, List.setIfInBounds_toArray, List.set_cons_zero, List.set_cons_succ])
    refine Man.take1 (i := 13) (v := ?_) rfl (by kernel_rfl) (by kernel_rfl) (by kernel_rfl) (fun _ _ _ h => h) (by rfl) ?_ (by assumption) ?_
    rotate_left
    · (intro u hSu; (try dsimp only at hSu); go_simp; (try with_reducible rfl))
    (try simp only [Act.put, List.setIfInBounds_toArray, List.set_cons_zero, List.set_cons_succ])
    refine wpAnyH_done (by kernel_rfl) ?_ _
    have c5 := H6.out.cell5
    have z5 := H6.out.z 5
    have z6 := H6.out.z 6
    have c6 := H6.out.cells.2.2.2.2.2.1
    have HP := hidm (H6.out.empty)
    obtain ⟨sl, hsl⟩ := c5
    go_wp2_with fail
    go_ret
    exact ⟨rfl, HP.out.1, K6.out.trans HP.out.2⟩
  · go_simp
    refine hK.out _ _ trivial (fun hNew => ?_)
    clear hK K hHeld
    have hHeld := hNew
    clear hNew
    (try simp only [Act.put, List.setIfInBounds_toArray, List.set_cons_zero, List.set_cons_succ])
    refine Man.take1 (i := 10) (v := ?_) rfl (by kernel_rfl) (by kernel_rfl) (by kernel_rfl) (fun _ _ _ h => h) (by rfl) ?_ (by assumption) ?_
    rotate_left
    · (intro u hSu; (try dsimp only at hSu); go_simp; (try with_reducible rfl))
    (try simp only [Act.put, List.setIfInBounds_toArray, List.set_cons_zero, List.set_cons_succ])
    refine Man.one (i := 4) rfl (by kernel_rfl) (fun K hK => ?_)
    go_simp
    refine hK.out _ _ trivial (fun hNew => ?_)
    clear hK K hHeld
    have hHeld := hNew
    clear hNew
    (try simp only [Act.put, List.setIfInBounds_toArray, List.set_cons_zero, List.set_cons_succ])
    refine Man.take1 (i := 5) (v := ?_) rfl (by kernel_rfl) (by kernel_rfl) (by kernel_rfl) (fun _ _ _ h => h) (by rfl) ?_ (by assumption) ?_
    rotate_left
    · (intro u hSu; (try dsimp only at hSu); go_simp; (try with_reducible rfl))
    (try simp only [Act.put, List.setIfInBounds_toArray, List.set_cons_zero, List.set_cons_succ])
    refine Man.take1 (i := 11) (v := ?_) rfl (by kernel_rfl) (by kernel_rfl) (by kernel_rfl) (fun _ _ _ h => h) (by rfl) ?_ (by assumption) ?_
    rotate_left
    · (intro u hSu; (try dsimp only at hSu); go_simp; (try with_reducible rfl))
    (try simp only [Act.put, List.setIfInBounds_toArray, List.set_cons_zero, List.set_cons_succ])
    refine Man.one (i := 12) rfl (by kernel_rfl) (fun K hK => ?_)
    go_simp
    refine (begin_on H1.out (g.turn + 1) (g.turn + 1) (by omega) (Nat.le_refl _) hd hb hb2 hc hw hf).mono ?_
    rintro e w6 ⟨rfl, h6, k6⟩
    have H6 := hidm h6
    have K6 := hidm (K1.out.trans k6)
    clear h6 k6
    refine hK.out _ _ (trivial) (fun hNew => ?_)
    clear hK K hHeld
    have hHeld := hNew
    clear hNew
    (try simp only [Act.put, List.setIfInBounds_toArray, List.set_cons_zero, List.set_cons_succ])
    refine Man.take1 (i := 13) (v := ?_) rfl (by kernel_rfl) (by kernel_rfl) (by kernel_rfl) (fun _ _ _ h => h) (by rfl) ?_ (by assumption) ?_
    rotate_left
    · (intro u hSu; (try dsimp only at hSu); go_simp; (try with_reducible rfl))
    (try simp only [Act.put, List.setIfInBounds_toArray, List.set_cons_zero, List.set_cons_succ])
    refine wpAnyH_done (by kernel_rfl) ?_ _
    have c5 := H6.out.cell5
    have z5 := H6.out.z 5
    have z6 := H6.out.z 6
    have c6 := H6.out.cells.2.2.2.2.2.1
    have HP := hidm (H6.out.empty)
    obtain ⟨sl, hsl⟩ := c5
    go_wp2_with fail
    go_ret
    exact ⟨rfl, HP.out.1, K6.out.trans HP.out.2⟩
end
end Wal
end Go.Proofs.YtmccnlffikegfaaGreatDoor
