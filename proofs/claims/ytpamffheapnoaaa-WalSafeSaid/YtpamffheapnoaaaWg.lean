/- A reader's Uint in any state; slotOf. Condition: the text is at most 2^20 bytes long. -/
import Derived.Test.YtpamffheapnoaaaWf
import Derived.Test.YtpamffheapnoaaaWq
namespace Go.Proofs.Ytpamffheapnoaaa
open Go.RowKit
namespace Wal
open Cod (uB num Rdr But err_any left_any number_any new_any m_u_open m_u_shut VNat num_err read_ok Call)
open Crc (S S_of S_size S_append S_add hidm)
/-- What a reader of l at the place q.1, with the error q.2, tells as a number, and what it is then. -/
def stU (l : List UInt8) (q : Nat × Nat) : Nat × (Nat × Nat) :=
  if q.2 = 0 then
    match num 0 0 (l.drop q.1) with
    | .ok (v, t) => (v, (l.length - t.length, 0))
    | .error x => (0, (q.1, x))
  else (0, q)
theorem stU_le {l : List UInt8} {q : Nat × Nat} (h : q.1 ≤ l.length) : (stU l q).2.1 ≤ l.length := by
  unfold stU
  split
  · split
    · simp only; omega
    · exact h
  · exact h
theorem stU_lt (l : List UInt8) (q : Nat × Nat) : (stU l q).1 < 18446744073709551616 := by
  unfold stU
  split
  · split
    · rename_i v t h
      exact (read_ok h).2
    · simp only; omega
  · simp only; omega
theorem rstep (r : Nat) (s : ByteArray) (p e : Nat) (w : World) (h : Rdr r s (p : Int) (e : Int) w) (hp : p ≤ s.size) (hs : s.size ≤ 9223372036854775807) :
    Calls Try.prog 63 #[.pointer (some ⟨r, 0, none⟩)] w fun en w' => en = .returned (.int .u64 ((stU s.data.toList (p, e)).1 : Int)) ∧ Rdr r s ((stU s.data.toList (p, e)).2.1 : Int) ((stU s.data.toList (p, e)).2.2 : Int) w' ∧ But r w w' := by
  unfold stU
  by_cases he : e = 0
  · subst he
    simp only [if_true]
    have h0 : Rdr r s (p : Int) 0 w := h
    refine (m_u_open r s p w h0 VNat (num 0 0 (s.data.toList.drop p)) (fun w1 h1 => number_any r s p 0 w1 h1 hp hs)).mono ?_
    rw [len_eq]
    cases num 0 0 (s.data.toList.drop p) with
    | ok a =>
      obtain ⟨v, t⟩ := a
      rintro en w1 ⟨v', rfl, hv, hr, hb⟩
      exact ⟨by rw [show v' = .int .u64 v from hv], hr, hb⟩
    | error x =>
      rintro en w1 ⟨rfl, hr, hb⟩
      exact ⟨rfl, hr, hb⟩
  · rw [if_neg he]
    refine (m_u_shut r s p e (by simpa using he) w h).mono ?_
    rintro en w1 ⟨rfl, hb⟩
    exact ⟨rfl, h.later hb, .of hb⟩
theorem slot_st (l : List UInt8) : slotB l = (if (stU l (stU l (0, 0)).2).2.2 = 0 ∧ ¬ 0 < l.length - (stU l (stU l (0, 0)).2).2.1 ∧ ¬ 1099511627776 < (stU l (0, 0)).1 ∧ ¬ (stU l (0, 0)).1 < (stU l (stU l (0, 0)).2).1 then ((stU l (0, 0)).1, (stU l (stU l (0, 0)).2).1) else (0, 0)) := by
  have hd0 : l.drop 0 = l := rfl
  cases h1 : num 0 0 l with
  | error x =>
    have hx : x ≠ 0 := by rcases num_err l 0 0 x h1 with h | h <;> omega
    have e1 : stU l (0, 0) = (0, (0, x)) := by simp only [stU, if_true, hd0, h1]
    have e2 : stU l (0, x) = (0, (0, x)) := by simp only [stU]; rw [if_neg hx]
    rw [e1]
    simp only [e2]
    rw [if_neg (fun h => hx h.1)]
    unfold slotB
    rw [h1]
  | ok a =>
    obtain ⟨t, l1⟩ := a
    have hl1 := (read_ok h1).1
    have hlen : l.length = (uB t).length + l1.length := by rw [hl1, List.length_append]
    have hdr : l.drop (l.length - l1.length) = l1 := by
      rw [show l.length - l1.length = (uB t).length by omega]
      conv => lhs; rw [hl1]
      exact List.drop_left
    have e1 : stU l (0, 0) = (t, (l.length - l1.length, 0)) := by simp only [stU, if_true, hd0, h1]
    rw [e1]
    cases h2 : num 0 0 l1 with
    | error x =>
      have hx : x ≠ 0 := by rcases num_err l1 0 0 x h2 with h | h <;> omega
      have e2 : stU l (l.length - l1.length, 0) = (0, (l.length - l1.length, x)) := by simp only [stU, if_true, hdr, h2]
      simp only [e2]
      rw [if_neg (fun h => hx h.1)]
      unfold slotB
      rw [h1]
      simp only [h2]
    | ok c =>
      obtain ⟨b, l2⟩ := c
      have hl2 := (read_ok h2).1
      have hlen2 : l1.length = (uB b).length + l2.length := by rw [hl2, List.length_append]
      have e2 : stU l (l.length - l1.length, 0) = (b, (l.length - l2.length, 0)) := by simp only [stU, if_true, hdr, h2]
      simp only [e2]
      unfold slotB
      rw [h1]
      simp only [h2]
      have hiff : (l2 = [] ∧ t ≤ 1099511627776 ∧ b ≤ t) ↔ (True ∧ ¬ 0 < l.length - (l.length - l2.length) ∧ ¬ 1099511627776 < t ∧ ¬ t < b) := by
        constructor
        · rintro ⟨g1, g2, g3⟩
          have g0 : l2.length = 0 := by rw [g1]; rfl
          exact ⟨trivial, by omega, by omega, by omega⟩
        · rintro ⟨_, g1, g2, g3⟩
          exact ⟨List.length_eq_zero_iff.1 (by omega), by omega, by omega⟩
      by_cases hc : l2 = [] ∧ t ≤ 1099511627776 ∧ b ≤ t
      · rw [if_pos hc, if_pos (hiff.1 hc)]
      · rw [if_neg hc, if_neg (fun h => hc (hiff.2 h))]
def slotRow (B : Nat) (t b : Int) (w : World) : Prop := w.heap[B]? = some (.cells #[.int .u64 t, .int .u64 b] 63 (0, 0))
section
variable {B : Nat} {t b : Int} {w w' : World}
theorem slotRow.c0 (h : slotRow B t b w) : w.cell? ⟨B, 0, none⟩ = some (.int .u64 t) := cell_of_row w B 0 _ _ (0, 0) h
theorem slotRow.c1 (h : slotRow B t b w) : w.cell? ⟨B, 1, none⟩ = some (.int .u64 b) := cell_of_row w B 1 _ _ (0, 0) h
theorem slotRow.z (h : slotRow B t b w) (j : Nat) : w.frozen? ⟨B, j, none⟩ = false := frozen_of_row w B j _ _ h
theorem slotRow.keep (h : slotRow B t b w) (hk : w'.heap[B]? = w.heap[B]?) : slotRow B t b w' := hk.trans h
theorem slotRow.later (h : slotRow B t b w) (hb : Below w.heap.size w w') : slotRow B t b w' := Cod.below_keeps hb h
theorem slotRow.but {r : Nat} (h : slotRow B t b w) (hb : But r w w') (hn : B ≠ r) : slotRow B t b w' := hb.keeps hn h
theorem slotRow.new (w : World) (t b : Int) : slotRow w.heap.size t b (w.alloc (.cells #[.int .u64 t, .int .u64 b] 63)) := heap_alloc_last w _
theorem slotRow.set (h : slotRow B t b w) (x y : Int) : slotRow B x y ((w.setCell ⟨B, 0, none⟩ (.int .u64 x)).setCell ⟨B, 1, none⟩ (.int .u64 y)) := by
  have h1 := heap_setCell_same w B 0 _ _ (.int .u64 x) h
  exact heap_setCell_same _ B 1 _ _ (.int .u64 y) h1
end
set_option maxHeartbeats 4000000 in
set_option maxRecDepth 100000 in
theorem slotof_any (s : ByteArray) (hs : s.size ≤ 1048576) (w : World) :
    Calls Try.prog 49 #[.string s] w fun e w' => e = .returned (.agg #[.int .u64 ((slotP s.data.toList).1 : Int), .int .u64 ((slotP s.data.toList).2 : Int)]) ∧ Below w.heap.size w w' := by
  obtain ⟨X, hX⟩ : ∃ X, X = slotP s.data.toList := ⟨_, rfl⟩
  rw [← hX]
  unfold slotP at hX
  have hmk := fun w => marked_any 83 s (by omega) w
  obtain ⟨M, hM⟩ : ∃ M, M = mk 83 s.data.toList := ⟨_, rfl⟩
  rw [← hM] at hX hmk
  clear hM
  go_enter Try.func49, Try.ntmps49
  go_wp2_with fail
  refine (hmk _).mono ?_
  rintro e w1 ⟨v, rfl, hv, hvs, hb⟩
  have HB := hidm (((Below.refl w.heap.size w).alloc (Nat.le_refl _) (.cells #[.int .u64 0, .int .u64 0] 63)).trans (hb.mono (by simp)))
  have HZ := hidm ((slotRow.new w 0 0).later hb)
  have hsz1 : w.heap.size < w1.heap.size := lt_of_block HZ.out
  clear hb hmk
  cases M with
  | none =>
    have hX0 : X = (0, 0) := hX
    have z0 := HZ.out.z
    have a0 := HZ.out.c0
    have a1 := HZ.out.c1
    go_wp2_with fail
    have HP := HZ.out.set 0 0
    have p0 := HP.c0
    have p1 := HP.c1
    show bodyPost _ _ _ _ _ ((World.setCell w1 ⟨w.heap.size, 0, none⟩ (.int .u64 0)).setCell ⟨w.heap.size, 1, none⟩ (.int .u64 0))
    refine bodyPost_ret (v := .agg #[.int .u64 0, .int .u64 0]) (by simp [results, Try.results49, go_sem, p0, p1]) rfl ?_
    refine ⟨by rw [hX0] <;> rfl, (HB.out.setCell (p := ⟨w.heap.size, 0, none⟩) (Nat.le_refl _) _).setCell (p := ⟨w.heap.size, 1, none⟩) (Nat.le_refl _) _⟩
  | some l =>
    have hvl : v = S l := hv l rfl
    have hlv : v.data.toList = l := by rw [hvl]
    have hX1 : X = slotB l := hX
    rw [slot_st, ← hlv] at hX1
    clear hv hvl hlv hX
    go_wp2_with fail
    refine (new_any v w1 (by omega)).mono ?_
    rintro e w2 ⟨r, hr, rfl, hR, hb⟩
    have hrl : r < w2.heap.size := hR.lt
    have HB2 := hidm (HB.out.trans (hb.mono HB.out.size))
    have HZ2 := hidm (HZ.out.later hb)
    have HR2 := hidm (show Rdr r v ((0 : Nat) : Int) ((0 : Nat) : Int) w2 from hR)
    clear hb HB HZ hR
    have hq0 : (0 : Nat) ≤ v.data.toList.length := Nat.zero_le _
    go_wp2_with fail
    refine (rstep r v 0 0 w2 HR2.out (Nat.zero_le _) (by omega)).mono ?_
    rintro e w3 ⟨rfl, hR, hb⟩
    have hle1 := stU_le (l := v.data.toList) (q := (0, 0)) hq0
    have hlt1 := stU_lt v.data.toList (0, 0)
    obtain ⟨t, p1, e1, h1⟩ : ∃ t p1 e1, stU v.data.toList (0, 0) = (t, (p1, e1)) := ⟨_, _, _, rfl⟩
    rw [h1] at hR hle1 hX1 hlt1 ⊢
    have HB3 := hidm (hb.below (B := w.heap.size) (by omega) HB2.out.size)
    have HB3 := hidm (HB2.out.trans HB3.out)
    have HZ3 := hidm (HZ2.out.but hb (by omega))
    have HR3 := hidm hR
    have hsz3 := hb.size
    clear hb hR HB2 HZ2 HR2 h1
    simp only at hle1 hX1 hlt1 ⊢
    go_wp2_with fail
    refine (rstep r v p1 e1 w3 HR3.out (by rw [len_eq] at hle1; exact hle1) (by omega)).mono ?_
    rintro e w4 ⟨rfl, hR, hb⟩
    have hle2 := stU_le (l := v.data.toList) (q := (p1, e1)) hle1
    have hlt2 := stU_lt v.data.toList (p1, e1)
    obtain ⟨b, p2, e2, h2⟩ : ∃ b p2 e2, stU v.data.toList (p1, e1) = (b, (p2, e2)) := ⟨_, _, _, rfl⟩
    rw [h2] at hR hle2 hX1 hlt2 ⊢
    simp only [len_eq] at hle2 hX1 hlt2 ⊢
    have HB4 := hidm (HB3.out.trans (hb.below (B := w.heap.size) (by omega) HB3.out.size))
    have HZ4 := hidm (HZ3.out.but hb (by omega))
    have hsz4 := hb.size
    have HBa := hidm (HB4.out.alloc HB4.out.size (.cells #[.int .u64 (t : Int), .int .u64 (b : Int)] 63))
    have HZa := hidm (HZ4.out.later ((Below.refl _ _).alloc (Nat.le_refl _) (.cells #[.int .u64 (t : Int), .int .u64 (b : Int)] 63)))
    have HRa := hidm (hR.past (.cells #[.int .u64 (t : Int), .int .u64 (b : Int)] 63))
    have HSa := hidm (slotRow.new w4 (t : Int) (b : Int))
    clear hb hR HB3 HZ3 HR3 h2 HB4 HZ4
    go_wp2_with fail
    refine (err_any r v p2 e2 _ HRa.out).mono ?_
    rintro e w5 ⟨rfl, rfl⟩
    by_cases he : e2 = 0
    · subst he
      simp only [true_and] at hX1
      have g1 : (((0 : Nat) : Int) != 0) = false := rfl
      go_wp2_with fail
      refine (left_any r v p2 _ _ HRa.out hle2 (by omega)).mono ?_
      rintro e w6 ⟨rfl, hb⟩
      have HB6 := hidm (HBa.out.trans (hb.mono HBa.out.size))
      have HZ6 := hidm (HZa.out.later hb)
      have HS6 := hidm (HSa.out.later hb)
      clear hb HBa HZa HRa HSa
      obtain ⟨k, hk⟩ : ∃ k, k = v.size - p2 := ⟨_, rfl⟩
      rw [← hk] at hX1 ⊢
      clear hk
      by_cases hk0 : 0 < k
      · have g2 : (0 : Int) < (k : Int) := by omega
        have hX0 : X = (0, 0) := by rw [hX1, if_neg (fun h => h.1 hk0)]
        have z0 := HZ6.out.z
        have a0 := HZ6.out.c0
        have a1 := HZ6.out.c1
        go_wp2_with fail
        have HP := HZ6.out.set 0 0
        have p0 := HP.c0
        have p1 := HP.c1
        show bodyPost _ _ _ _ _ ((World.setCell w6 ⟨w.heap.size, 0, none⟩ (.int .u64 0)).setCell ⟨w.heap.size, 1, none⟩ (.int .u64 0))
        refine bodyPost_ret (v := .agg #[.int .u64 0, .int .u64 0]) (by simp [results, Try.results49, go_sem, p0, p1]) rfl ?_
        refine ⟨by rw [hX0] <;> rfl, (HB6.out.setCell (p := ⟨w.heap.size, 0, none⟩) (Nat.le_refl _) _).setCell (p := ⟨w.heap.size, 1, none⟩) (Nat.le_refl _) _⟩
      · have g2 : ¬ (0 : Int) < (k : Int) := by omega
        have s0 := HS6.out.c0
        have s1 := HS6.out.c1
        by_cases ht : 1099511627776 < t
        · have g3 : (1099511627776 : Int) < (t : Int) := by omega
          have hX0 : X = (0, 0) := by rw [hX1, if_neg (fun h => h.2.1 ht)]
          have z0 := HZ6.out.z
          have a0 := HZ6.out.c0
          have a1 := HZ6.out.c1
          go_wp2_with fail
          have HP := HZ6.out.set 0 0
          have p0 := HP.c0
          have p1 := HP.c1
          show bodyPost _ _ _ _ _ ((World.setCell w6 ⟨w.heap.size, 0, none⟩ (.int .u64 0)).setCell ⟨w.heap.size, 1, none⟩ (.int .u64 0))
          refine bodyPost_ret (v := .agg #[.int .u64 0, .int .u64 0]) (by simp [results, Try.results49, go_sem, p0, p1]) rfl ?_
          refine ⟨by rw [hX0] <;> rfl, (HB6.out.setCell (p := ⟨w.heap.size, 0, none⟩) (Nat.le_refl _) _).setCell (p := ⟨w.heap.size, 1, none⟩) (Nat.le_refl _) _⟩
        · have g3 : ¬ (1099511627776 : Int) < (t : Int) := by omega
          by_cases hbt : t < b
          · have g4 : (t : Int) < (b : Int) := by omega
            have hX0 : X = (0, 0) := by rw [hX1, if_neg (fun h => h.2.2 hbt)]
            have z0 := HZ6.out.z
            have a0 := HZ6.out.c0
            have a1 := HZ6.out.c1
            go_wp2_with fail
            have HP := HZ6.out.set 0 0
            have p0 := HP.c0
            have p1 := HP.c1
            show bodyPost _ _ _ _ _ ((World.setCell w6 ⟨w.heap.size, 0, none⟩ (.int .u64 0)).setCell ⟨w.heap.size, 1, none⟩ (.int .u64 0))
            refine bodyPost_ret (v := .agg #[.int .u64 0, .int .u64 0]) (by simp [results, Try.results49, go_sem, p0, p1]) rfl ?_
            refine ⟨by rw [hX0] <;> rfl, (HB6.out.setCell (p := ⟨w.heap.size, 0, none⟩) (Nat.le_refl _) _).setCell (p := ⟨w.heap.size, 1, none⟩) (Nat.le_refl _) _⟩
          · have g4 : ¬ (t : Int) < (b : Int) := by omega
            have hX0 : X = (t, b) := by rw [hX1, if_pos ⟨hk0, ht, hbt⟩]
            have z0 := HZ6.out.z
            have a0 := HZ6.out.c0
            have a1 := HZ6.out.c1
            go_wp2_with fail
            have HP := HZ6.out.set (t : Int) (b : Int)
            have p0 := HP.c0
            have p1 := HP.c1
            show bodyPost _ _ _ _ _ ((World.setCell w6 ⟨w.heap.size, 0, none⟩ (.int .u64 (t : Int))).setCell ⟨w.heap.size, 1, none⟩ (.int .u64 (b : Int)))
            refine bodyPost_ret (v := .agg #[.int .u64 (t : Int), .int .u64 (b : Int)]) (by simp [results, Try.results49, go_sem, p0, p1]) rfl ?_
            refine ⟨by rw [hX0] <;> rfl, (HB6.out.setCell (p := ⟨w.heap.size, 0, none⟩) (Nat.le_refl _) _).setCell (p := ⟨w.heap.size, 1, none⟩) (Nat.le_refl _) _⟩
    · have g1 : ((e2 : Int) != 0) = true := by simpa using he
      have hX0 : X = (0, 0) := by rw [hX1, if_neg (fun h => he h.1)]
      have z0 := HZa.out.z
      have a0 := HZa.out.c0
      have a1 := HZa.out.c1
      go_wp2_with fail
      have HP := HZa.out.set 0 0
      have p0 := HP.c0
      have p1 := HP.c1
      show bodyPost _ _ _ _ _ ((World.setCell _ ⟨w.heap.size, 0, none⟩ (.int .u64 0)).setCell ⟨w.heap.size, 1, none⟩ (.int .u64 0))
      refine bodyPost_ret (v := .agg #[.int .u64 0, .int .u64 0]) (by simp [results, Try.results49, go_sem, p0, p1]) rfl ?_
      refine ⟨by rw [hX0] <;> rfl, (HBa.out.setCell (p := ⟨w.heap.size, 0, none⟩) (Nat.le_refl _) _).setCell (p := ⟨w.heap.size, 1, none⟩) (Nat.le_refl _) _⟩
end Wal
end Go.Proofs.Ytpamffheapnoaaa
