/- A reader's Uint in any state; slotOf. Condition: the text is at most 2^20 bytes long. -/
import Derived.Test.YtmccnlffikegfaaGreatDoorZWdto
import Derived.Test.YtmccnlffikegfaaGreatDoorZWq
namespace Go.Proofs.YtmccnlffikegfaaGreatDoor
open Go.RowKit
namespace Wal
open Cod (uB num Rdr But err_any left_any number_any new_any m_u_open m_u_shut VNat num_err read_ok Call)
open Crc (S S_of S_size S_append S_add hidm)
/-- What a reader of l at the place q.1, with the error q.2, tells as a number, and what it is then. -/
def stU (l : List UInt8) (q : Nat × Nat) : Nat × (Nat × Nat) :=
  if q.2 = 0 then
    match num 0 0 (l.drop q.1) with
    | .ok (v, t) => (v, (l.length - t.length, 0))
    | .error x => (0, (q.1, x))
  else (0, q)
theorem stU_le {l : List UInt8} {q : Nat × Nat} (h : q.1 ≤ l.length) : (stU l q).2.1 ≤ l.length := by
  unfold stU
  split
  · split
    · simp only; omega
    · exact h
  · exact h
theorem stU_lt (l : List UInt8) (q : Nat × Nat) : (stU l q).1 < 18446744073709551616 := by
  unfold stU
  split
  · split
    · rename_i v t h
      exact (read_ok h).2
    · simp only; omega
  · simp only; omega
theorem rstep (r : Nat) (s : ByteArray) (p e : Nat) (w : World) (h : Rdr r s (p : Int) (e : Int) w) (hp : p ≤ s.size) (hs : s.size ≤ 9223372036854775807) :
    Calls Tryz.prog 95 #[.pointer (some ⟨r, 0, none⟩)] w fun en w' => en = .returned (.int .u64 ((stU s.data.toList (p, e)).1 : Int)) ∧ Rdr r s ((stU s.data.toList (p, e)).2.1 : Int) ((stU s.data.toList (p, e)).2.2 : Int) w' ∧ But r w w' := by
  unfold stU
  by_cases he : e = 0
  · subst he
    simp only [if_true]
    have h0 : Rdr r s (p : Int) 0 w := h
    refine (m_u_open r s p w h0 VNat (num 0 0 (s.data.toList.drop p)) (fun w1 h1 => number_any r s p 0 w1 h1 hp hs)).mono ?_
    rw [len_eq]
    cases num 0 0 (s.data.toList.drop p) with
    | ok a =>
      obtain ⟨v, t⟩ := a
      rintro en w1 ⟨v', rfl, hv, hr, hb⟩
      exact ⟨by rw [show v' = .int .u64 v from hv], hr, hb⟩
    | error x =>
      rintro en w1 ⟨rfl, hr, hb⟩
      exact ⟨rfl, hr, hb⟩
  · rw [if_neg he]
    refine (m_u_shut r s p e (by simpa using he) w h).mono ?_
    rintro en w1 ⟨rfl, hb⟩
    exact ⟨rfl, h.later hb, .of hb⟩
theorem slot_st (l : List UInt8) : slotB l = (if (stU l (stU l (0, 0)).2).2.2 = 0 ∧ ¬ 0 < l.length - (stU l (stU l (0, 0)).2).2.1 ∧ ¬ 1099511627776 < (stU l (0, 0)).1 ∧ ¬ (stU l (0, 0)).1 < (stU l (stU l (0, 0)).2).1 then ((stU l (0, 0)).1, (stU l (stU l (0, 0)).2).1) else (0, 0)) := by
  have hd0 : l.drop 0 = l := rfl
  cases h1 : num 0 0 l with
  | error x =>
    have hx : x ≠ 0 := by rcases num_err l 0 0 x h1 with h | h <;> omega
    have e1 : stU l (0, 0) = (0, (0, x)) := by simp only [stU, if_true, hd0, h1]
    have e2 : stU l (0, x) = (0, (0, x)) := by simp only [stU]; rw [if_neg hx]
    rw [e1]
    simp only [e2]
    rw [if_neg (fun h => hx h.1)]
    unfold slotB
    rw [h1]
  | ok a =>
    obtain ⟨t, l1⟩ := a
    have hl1 := (read_ok h1).1
    have hlen : l.length = (uB t).length + l1.length := by rw [hl1, List.length_append]
    have hdr : l.drop (l.length - l1.length) = l1 := by
      rw [show l.length - l1.length = (uB t).length by omega]
      conv => lhs; rw [hl1]
      exact List.drop_left
    have e1 : stU l (0, 0) = (t, (l.length - l1.length, 0)) := by simp only [stU, if_true, hd0, h1]
    rw [e1]
    cases h2 : num 0 0 l1 with
    | error x =>
      have hx : x ≠ 0 := by rcases num_err l1 0 0 x h2 with h | h <;> omega
      have e2 : stU l (l.length - l1.length, 0) = (0, (l.length - l1.length, x)) := by simp only [stU, if_true, hdr, h2]
      simp only [e2]
      rw [if_neg (fun h => hx h.1)]
      unfold slotB
      rw [h1]
      simp only [h2]
    | ok c =>
      obtain ⟨b, l2⟩ := c
      have hl2 := (read_ok h2).1
      have hlen2 : l1.length = (uB b).length + l2.length := by rw [hl2, List.length_append]
      have e2 : stU l (l.length - l1.length, 0) = (b, (l.length - l2.length, 0)) := by simp only [stU, if_true, hdr, h2]
      simp only [e2]
      unfold slotB
      rw [h1]
      simp only [h2]
      have hiff : (l2 = [] ∧ t ≤ 1099511627776 ∧ b ≤ t) ↔ (True ∧ ¬ 0 < l.length - (l.length - l2.length) ∧ ¬ 1099511627776 < t ∧ ¬ t < b) := by
        constructor
        · rintro ⟨g1, g2, g3⟩
          have g0 : l2.length = 0 := by rw [g1]; rfl
          exact ⟨trivial, by omega, by omega, by omega⟩
        · rintro ⟨_, g1, g2, g3⟩
          exact ⟨List.length_eq_zero_iff.1 (by omega), by omega, by omega⟩
      by_cases hc : l2 = [] ∧ t ≤ 1099511627776 ∧ b ≤ t
      · rw [if_pos hc, if_pos (hiff.1 hc)]
      · rw [if_neg hc, if_neg (fun h => hc (hiff.2 h))]
def slotRow (B : Nat) (t b : Int) (w : World) : Prop := w.heap[B]? = some (.cells #[.int .u64 t, .int .u64 b] 118 (0, 0))
section
variable {B : Nat} {t b : Int} {w w' : World}
theorem slotRow.c0 (h : slotRow B t b w) : w.cell? ⟨B, 0, none⟩ = some (.int .u64 t) := cell_of_row w B 0 _ _ (0, 0) h
theorem slotRow.c1 (h : slotRow B t b w) : w.cell? ⟨B, 1, none⟩ = some (.int .u64 b) := cell_of_row w B 1 _ _ (0, 0) h
theorem slotRow.z (h : slotRow B t b w) (j : Nat) : w.frozen? ⟨B, j, none⟩ = false := frozen_of_row w B j _ _ h
theorem slotRow.keep (h : slotRow B t b w) (hk : w'.heap[B]? = w.heap[B]?) : slotRow B t b w' := hk.trans h
theorem slotRow.later (h : slotRow B t b w) (hb : Below w.heap.size w w') : slotRow B t b w' := Cod.below_keeps hb h
theorem slotRow.but {r : Nat} (h : slotRow B t b w) (hb : But r w w') (hn : B ≠ r) : slotRow B t b w' := hb.keeps hn h
theorem slotRow.new (w : World) (t b : Int) : slotRow w.heap.size t b (w.alloc (.cells #[.int .u64 t, .int .u64 b] 118)) := heap_alloc_last w _
theorem slotRow.set (h : slotRow B t b w) (x y : Int) : slotRow B x y ((w.setCell ⟨B, 0, none⟩ (.int .u64 x)).setCell ⟨B, 1, none⟩ (.int .u64 y)) := by
  have h1 := heap_setCell_same w B 0 _ _ (.int .u64 x) h
  exact heap_setCell_same _ B 1 _ _ (.int .u64 y) h1
end
set_option maxHeartbeats 4000000 in
set_option maxRecDepth 100000 in
theorem slotof_any (s : ByteArray) (hs : s.size ≤ 1048576) (w : World) :
    Calls Tryz.prog 85 #[.string s] w fun e w' => e = .returned (.agg #[.int .u64 ((slotP s.data.toList).1 : Int), .int .u64 ((slotP s.data.toList).2 : Int)]) ∧ Below w.heap.size w w' := by
  obtain ⟨X, hX⟩ : ∃ X, X = slotP s.data.toList := ⟨_, rfl⟩
  rw [← hX]
  unfold slotP at hX
  have hmk := fun w => marked_any 83 s (by omega) w
  obtain ⟨M, hM⟩ : ∃ M, M = mk 83 s.data.toList := ⟨_, rfl⟩
  rw [← hM] at hX hmk
  clear hM
  go_enter Tryz.func85, Tryz.ntmps85
  go_wp2_with fail
  refine (hmk _).mono ?_
  rintro e w1 ⟨v, rfl, hv, hvs, hb⟩
  have HB := hidm (((Below.refl w.heap.size w).alloc (Nat.le_refl _) (.cells #[.int .u64 0, .int .u64 0] 118)).trans (hb.mono (by simp)))
  have HZ := hidm ((slotRow.new w 0 0).later hb)
  have hsz1 : w.heap.size < w1.heap.size := lt_of_block HZ.out
  clear hb hmk
  cases M with
  | none =>
    have hX0 : X = (0, 0) := hX
    have z0 := HZ.out.z
    have a0 := HZ.out.c0
    have a1 := HZ.out.c1
    go_wp2_with fail
    have HP := HZ.out.set 0 0
    have p0 := HP.c0
    have p1 := HP.c1
    show bodyPost _ _ _ _ _ ((World.setCell w1 ⟨w.heap.size, 0, none⟩ (.int .u64 0)).setCell ⟨w.heap.size, 1, none⟩ (.int .u64 0))
    refine bodyPost_ret (v := .agg #[.int .u64 0, .int .u64 0]) (by simp [results, Tryz.results85, go_sem, p0, p1]) rfl ?_
    refine ⟨by rw [hX0] <;> rfl, (HB.out.setCell (p := ⟨w.heap.size, 0, none⟩) (Nat.le_refl _) _).setCell (p := ⟨w.heap.size, 1, none⟩) (Nat.le_refl _) _⟩
  | some l =>
    have hvl : v = S l := hv l rfl
    have hlv : v.data.toList = l := by rw [hvl]
    have hX1 : X = slotB l := hX
    rw [slot_st, ← hlv] at hX1
    clear hv hvl hlv hX
    go_wp2_with fail
    refine (new_any v w1 (by omega)).mono ?_
    rintro e w2 ⟨r, hr, rfl, hR, hb⟩
    have hrl : r < w2.heap.size := hR.lt
    have HB2 := hidm (HB.out.trans (hb.mono HB.out.size))
    have HZ2 := hidm (HZ.out.later hb)
    have HR2 := hidm (show Rdr r v ((0 : Nat) : Int) ((0 : Nat) : Int) w2 from hR)
    clear hb HB HZ hR
    have hq0 : (0 : Nat) ≤ v.data.toList.length := Nat.zero_le _
    go_wp2_with fail
    refine (rstep r v 0 0 w2 HR2.out (Nat.zero_le _) (by omega)).mono ?_
    rintro e w3 ⟨rfl, hR, hb⟩
    have hle1 := stU_le (l := v.data.toList) (q := (0, 0)) hq0
    have hlt1 := stU_lt v.data.toList (0, 0)
    obtain ⟨t, p1, e1, h1⟩ : ∃ t p1 e1, stU v.data.toList (0, 0) = (t, (p1, e1)) := ⟨_, _, _, rfl⟩
    rw [h1] at hR hle1 hX1 hlt1 ⊢
    have HB3 := hidm (hb.below (B := w.heap.size) (by omega) HB2.out.size)
    have HB3 := hidm (HB2.out.trans HB3.out)
    have HZ3 := hidm (HZ2.out.but hb (by omega))
    have HR3 := hidm hR
    have hsz3 := hb.size
    clear hb hR HB2 HZ2 HR2 h1
    simp only at hle1 hX1 hlt1 ⊢
    go_wp2_with fail
    refine (rstep r v p1 e1 w3 HR3.out (by rw [len_eq] at hle1; exact hle1) (by omega)).mono ?_
    rintro e w4 ⟨rfl, hR, hb⟩
    have hle2 := stU_le (l := v.data.toList) (q := (p1, e1)) hle1
    have hlt2 := stU_lt v.data.toList (p1, e1)
    obtain ⟨b, p2, e2, h2⟩ : ∃ b p2 e2, stU v.data.toList (p1, e1) = (b, (p2, e2)) := ⟨_, _, _, rfl⟩
    rw [h2] at hR hle2 hX1 hlt2 ⊢
    simp only [len_eq] at hle2 hX1 hlt2 ⊢
    have HB4 := hidm (HB3.out.trans (hb.below (B := w.heap.size) (by omega) HB3.out.size))
    have HZ4 := hidm (HZ3.out.but hb (by omega))
    have hsz4 := hb.size
    have HBa := hidm (HB4.out.alloc HB4.out.size (.cells #[.int .u64 (t : Int), .int .u64 (b : Int)] 118))
    have HZa := hidm (HZ4.out.later ((Below.refl _ _).alloc (Nat.le_refl _) (.cells #[.int .u64 (t : Int), .int .u64 (b : Int)] 118)))
    have HRa := hidm (hR.past (.cells #[.int .u64 (t : Int), .int .u64 (b : Int)] 118))
    have HSa := hidm (slotRow.new w4 (t : Int) (b : Int))
    clear hb hR HB3 HZ3 HR3 h2 HB4 HZ4
    go_wp2_with fail
    refine (err_any r v p2 e2 _ HRa.out).mono ?_
    rintro e w5 ⟨rfl, rfl⟩
    by_cases he : e2 = 0
    · subst he
      simp only [true_and] at hX1
      have g1 : (((0 : Nat) : Int) != 0) = false := rfl
      go_wp2_with fail
      refine (left_any r v p2 _ _ HRa.out hle2 (by omega)).mono ?_
      rintro e w6 ⟨rfl, hb⟩
      have HB6 := hidm (HBa.out.trans (hb.mono HBa.out.size))
      have HZ6 := hidm (HZa.out.later hb)
      have HS6 := hidm (HSa.out.later hb)
      clear hb HBa HZa HRa HSa
      obtain ⟨k, hk⟩ : ∃ k, k = v.size - p2 := ⟨_, rfl⟩
      rw [← hk] at hX1 ⊢
      clear hk
      by_cases hk0 : 0 < k
      · have g2 : (0 : Int) < (k : Int) := by omega
        have hX0 : X = (0, 0) := by rw [hX1, if_neg (fun h => h.1 hk0)]
        have z0 := HZ6.out.z
        have a0 := HZ6.out.c0
        have a1 := HZ6.out.c1
        go_wp2_with fail
        have HP := HZ6.out.set 0 0
        have p0 := HP.c0
        have p1 := HP.c1
        show bodyPost _ _ _ _ _ ((World.setCell w6 ⟨w.heap.size, 0, none⟩ (.int .u64 0)).setCell ⟨w.heap.size, 1, none⟩ (.int .u64 0))
        refine bodyPost_ret (v := .agg #[.int .u64 0, .int .u64 0]) (by simp [results, Tryz.results85, go_sem, p0, p1]) rfl ?_
        refine ⟨by rw [hX0] <;> rfl, (HB6.out.setCell (p := ⟨w.heap.size, 0, none⟩) (Nat.le_refl _) _).setCell (p := ⟨w.heap.size, 1, none⟩) (Nat.le_refl _) _⟩
      · have g2 : ¬ (0 : Int) < (k : Int) := by omega
        have s0 := HS6.out.c0
        have s1 := HS6.out.c1
        by_cases ht : 1099511627776 < t
        · have g3 : (1099511627776 : Int) < (t : Int) := by omega
          have hX0 : X = (0, 0) := by rw [hX1, if_neg (fun h => h.2.1 ht)]
          have z0 := HZ6.out.z
          have a0 := HZ6.out.c0
          have a1 := HZ6.out.c1
          go_wp2_with fail
          have HP := HZ6.out.set 0 0
          have p0 := HP.c0
          have p1 := HP.c1
          show bodyPost _ _ _ _ _ ((World.setCell w6 ⟨w.heap.size, 0, none⟩ (.int .u64 0)).setCell ⟨w.heap.size, 1, none⟩ (.int .u64 0))
          refine bodyPost_ret (v := .agg #[.int .u64 0, .int .u64 0]) (by simp [results, Tryz.results85, go_sem, p0, p1]) rfl ?_
          refine ⟨by rw [hX0] <;> rfl, (HB6.out.setCell (p := ⟨w.heap.size, 0, none⟩) (Nat.le_refl _) _).setCell (p := ⟨w.heap.size, 1, none⟩) (Nat.le_refl _) _⟩
        · have g3 : ¬ (1099511627776 : Int) < (t : Int) := by omega
          by_cases hbt : t < b
          · have g4 : (t : Int) < (b : Int) := by omega
            have hX0 : X = (0, 0) := by rw [hX1, if_neg (fun h => h.2.2 hbt)]
            have z0 := HZ6.out.z
            have a0 := HZ6.out.c0
            have a1 := HZ6.out.c1
            go_wp2_with fail
            have HP := HZ6.out.set 0 0
            have p0 := HP.c0
            have p1 := HP.c1
            show bodyPost _ _ _ _ _ ((World.setCell w6 ⟨w.heap.size, 0, none⟩ (.int .u64 0)).setCell ⟨w.heap.size, 1, none⟩ (.int .u64 0))
            refine bodyPost_ret (v := .agg #[.int .u64 0, .int .u64 0]) (by simp [results, Tryz.results85, go_sem, p0, p1]) rfl ?_
            refine ⟨by rw [hX0] <;> rfl, (HB6.out.setCell (p := ⟨w.heap.size, 0, none⟩) (Nat.le_refl _) _).setCell (p := ⟨w.heap.size, 1, none⟩) (Nat.le_refl _) _⟩
          · have g4 : ¬ (t : Int) < (b : Int) := by omega
            have hX0 : X = (t, b) := by rw [hX1, if_pos ⟨hk0, ht, hbt⟩]
            have z0 := HZ6.out.z
            have a0 := HZ6.out.c0
            have a1 := HZ6.out.c1
            go_wp2_with fail
            have HP := HZ6.out.set (t : Int) (b : Int)
            have p0 := HP.c0
            have p1 := HP.c1
            show bodyPost _ _ _ _ _ ((World.setCell w6 ⟨w.heap.size, 0, none⟩ (.int .u64 (t : Int))).setCell ⟨w.heap.size, 1, none⟩ (.int .u64 (b : Int)))
            refine bodyPost_ret (v := .agg #[.int .u64 (t : Int), .int .u64 (b : Int)]) (by simp [results, Tryz.results85, go_sem, p0, p1]) rfl ?_
            refine ⟨by rw [hX0] <;> rfl, (HB6.out.setCell (p := ⟨w.heap.size, 0, none⟩) (Nat.le_refl _) _).setCell (p := ⟨w.heap.size, 1, none⟩) (Nat.le_refl _) _⟩
    · have g1 : ((e2 : Int) != 0) = true := by simpa using he
      have hX0 : X = (0, 0) := by rw [hX1, if_neg (fun h => he h.1)]
      have z0 := HZa.out.z
      have a0 := HZa.out.c0
      have a1 := HZa.out.c1
      go_wp2_with fail
      have HP := HZa.out.set 0 0
      have p0 := HP.c0
      have p1 := HP.c1
      show bodyPost _ _ _ _ _ ((World.setCell _ ⟨w.heap.size, 0, none⟩ (.int .u64 0)).setCell ⟨w.heap.size, 1, none⟩ (.int .u64 0))
      refine bodyPost_ret (v := .agg #[.int .u64 0, .int .u64 0]) (by simp [results, Tryz.results85, go_sem, p0, p1]) rfl ?_
      refine ⟨by rw [hX0] <;> rfl, (HBa.out.setCell (p := ⟨w.heap.size, 0, none⟩) (Nat.le_refl _) _).setCell (p := ⟨w.heap.size, 1, none⟩) (Nat.le_refl _) _⟩
end Wal
end Go.Proofs.YtmccnlffikegfaaGreatDoor
/- placeOf. Condition: the text is at most 2^20 bytes long, the number at most 2^20. -/
namespace Go.Proofs.YtmccnlffikegfaaGreatDoor
open Go.RowKit
namespace Wal
open Cod (uB num Rdr But err_any left_any number_any new_any m_u_open m_u_shut VNat num_err read_ok Call)
open Crc (S S_of S_size S_append S_add hidm)
def Pl.agg (p : Pl) : Value := .agg #[.int .u64 (p.turn : Int), .bool p.more, .string (S p.sum), .string (S p.part)]
def Pl.zero : Pl := ⟨0, false, [], []⟩
theorem stU_ok {l : List UInt8} {p v : Nat} {t : List UInt8} (h : num 0 0 (l.drop p) = .ok (v, t)) : stU l (p, 0) = (v, (l.length - t.length, 0)) ∧ l.drop (l.length - t.length) = t ∧ t.length ≤ l.length := by
  have h1 := (read_ok h).1
  have h2 : (l.drop p).length = (uB v).length + t.length := by rw [h1, List.length_append]
  rw [List.length_drop] at h2
  refine ⟨by simp only [stU, if_true, h], ?_, by omega⟩
  rcases Nat.lt_or_ge l.length p with h3 | h3
  · have : t.length = 0 := by omega
    rw [List.length_eq_zero_iff] at this
    subst this
    simp
  · rw [show l.length - t.length = p + (uB v).length by omega, ← List.drop_drop, h1]
    exact List.drop_left
theorem stU_err {l : List UInt8} {p x : Nat} (h : num 0 0 (l.drop p) = .error x) : stU l (p, 0) = (0, (p, x)) ∧ x ≠ 0 := by
  refine ⟨by simp only [stU, if_true, h], ?_⟩
  rcases num_err _ 0 0 x h with h | h <;> omega
theorem stU_shut {l : List UInt8} {p x : Nat} (h : x ≠ 0) : stU l (p, x) = (0, (p, x)) := by
  simp only [stU]
  rw [if_neg h]
def placeS (i v1 v2 v3 p3 e3 : Nat) (l : List UInt8) : Option Pl :=
  if e3 = 0 ∧ v2 = i ∧ ¬ 1 < v3 ∧ ¬ (l.drop p3).length < 4 then
    if 100 < ((l.drop p3).drop 4).length ∨ (v3 = 1 ∧ ((l.drop p3).drop 4).length < 100) then none else some ⟨v1, v3 == 1, (l.drop p3).take 4, (l.drop p3).drop 4⟩
  else none
theorem place_st (i : Nat) (l : List UInt8) (q1 q2 q3 : Nat × (Nat × Nat)) (h1 : q1 = stU l (0, 0)) (h2 : q2 = stU l q1.2) (h3 : q3 = stU l q2.2) : placeB i l = placeS i q1.1 q2.1 q3.1 q3.2.1 q3.2.2 l := by
  unfold placeB
  have hd0 : l.drop 0 = l := rfl
  have shut : ∀ {p x : Nat}, x ≠ 0 → q3.2 = (p, x) → placeS i q1.1 q2.1 q3.1 q3.2.1 q3.2.2 l = none := fun hx he => by
    rw [he]
    unfold placeS
    exact if_neg (fun h => hx h.1)
  cases n1 : num 0 0 l with
  | error x =>
    obtain ⟨g1, hx⟩ := stU_err (l := l) (p := 0) (x := x) n1
    rw [g1] at h1
    rw [h1] at h2
    rw [stU_shut hx] at h2
    rw [h2] at h3
    rw [stU_shut hx] at h3
    exact (shut hx (by rw [h3])).symm
  | ok a =>
    obtain ⟨t, l1⟩ := a
    obtain ⟨g1, d1, _⟩ := stU_ok (l := l) (p := 0) n1
    rw [g1] at h1
    rw [h1] at h2
    simp only
    cases n2 : num 0 0 l1 with
    | error x =>
      obtain ⟨g2, hx⟩ := stU_err (l := l) (p := l.length - l1.length) (x := x) (by rw [d1]; exact n2)
      rw [g2] at h2
      rw [h2] at h3
      rw [stU_shut hx] at h3
      exact (shut hx (by rw [h3])).symm
    | ok c =>
      obtain ⟨a, l2⟩ := c
      obtain ⟨g2, d2, _⟩ := stU_ok (l := l) (p := l.length - l1.length) (v := a) (t := l2) (by rw [d1]; exact n2)
      rw [g2] at h2
      rw [h2] at h3
      simp only
      cases n3 : num 0 0 l2 with
      | error x =>
        obtain ⟨g3, hx⟩ := stU_err (l := l) (p := l.length - l2.length) (x := x) (by rw [d2]; exact n3)
        rw [g3] at h3
        exact (shut hx (by rw [h3])).symm
      | ok e =>
        obtain ⟨m, l3⟩ := e
        obtain ⟨g3, d3, _⟩ := stU_ok (l := l) (p := l.length - l2.length) (v := m) (t := l3) (by rw [d2]; exact n3)
        rw [g3] at h3
        simp only
        rw [h1, h2, h3]
        unfold placeS
        simp only [d3]
        have hl : (l3.drop 4).length = l3.length - 4 := List.length_drop
        rw [hl]
        split
        · rename_i h
          have h4 := h.2.2.1
          have h5 := h.2.2.2.1
          have h6 := h.2.2.2.2
          rw [if_pos ⟨trivial, h.1, by have := h.2.1; omega, by omega⟩, if_neg (fun hh => by
            rcases hh with hh | hh
            · omega
            · have := h6 hh.1; omega)]
        · rename_i h
          symm
          split
          · rename_i h2
            split
            · rfl
            · rename_i h3
              exfalso
              apply h
              refine ⟨h2.2.1, by have := h2.2.2.1; omega, by have := h2.2.2.2; omega, ?_, fun h5 => ?_⟩
              · apply Classical.byContradiction
                intro h4
                exact h3 (.inl (by omega))
              · apply Classical.byContradiction
                intro h4
                exact h3 (.inr ⟨h5, by omega⟩)
          · rfl
def placeRow (B : Nat) (t : Int) (m : Bool) (s q : ByteArray) (w : World) : Prop := w.heap[B]? = some (.cells #[.int .u64 t, .bool m, .string s, .string q] 139 (0, 0))
section
variable {B : Nat} {t : Int} {m : Bool} {s q : ByteArray} {w w' : World}
theorem placeRow.c0 (h : placeRow B t m s q w) : w.cell? ⟨B, 0, none⟩ = some (.int .u64 t) := cell_of_row w B 0 _ _ (0, 0) h
theorem placeRow.c1 (h : placeRow B t m s q w) : w.cell? ⟨B, 1, none⟩ = some (.bool m) := cell_of_row w B 1 _ _ (0, 0) h
theorem placeRow.c2 (h : placeRow B t m s q w) : w.cell? ⟨B, 2, none⟩ = some (.string s) := cell_of_row w B 2 _ _ (0, 0) h
theorem placeRow.c3 (h : placeRow B t m s q w) : w.cell? ⟨B, 3, none⟩ = some (.string q) := cell_of_row w B 3 _ _ (0, 0) h
theorem placeRow.z (h : placeRow B t m s q w) (j : Nat) : w.frozen? ⟨B, j, none⟩ = false := frozen_of_row w B j _ _ h
theorem placeRow.later (h : placeRow B t m s q w) (hb : Below w.heap.size w w') : placeRow B t m s q w' := Cod.below_keeps hb h
theorem placeRow.keep (h : placeRow B t m s q w) (hk : w'.heap[B]? = w.heap[B]?) : placeRow B t m s q w' := hk.trans h
theorem placeRow.but {r : Nat} (h : placeRow B t m s q w) (hb : But r w w') (hn : B ≠ r) : placeRow B t m s q w' := hb.keeps hn h
theorem placeRow.new (w : World) (t : Int) (m : Bool) (s q : ByteArray) : placeRow w.heap.size t m s q (w.alloc (.cells #[.int .u64 t, .bool m, .string s, .string q] 139)) := heap_alloc_last w _
def set4 (w : World) (B : Nat) (t : Int) (m : Bool) (s q : ByteArray) : World := (((w.setCell ⟨B, 0, none⟩ (.int .u64 t)).setCell ⟨B, 1, none⟩ (.bool m)).setCell ⟨B, 2, none⟩ (.string s)).setCell ⟨B, 3, none⟩ (.string q)
theorem placeRow.set (h : placeRow B t m s q w) (t' : Int) (m' : Bool) (s' q' : ByteArray) : placeRow B t' m' s' q' (set4 w B t' m' s' q') := by
  have h1 := heap_setCell_same w B 0 _ _ (.int .u64 t') h
  have h2 := heap_setCell_same _ B 1 _ _ (.bool m') h1
  have h3 := heap_setCell_same _ B 2 _ _ (.string s') h2
  exact heap_setCell_same _ B 3 _ _ (.string q') h3
theorem set4_below {B0 : Nat} {a : World} (h : Below B0 a w) (hB : B0 ≤ B) (t : Int) (m : Bool) (s q : ByteArray) : Below B0 a (set4 w B t m s q) :=
  (((h.setCell (p := ⟨B, 0, none⟩) hB _).setCell (p := ⟨B, 1, none⟩) hB _).setCell (p := ⟨B, 2, none⟩) hB _).setCell (p := ⟨B, 3, none⟩) hB _
end
set_option maxHeartbeats 8000000 in
set_option maxRecDepth 100000 in
theorem placeof_any (s : ByteArray) (hs : s.size ≤ 1048576) (i : Nat) (hi : i ≤ 1048576) (w : World) :
    Calls Tryz.prog 87 #[.string s, .int .i64 (i : Int)] w fun e w' => e = .returned (.tuple #[((plP s.data.toList i).getD Pl.zero).agg, .bool (plP s.data.toList i).isSome]) ∧ Below w.heap.size w w' := by
  obtain ⟨X, hX⟩ : ∃ X, X = plP s.data.toList i := ⟨_, rfl⟩
  rw [← hX]
  unfold plP at hX
  have hmk := fun w => marked_any 76 s (by omega) w
  obtain ⟨M, hM⟩ : ∃ M, M = mk 76 s.data.toList := ⟨_, rfl⟩
  rw [← hM] at hX hmk
  clear hM
  have hiw : IntKind.u64.wrap (i : Int) = (i : Int) := by simp only [IntKind.wrap_u64]; omega
  go_enter Tryz.func87, Tryz.ntmps87
  go_wp2_with fail
  refine (hmk _).mono ?_
  rintro e w1 ⟨v, rfl, hv, hvs, hb⟩
  have HB := hidm (((Below.refl w.heap.size w).alloc (Nat.le_refl _) (.cells #[.int .u64 0, .bool false, .string ⟨#[]⟩, .string ⟨#[]⟩] 139)).trans (hb.mono (by simp)))
  have HZ := hidm ((placeRow.new w 0 false ⟨#[]⟩ ⟨#[]⟩).later hb)
  have hsz1 : w.heap.size < w1.heap.size := lt_of_block HZ.out
  clear hb hmk
  cases M with
  | none =>
    have hX0 : X = none := hX
    have z0 := HZ.out.z
    have a0 := HZ.out.c0
    have a1 := HZ.out.c1
    have a2 := HZ.out.c2
    have a3 := HZ.out.c3
    go_wp2_with fail
    have HP := HZ.out.set 0 false ⟨#[]⟩ ⟨#[]⟩
    have p0 := HP.c0
    have p1 := HP.c1
    have p2 := HP.c2
    have p3 := HP.c3
    show bodyPost _ _ _ _ _ (set4 w1 w.heap.size 0 false ⟨#[]⟩ ⟨#[]⟩)
    refine bodyPost_ret (v := .tuple #[.agg #[.int .u64 0, .bool false, .string ⟨#[]⟩, .string ⟨#[]⟩], .bool false]) (by simp [results, Tryz.results87, go_sem, p0, p1, p2, p3]) rfl ?_
    refine ⟨by first | rfl | (rw [hX0]; rfl) | (rw [hX0]; first | rfl) | rfl, set4_below HB.out (Nat.le_refl _) _ _ _ _⟩
  | some l =>
    have hvl : v = S l := hv l rfl
    have hlv : v.data.toList = l := by rw [hvl]
    have hX1 : X = placeB i v.data.toList := by rw [hlv]; exact hX
    clear hv hvl hlv hX
    go_wp2_with fail
    refine (new_any v w1 (by omega)).mono ?_
    rintro e w2 ⟨r, hr, rfl, hR, hb⟩
    have hrl : r < w2.heap.size := hR.lt
    have HB2 := hidm (HB.out.trans (hb.mono HB.out.size))
    have HZ2 := hidm (HZ.out.later hb)
    have HR2 := hidm (show Rdr r v ((0 : Nat) : Int) ((0 : Nat) : Int) w2 from hR)
    have hsz2 := hb.size
    clear hb HB HZ hR
    obtain ⟨q1, hq1⟩ : ∃ q, q = stU v.data.toList (0, 0) := ⟨_, rfl⟩
    obtain ⟨q2, hq2⟩ : ∃ q, q = stU v.data.toList q1.2 := ⟨_, rfl⟩
    obtain ⟨q3, hq3⟩ : ∃ q, q = stU v.data.toList q2.2 := ⟨_, rfl⟩
    rw [place_st i v.data.toList q1 q2 q3 hq1 hq2 hq3] at hX1
    have hle1 := stU_le (l := v.data.toList) (q := (0, 0)) (Nat.zero_le _)
    rw [← hq1] at hle1
    have hle2 := stU_le (l := v.data.toList) (q := q1.2) hle1
    rw [← hq2] at hle2
    have hle3 := stU_le (l := v.data.toList) (q := q2.2) hle2
    rw [← hq3] at hle3
    have hlt1 := stU_lt v.data.toList (0, 0)
    have hlt2 := stU_lt v.data.toList q1.2
    have hlt3 := stU_lt v.data.toList q2.2
    rw [← hq1] at hlt1
    rw [← hq2] at hlt2
    rw [← hq3] at hlt3
    rw [len_eq] at hle1 hle2 hle3
    have U1 := fun w h => rstep r v 0 0 w h (Nat.zero_le _) (by omega)
    rw [← hq1] at U1
    have U2 := fun w h => rstep r v q1.2.1 q1.2.2 w h hle1 (by omega)
    rw [show (q1.2.1, q1.2.2) = q1.2 from rfl, ← hq2] at U2
    have U3 := fun w h => rstep r v q2.2.1 q2.2.2 w h hle2 (by omega)
    rw [show (q2.2.1, q2.2.2) = q2.2 from rfl, ← hq3] at U3
    obtain ⟨t, p1, e1⟩ := q1
    obtain ⟨a, p2, e2⟩ := q2
    obtain ⟨m, p3, e3⟩ := q3
    simp only at hX1 hle1 hle2 hle3 hlt1 hlt2 hlt3 U1 U2 U3
    clear hq1 hq2 hq3
    go_wp2_with fail
    refine (U1 w2 HR2.out).mono ?_
    rintro e w3 ⟨rfl, hR, hb⟩
    have HB3 := hidm (HB2.out.trans (hb.below (B := w.heap.size) (by omega) HB2.out.size))
    have HZ3 := hidm (HZ2.out.but hb (by omega))
    have HR3 := hidm hR
    have hsz3 := hb.size
    clear hb hR HB2 HZ2 HR2 U1
    go_wp2_with fail
    refine (U2 w3 HR3.out).mono ?_
    rintro e w4 ⟨rfl, hR, hb⟩
    have HB4 := hidm (HB3.out.trans (hb.below (B := w.heap.size) (by omega) HB3.out.size))
    have HZ4 := hidm (HZ3.out.but hb (by omega))
    have HR4 := hidm hR
    have hsz4 := hb.size
    clear hb hR HB3 HZ3 HR3 U2
    go_wp2_with fail
    refine (U3 w4 HR4.out).mono ?_
    rintro e w5 ⟨rfl, hR, hb⟩
    have HB5 := hidm (HB4.out.trans (hb.below (B := w.heap.size) (by omega) HB4.out.size))
    have HZ5 := hidm (HZ4.out.but hb (by omega))
    have HR5 := hidm hR
    have hsz5 := hb.size
    clear hb hR HB4 HZ4 HR4 U3
    go_wp2_with fail
    refine (left_any r v p3 _ _ HR5.out hle3 (by omega)).mono ?_
    rintro e w6 ⟨rfl, hb⟩
    have HB6 := hidm (HB5.out.trans (hb.mono HB5.out.size))
    have HZ6 := hidm (HZ5.out.later hb)
    have HR6 := hidm (HR5.out.later hb)
    clear hb HB5 HZ5 HR5
    obtain ⟨k, hk⟩ : ∃ k, k = v.size - p3 := ⟨_, rfl⟩
    rw [← hk]
    have hks : (v.size : Int) - (k : Int) = (p3 : Int) := by omega
    have hks2 : (p3 : Int) ≤ (v.size : Int) := by omega
    obtain ⟨x, hx⟩ : ∃ x, x = v.extract p3 v.size := ⟨_, rfl⟩
    have hxl : v.data.toList.drop p3 = x.data.toList := by rw [hx, Crc.cut_drop]
    have hxs : x.size = k := by rw [hx, ByteArray.size_extract]; omega
    unfold placeS at hX1
    rw [hxl, len_eq, hxs] at hX1
    have HX := hidm hx.symm
    clear hx hxl hk
    go_wp2_with fail
    rw [HX.out]
    refine (err_any r v p3 e3 _ HR6.out).mono ?_
    rintro e w7 ⟨rfl, rfl⟩
    by_cases he : e3 = 0
    · subst he
      have g1 : (((0 : Nat) : Int) != 0) = false := rfl
      by_cases hai : a = i
      · subst hai
        have g2 : ((a : Int) != (a : Int)) = false := by simp
        by_cases hm1 : 1 < m
        · have g3 : (1 : Int) < (m : Int) := by omega
          have hX0 : X = none := by rw [hX1, if_neg (fun h => h.2.2.1 hm1)]
          have z0 := HZ6.out.z
          have a0 := HZ6.out.c0
          have a1 := HZ6.out.c1
          have a2 := HZ6.out.c2
          have a3 := HZ6.out.c3
          go_wp2_with fail
          have HP := HZ6.out.set 0 false ⟨#[]⟩ ⟨#[]⟩
          have p0 := HP.c0
          have p1 := HP.c1
          have p2 := HP.c2
          have p3 := HP.c3
          show bodyPost _ _ _ _ _ (set4 w6 w.heap.size 0 false ⟨#[]⟩ ⟨#[]⟩)
          refine bodyPost_ret (v := .tuple #[.agg #[.int .u64 0, .bool false, .string ⟨#[]⟩, .string ⟨#[]⟩], .bool false]) (by simp [results, Tryz.results87, go_sem, p0, p1, p2, p3]) rfl ?_
          refine ⟨by first | rfl | (rw [hX0]; rfl) | (rw [hX0]; first | rfl) | rfl, set4_below HB6.out (Nat.le_refl _) _ _ _ _⟩
        · have g3 : ¬ (1 : Int) < (m : Int) := by omega
          by_cases hk4 : k < 4
          · have g4 : (x.size : Int) < 4 := by omega
            have hX0 : X = none := by rw [hX1, if_neg (fun h => h.2.2.2 hk4)]
            have z0 := HZ6.out.z
            have a0 := HZ6.out.c0
            have a1 := HZ6.out.c1
            have a2 := HZ6.out.c2
            have a3 := HZ6.out.c3
            go_wp2_with fail
            have HP := HZ6.out.set 0 false ⟨#[]⟩ ⟨#[]⟩
            have p0 := HP.c0
            have p1 := HP.c1
            have p2 := HP.c2
            have p3 := HP.c3
            show bodyPost _ _ _ _ _ (set4 w6 w.heap.size 0 false ⟨#[]⟩ ⟨#[]⟩)
            refine bodyPost_ret (v := .tuple #[.agg #[.int .u64 0, .bool false, .string ⟨#[]⟩, .string ⟨#[]⟩], .bool false]) (by simp [results, Tryz.results87, go_sem, p0, p1, p2, p3]) rfl ?_
            refine ⟨by first | rfl | (rw [hX0]; rfl) | (rw [hX0]; first | rfl) | rfl, set4_below HB6.out (Nat.le_refl _) _ _ _ _⟩
          · have g4 : ¬ (x.size : Int) < 4 := by omega
            have g5 : (4 : Int) ≤ (x.size : Int) := by omega
            have g6 : 4 ≤ x.size := by omega
            rw [if_pos ⟨rfl, rfl, hm1, hk4⟩] at hX1
            obtain ⟨z, hz⟩ : ∃ z, z = x.extract 0 4 := ⟨_, rfl⟩
            obtain ⟨y, hy⟩ : ∃ y, y = x.extract 4 k := ⟨_, rfl⟩
            have hzl : x.data.toList.take 4 = z.data.toList := by rw [hz, Crc.cut_take]
            have hyl : x.data.toList.drop 4 = y.data.toList := by rw [hy, ← hxs, Crc.cut_drop]
            rw [hzl, hyl, len_eq] at hX1
            have HZZ := hidm hz.symm
            have HY := hidm hy.symm
            clear hz hy hzl hyl
            rcases (show m = 0 ∨ m = 1 by omega) with h | h
            · subst h
              have HW7 := hidm (show placeRow w6.heap.size (t : Int) false z y (w6.alloc (.cells #[.int .u64 (t : Int), .bool false, .string z, .string y] 139)).drew from placeRow.later (placeRow.new w6 _ _ _ _) (Below.refl _ _).drew)
              have HB7 := hidm ((HB6.out.alloc HB6.out.size (.cells #[.int .u64 (t : Int), .bool false, .string z, .string y] 139)).drew)
              have HZ7 := hidm (show placeRow w.heap.size 0 false ⟨#[]⟩ ⟨#[]⟩ (w6.alloc (.cells #[.int .u64 (t : Int), .bool false, .string z, .string y] 139)).drew from HZ6.out.later ((Below.refl _ _).alloc (Nat.le_refl _) _).drew)
              go_wp2_with fail
              go_region_with (fail)
              simp only [HZZ.out, HY.out]
              obtain ⟨w7, hw7⟩ : ∃ w7, w7 = (w6.alloc (.cells #[.int .u64 (t : Int), .bool false, .string z, .string y] 139)).drew := ⟨_, rfl⟩
              rw [← hw7] at HW7 HB7 HZ7 ⊢
              clear hw7
              have y0 := HW7.out.c0
              have y1 := HW7.out.c1
              have y2 := HW7.out.c2
              have y3 := HW7.out.c3
              by_cases h1 : 100 < y.size
              · have f1 : (100 : Int) < (y.size : Int) := by omega
                have hX0 : X = none := by rw [hX1, if_pos (.inl h1)]
                have z0 := HZ7.out.z
                have a0 := HZ7.out.c0
                have a1 := HZ7.out.c1
                have a2 := HZ7.out.c2
                have a3 := HZ7.out.c3
                go_wp2_with fail
                have HP := HZ7.out.set 0 false ⟨#[]⟩ ⟨#[]⟩
                have p0 := HP.c0
                have p1 := HP.c1
                have p2 := HP.c2
                have p3 := HP.c3
                show bodyPost _ _ _ _ _ (set4 _ w.heap.size 0 false ⟨#[]⟩ ⟨#[]⟩)
                refine bodyPost_ret (v := .tuple #[.agg #[.int .u64 0, .bool false, .string ⟨#[]⟩, .string ⟨#[]⟩], .bool false]) (by simp [results, Tryz.results87, go_sem, p0, p1, p2, p3]) rfl ?_
                refine ⟨by first | rfl | (rw [hX0]; rfl) | (rw [hX0]; first | rfl) | rfl, set4_below HB7.out (Nat.le_refl _) _ _ _ _⟩
              · have f1 : ¬ (100 : Int) < (y.size : Int) := by omega
                have hX0 : X = some ⟨t, false, z.data.toList, y.data.toList⟩ := by rw [hX1, if_neg (fun h => h.elim h1 (fun h2 => by omega))]; rfl
                have z0 := HZ7.out.z
                have a0 := HZ7.out.c0
                have a1 := HZ7.out.c1
                have a2 := HZ7.out.c2
                have a3 := HZ7.out.c3
                go_wp2_with fail
                have HP := HZ7.out.set (t : Int) false z y
                have p0 := HP.c0
                have p1 := HP.c1
                have p2 := HP.c2
                have p3 := HP.c3
                show bodyPost _ _ _ _ _ (set4 _ w.heap.size (t : Int) false z y)
                refine bodyPost_ret (v := .tuple #[.agg #[.int .u64 (t : Int), .bool false, .string z, .string y], .bool true]) (by simp [results, Tryz.results87, go_sem, p0, p1, p2, p3]) rfl ?_
                refine ⟨by first | rfl | (rw [hX0]; rfl) | (rw [hX0]; first | (simp only [Option.getD_some, Option.isSome_some, Pl.agg, S_of]; done) | (simp only [Pl.agg, S_of])) | (simp only [Option.getD_some, Option.isSome_some, Pl.agg, S_of]; done) | (simp only [Pl.agg, S_of]), set4_below HB7.out (Nat.le_refl _) _ _ _ _⟩
            · subst h
              have HW7 := hidm (show placeRow w6.heap.size (t : Int) true z y (w6.alloc (.cells #[.int .u64 (t : Int), .bool true, .string z, .string y] 139)).drew from placeRow.later (placeRow.new w6 _ _ _ _) (Below.refl _ _).drew)
              have HB7 := hidm ((HB6.out.alloc HB6.out.size (.cells #[.int .u64 (t : Int), .bool true, .string z, .string y] 139)).drew)
              have HZ7 := hidm (show placeRow w.heap.size 0 false ⟨#[]⟩ ⟨#[]⟩ (w6.alloc (.cells #[.int .u64 (t : Int), .bool true, .string z, .string y] 139)).drew from HZ6.out.later ((Below.refl _ _).alloc (Nat.le_refl _) _).drew)
              go_wp2_with fail
              go_region_with (fail)
              simp only [HZZ.out, HY.out]
              obtain ⟨w7, hw7⟩ : ∃ w7, w7 = (w6.alloc (.cells #[.int .u64 (t : Int), .bool true, .string z, .string y] 139)).drew := ⟨_, rfl⟩
              rw [← hw7] at HW7 HB7 HZ7 ⊢
              clear hw7
              have y0 := HW7.out.c0
              have y1 := HW7.out.c1
              have y2 := HW7.out.c2
              have y3 := HW7.out.c3
              by_cases h1 : 100 < y.size
              · have f1 : (100 : Int) < (y.size : Int) := by omega
                have hX0 : X = none := by rw [hX1, if_pos (.inl h1)]
                have z0 := HZ7.out.z
                have a0 := HZ7.out.c0
                have a1 := HZ7.out.c1
                have a2 := HZ7.out.c2
                have a3 := HZ7.out.c3
                go_wp2_with fail
                have HP := HZ7.out.set 0 false ⟨#[]⟩ ⟨#[]⟩
                have p0 := HP.c0
                have p1 := HP.c1
                have p2 := HP.c2
                have p3 := HP.c3
                show bodyPost _ _ _ _ _ (set4 _ w.heap.size 0 false ⟨#[]⟩ ⟨#[]⟩)
                refine bodyPost_ret (v := .tuple #[.agg #[.int .u64 0, .bool false, .string ⟨#[]⟩, .string ⟨#[]⟩], .bool false]) (by simp [results, Tryz.results87, go_sem, p0, p1, p2, p3]) rfl ?_
                refine ⟨by first | rfl | (rw [hX0]; rfl) | (rw [hX0]; first | rfl) | rfl, set4_below HB7.out (Nat.le_refl _) _ _ _ _⟩
              · have f1 : ¬ (100 : Int) < (y.size : Int) := by omega
                by_cases h2 : y.size < 100
                · have f2 : (y.size : Int) < 100 := by omega
                  have hX0 : X = none := by rw [hX1, if_pos (.inr ⟨by trivial, h2⟩)]
                  have z0 := HZ7.out.z
                  have a0 := HZ7.out.c0
                  have a1 := HZ7.out.c1
                  have a2 := HZ7.out.c2
                  have a3 := HZ7.out.c3
                  go_wp2_with fail
                  have HP := HZ7.out.set 0 false ⟨#[]⟩ ⟨#[]⟩
                  have p0 := HP.c0
                  have p1 := HP.c1
                  have p2 := HP.c2
                  have p3 := HP.c3
                  show bodyPost _ _ _ _ _ (set4 _ w.heap.size 0 false ⟨#[]⟩ ⟨#[]⟩)
                  refine bodyPost_ret (v := .tuple #[.agg #[.int .u64 0, .bool false, .string ⟨#[]⟩, .string ⟨#[]⟩], .bool false]) (by simp [results, Tryz.results87, go_sem, p0, p1, p2, p3]) rfl ?_
                  refine ⟨by first | rfl | (rw [hX0]; rfl) | (rw [hX0]; first | rfl) | rfl, set4_below HB7.out (Nat.le_refl _) _ _ _ _⟩
                · have f2 : ¬ (y.size : Int) < 100 := by omega
                  have hX0 : X = some ⟨t, true, z.data.toList, y.data.toList⟩ := by rw [hX1, if_neg (fun h => h.elim h1 (fun h3 => h2 h3.2))]; rfl
                  have z0 := HZ7.out.z
                  have a0 := HZ7.out.c0
                  have a1 := HZ7.out.c1
                  have a2 := HZ7.out.c2
                  have a3 := HZ7.out.c3
                  go_wp2_with fail
                  have HP := HZ7.out.set (t : Int) true z y
                  have p0 := HP.c0
                  have p1 := HP.c1
                  have p2 := HP.c2
                  have p3 := HP.c3
                  show bodyPost _ _ _ _ _ (set4 _ w.heap.size (t : Int) true z y)
                  refine bodyPost_ret (v := .tuple #[.agg #[.int .u64 (t : Int), .bool true, .string z, .string y], .bool true]) (by simp [results, Tryz.results87, go_sem, p0, p1, p2, p3]) rfl ?_
                  refine ⟨by first | rfl | (rw [hX0]; rfl) | (rw [hX0]; first | (simp only [Option.getD_some, Option.isSome_some, Pl.agg, S_of]; done) | (simp only [Pl.agg, S_of])) | (simp only [Option.getD_some, Option.isSome_some, Pl.agg, S_of]; done) | (simp only [Pl.agg, S_of]), set4_below HB7.out (Nat.le_refl _) _ _ _ _⟩
      · have g0 : ¬ (a : Int) = (i : Int) := fun h => hai (by omega)
        have g2 : ((a : Int) != (i : Int)) = true := by simpa using g0
        have hX0 : X = none := by rw [hX1, if_neg (fun h => hai h.2.1)]
        have z0 := HZ6.out.z
        have a0 := HZ6.out.c0
        have a1 := HZ6.out.c1
        have a2 := HZ6.out.c2
        have a3 := HZ6.out.c3
        go_wp2_with fail
        have HP := HZ6.out.set 0 false ⟨#[]⟩ ⟨#[]⟩
        have p0 := HP.c0
        have p1 := HP.c1
        have p2 := HP.c2
        have p3 := HP.c3
        show bodyPost _ _ _ _ _ (set4 w6 w.heap.size 0 false ⟨#[]⟩ ⟨#[]⟩)
        refine bodyPost_ret (v := .tuple #[.agg #[.int .u64 0, .bool false, .string ⟨#[]⟩, .string ⟨#[]⟩], .bool false]) (by simp [results, Tryz.results87, go_sem, p0, p1, p2, p3]) rfl ?_
        refine ⟨by first | rfl | (rw [hX0]; rfl) | (rw [hX0]; first | rfl) | rfl, set4_below HB6.out (Nat.le_refl _) _ _ _ _⟩
    · have g1 : ((e3 : Int) != 0) = true := by simpa using he
      have hX0 : X = none := by rw [hX1, if_neg (fun h => he h.1)]
      have z0 := HZ6.out.z
      have a0 := HZ6.out.c0
      have a1 := HZ6.out.c1
      have a2 := HZ6.out.c2
      have a3 := HZ6.out.c3
      go_wp2_with fail
      have HP := HZ6.out.set 0 false ⟨#[]⟩ ⟨#[]⟩
      have p0 := HP.c0
      have p1 := HP.c1
      have p2 := HP.c2
      have p3 := HP.c3
      show bodyPost _ _ _ _ _ (set4 w6 w.heap.size 0 false ⟨#[]⟩ ⟨#[]⟩)
      refine bodyPost_ret (v := .tuple #[.agg #[.int .u64 0, .bool false, .string ⟨#[]⟩, .string ⟨#[]⟩], .bool false]) (by simp [results, Tryz.results87, go_sem, p0, p1, p2, p3]) rfl ?_
      refine ⟨by first | rfl | (rw [hX0]; rfl) | (rw [hX0]; first | rfl) | rfl, set4_below HB6.out (Nat.le_refl _) _ _ _ _⟩
end Wal
end Go.Proofs.YtmccnlffikegfaaGreatDoor
