/- Open. Conditions: as each says. -/
import Derived.Test.YtmccnlffikegfaaGreatDoorZWm
import Derived.Lib.SliceRun
namespace Go.Proofs.YtmccnlffikegfaaGreatDoor
open Go.RowKit
namespace Wal
open Dsk (PD Mine KeepQ DiskIs Only Grow upd pad NotGiven)
open Crc (S S_of S_size S_append S_add hidm)
/-- What Open makes of a disk. -/
def opened (d : PD) (F : Nat) : PD := (d.write (slot F ((slF F d.f).1 + 1)) (sealB (sbody ((slF F d.f).1 + 1) (slF F d.f).2))).burn.flush.burn
theorem opened_is {d : PD} (F : Nat) (hf : d.fu = false) : (opened d F).n = d.n ∧ (opened d F).f = upd d.f (slot F ((slF F d.f).1 + 1) : Nat) (pad (sealB (sbody ((slF F d.f).1 + 1) (slF F d.f).2))) ∧ (opened d F).cs = [] ∧ (opened d F).wr = d.wr + 1 ∧ (opened d F).fl = d.fl + 1 ∧ (opened d F).fu = false := ⟨rfl, rfl, rfl, rfl, rfl, hf⟩
/-- What the disk's log is. -/
def readG (F m : Nat) (f : Int → List UInt8) : List (List UInt8 × Nat) := go (plF F f) (slF F f).1 m 0 (st (slF F f).2) []
def openedG (F m : Nat) (f : Int → List UInt8) : PL := ⟨F, m, (slF F f).1 + 1, (readG F m f).map Prod.fst, lst (readG F m f) 0, false⟩
section
variable {W : World} {Q : Nat → Prop} {L D : Nat} {g : PL} {d : PD} {w : World}
set_option maxHeartbeats 1000000 in
theorem open_nil (w : World) (hl : Calls Tryz.prog 36 #[.pointer none] w fun e w' => e = .returned (.int .i64 0) ∧ w = w') : Calls Tryz.prog 37 #[.pointer none, .int .i64 0, .int .i64 10] w fun e w' => e = .returned (.tuple #[.pointer none, .int .i64 1]) ∧ w = w' := by
  have HL := hidm hl
  clear hl
  go_enter Tryz.func37, Tryz.ntmps37
  go_wp2_with fail
  refine HL.out.mono ?_
  rintro e w1 ⟨rfl, rfl⟩
  go_wp2_with fail
  go_ret2
  exact ⟨rfl, rfl⟩
set_option maxHeartbeats 1000000 in
theorem open_far (h : Mine W Q D d w) (F n : Nat) (hn : 4 ≤ n ∧ n ≤ 1000) (hF : F ≤ 4096) (hfar : d.n < F + n) (hd : d.n ≤ 4096) : Calls Tryz.prog 37 #[.pointer (some ⟨D, 0, none⟩), .int .i64 (F : Int), .int .i64 (n : Int)] w fun e w' => e = .returned (.tuple #[.pointer none, .int .i64 1]) ∧ w = w' := by
  have HL := hidm (Dsk.m_len h)
  obtain ⟨r, hr⟩ : ∃ r : Int, r = (d.n : Int) - (n : Int) := ⟨_, rfl⟩
  have hrw : IntKind.i64.wrap r = r := by simp only [IntKind.wrap_i64]; omega
  have f1 : ¬ (n : Int) < 4 := by omega
  have f2 : ¬ (1000 : Int) < (n : Int) := by omega
  have f3 : ¬ (F : Int) < 0 := by omega
  have f4 : r < (F : Int) := by omega
  have hr' := hr.symm
  clear h hr
  go_enter Tryz.func37, Tryz.ntmps37
  go_wp2_with fail
  refine HL.out.mono ?_
  rintro e w1 ⟨rfl, rfl⟩
  go_wp2_with fail
  go_ret2
  exact ⟨rfl, rfl⟩
/-- A new log's block. -/
def rawLog (L D : Nat) (F m : Nat) : Obj := .cells #[.pointer (some ⟨L, 0, none⟩), .pointer (some ⟨D, 0, none⟩), .int .i64 (F : Int), .int .i64 (m : Int), .int .u64 0, .slice none 0 0, .int .i64 0, .bool false] 116
theorem Pair.new (h : Mine W Q D d w) (F m : Nat) (hF : F ≤ 4096) (hm : m ≤ 1000) : Pair W Q w.heap.size D ⟨F, m, 0, [], 0, false⟩ d (w.alloc (rawLog w.heap.size D F m)) ∧ KeepQ Q w (w.alloc (rawLog w.heap.size D F m)) := by
  have hb : Below w.heap.size w (w.alloc (rawLog w.heap.size D F m)) := (Below.refl _ _).alloc (Nat.le_refl _) _
  have hg := h.guard hb
  have hW := h.bel.size
  have hq := h.qlt
  have hg2 : Mine W (fun k => Q k ∨ k = w.heap.size) D d (w.alloc (rawLog w.heap.size D F m)) := by
    obtain ⟨⟨T, hT, hq2⟩, hB, hql⟩ := hg
    refine ⟨⟨T, hT, fun k hk => ⟨(hq2 k hk).1, fun e => (hq2 k hk).2 ?_⟩⟩, hB, fun k hk => ?_⟩
    · rcases e with e | e
      · exact .inl e
      · exact .inr ⟨by omega, by rw [e]; simp⟩
    · rcases hk with e | e
      · exact hql k (.inl e)
      · rw [e]; simp
  refine ⟨⟨fun k => k = w.heap.size, .slice none 0 0, hg2, ⟨heap_alloc_last w _, World.ownsRow_nil _ _ _ _, rfl, fun b hb => (by cases hb), ⟨hF, hm, Nat.zero_le _, Nat.zero_le _, Nat.zero_le _⟩⟩, fun k hk => ?_⟩, fun k hk => ?_⟩
  · have hk : k = w.heap.size := hk
    rw [hk]
    exact ⟨hW, fun e => by have := hq _ e; omega⟩
  · exact hb.block k (hq k hk)
set_option maxHeartbeats 4000000 in
set_option maxRecDepth 100000 in
theorem open_any (h : Mine W Q D d w) (F n m : Nat) (hn : 4 ≤ n ∧ n ≤ 1000) (hm : n = m + 2) (hF : F + n ≤ d.n) (hfu : d.fu = false) (ht : (slF F d.f).1 < 1099511627776) (hc : d.cs.length < 1000000) (hw : d.wr < 1000000) (hf : d.fl < 1000000) :
    Calls Tryz.prog 37 #[.pointer (some ⟨D, 0, none⟩), .int .i64 (F : Int), .int .i64 (n : Int)] w fun e w' => ∃ L, e = .returned (.tuple #[.pointer (some ⟨L, 0, none⟩), .int .i64 0]) ∧ Pair W Q L D (openedG F m d.f) (opened d F) w' ∧ KeepQ Q w w' ∧ w.heap.size ≤ L := by
  have hd4 := h.ok.1
  have HL := hidm (Dsk.m_len h)
  obtain ⟨hP1, hK1⟩ := Pair.new h F m (by omega) (by omega)
  obtain ⟨r, hr⟩ : ∃ r : Int, r = (d.n : Int) - (n : Int) := ⟨_, rfl⟩
  have hrw : IntKind.i64.wrap r = r := by simp only [IntKind.wrap_i64]; omega
  have f1 : ¬ (n : Int) < 4 := by omega
  have f2 : ¬ (1000 : Int) < (n : Int) := by omega
  have f3 : ¬ (F : Int) < 0 := by omega
  have f4 : ¬ r < (F : Int) := by omega
  have f5 : (n : Int) - 2 = (m : Int) := by omega
  have f5w : IntKind.i64.wrap (m : Int) = (m : Int) := by simp only [IntKind.wrap_i64]; omega
  have hr' := hr.symm
  obtain ⟨X, hX⟩ : ∃ X, X = slF F d.f := ⟨_, rfl⟩
  have hXl := slF_lt F d.f
  rw [← hX] at hXl ht
  have f6 : (X.1 : Int) + 1 = ((X.1 + 1 : Nat) : Int) := by omega
  obtain ⟨x1, hx1⟩ : ∃ x, x = X.1 + 1 := ⟨_, rfl⟩
  rw [← hx1] at f6
  have f6w : IntKind.u64.wrap (x1 : Int) = (x1 : Int) := by simp only [IntKind.wrap_u64]; omega
  have GR := hidm (fun (Q' : Nat → Prop) (L : Nat) (w' : World) (hP : Pair W Q' L D ⟨F, m, 0, [], 0, false⟩ d w') => greater_any hP (by show F + 1 < d.n; omega))
  have LD := hidm (fun (Q' : Nat → Prop) (L : Nat) (w' : World) (hP : Pair W Q' L D ⟨F, m, 0, [], 0, false⟩ d w') => load_any hP X.1 X.2 (by show F + 2 + m ≤ d.n; omega) rfl rfl (readG F m d.f) (by unfold readG; rw [← hX]))
  have hbu : d.burnt = false := by unfold PD.burnt; rw [hfu]; rfl
  have BG := hidm (fun (Q' : Nat → Prop) (L : Nat) (w' : World) (hP : Pair W Q' L D (PL.has ⟨F, m, 0, [], 0, false⟩ (readG F m d.f)) d w') => begin_on hP x1 X.2 (by omega) (by omega) (by show F + 1 < d.n; omega) hbu (by show (d.fu && _) = false; rw [hfu]; rfl) hc hw hf)
  have FIN := hidm (show (PL.has ⟨F, m, 0, [], 0, false⟩ (readG F m d.f)).F = F ∧ openedG F m d.f = { PL.has ⟨F, m, 0, [], 0, false⟩ (readG F m d.f) with turn := x1 } ∧ opened d F = (d.write (slot F x1) (sealB (sbody x1 X.2))).burn.flush.burn from by
    refine ⟨rfl, ?_, ?_⟩
    · unfold openedG; rw [hx1, hX]; rfl
    · unfold opened; rw [hx1, hX])
  have H1 := hidm hP1
  have K1 := hidm hK1
  have HX := hidm hX
  have HWS := hidm h.bel.size
  clear h hP1 hK1 hr hd4 hX hXl ht hx1 hF hm hn hfu hbu hc hw hf
  go_enter Tryz.func37, Tryz.ntmps37
  go_wp2_with fail
  refine HL.out.mono ?_
  rintro e w1 ⟨rfl, rfl⟩
  go_upto_region 5 with fail
  unfold rawLog at H1 K1
  obtain ⟨w1, hw1⟩ : ∃ w1, w1 = w.alloc (.cells #[.pointer (some ⟨w.heap.size, 0, none⟩), .pointer (some ⟨D, 0, none⟩), .int .i64 (F : Int), .int .i64 (m : Int), .int .u64 0, .slice none 0 0, .int .i64 0, .bool false] 116) := ⟨_, rfl⟩
  rw [← hw1] at H1 K1 ⊢
  clear hw1
  obtain ⟨L, hL⟩ : ∃ L, L = w.heap.size := ⟨_, rfl⟩
  have HLL := hidm (show w.heap.size ≤ L from by omega)
  rw [← hL] at H1 ⊢
  clear hL
  go_wp2_with fail
  refine (GR.out _ L w1 H1.out).mono ?_
  rintro e w2 ⟨rfl, hb2⟩
  rw [show slF ({ F := F, n := m, turn := 0, recs := [], used := 0, halted := false } : PL).F d.f = X from HX.out.symm]
  have hba := (Below.refl w2.heap.size w2).alloc (Nat.le_refl _) (.cells #[.int .u64 (X.1 : Int), .int .u64 (X.2 : Int)] 118)
  have H3 := hidm (H1.out.guard (hb2.trans (hba.mono hb2.size)))
  have K3 := hidm (K1.out.trans (H1.out.kept (hb2.trans (hba.mono hb2.size))))
  have R3 := hidm (slotRow.new w2 (X.1 : Int) (X.2 : Int))
  have HQS := hidm (show (fun k => Q k ∨ (w1.heap.size ≤ k ∧ k < (w2.alloc (.cells #[.int .u64 (X.1 : Int), .int .u64 (X.2 : Int)] 118)).heap.size)) w2.heap.size from .inr ⟨hb2.size, by simp⟩)
  clear hba hb2
  go_upto_region 6 with fail
  obtain ⟨w3, hw3⟩ : ∃ w3, w3 = w2.alloc (.cells #[.int .u64 (X.1 : Int), .int .u64 (X.2 : Int)] 118) := ⟨_, rfl⟩
  rw [← hw3] at H3 K3 R3 HQS ⊢
  clear hw3
  obtain ⟨SB, hSB⟩ : ∃ SB, SB = w2.heap.size := ⟨_, rfl⟩
  rw [← hSB] at R3 HQS ⊢
  clear hSB
  obtain ⟨Q3, hQ3⟩ : ∃ Q3 : Nat → Prop, Q3 = fun k => Q k ∨ (w1.heap.size ≤ k ∧ k < w3.heap.size) := ⟨_, rfl⟩
  have HQ3 := hidm (show ∀ k, Q k → Q3 k from fun k hk => by rw [hQ3]; exact .inl hk)
  rw [← hQ3] at H3
  have HQS := hidm (show Q3 SB from by rw [hQ3]; exact HQS.out)
  clear hQ3
  have s0 := R3.out.c0
  have s1 := R3.out.c1
  go_wp2_with fail
  refine (LD.out _ L w3 H3.out).mono ?_
  rintro e w4 ⟨rfl, h4, k4⟩
  have H4 := hidm h4
  have K4 := hidm (K3.out.trans (keepQ_less k4 HQ3.out))
  have R4 := hidm (R3.out.keep (k4 SB HQS.out))
  clear h4 k4 s0 s1
  have s0 := R4.out.c0
  have s1 := R4.out.c1
  go_wp2_with fail
  refine (BG.out _ L w4 H4.out).mono ?_
  rintro e w5 ⟨rfl, h5, k5⟩
  have H5 := hidm h5
  have K5 := hidm (K4.out.trans (keepQ_less k5 HQ3.out))
  clear h5 k5 s0 s1
  go_wp2_with fail
  go_ret2
  refine ⟨L, rfl, ?_, K5.out, HLL.out⟩
  rw [FIN.out.2.1, FIN.out.2.2]
  exact H5.out.less HQ3.out
end
end Wal
end Go.Proofs.YtmccnlffikegfaaGreatDoor
/- Records. Conditions: as each says. -/
namespace Go.Proofs.YtmccnlffikegfaaGreatDoor
open Go.RowKit
namespace Wal
open Dsk (PD Mine KeepQ DiskIs Only Grow upd pad)
open Crc (S S_of S_size S_append S_add hidm)
open Cod (clone_any)
set_option maxHeartbeats 2000000 in
theorem sclone_nil (w : World) :
    Calls Tryz.prog 92 #[.slice none 0 0] w fun e w' => e = .returned (.slice none 0 0) ∧ w' = w := by
  have hq : ∀ (w : World) (a : Option Addr) (n c n' c' : Nat), (binOp .eql 28 (.slice a n c) (.slice none n' c')).run Tryz.prog w = .ok (.bool a.isNone) w := fun w a n c n' c' => Lib.run_eql_slice_nil w _ _ a n c n' c' Tryz.underlying28
  go_enter Tryz.func92, Tryz.ntmps92
  go_wp2_with fail
  go_ret
  exact ⟨rfl, rfl⟩
set_option maxHeartbeats 2000000 in
set_option maxRecDepth 100000 in
theorem sclone_some (g n c : Nat) (xs : List Value) (w : World) (hn : n ≤ 1000000) (h1 : ∀ v ∈ xs, v.oneCell' = true) (hown : w.ownsRow 0 9 1 (.slice (some ⟨g, 0, none⟩) n c) n xs) :
    Calls Tryz.prog 92 #[.slice (some ⟨g, 0, none⟩) n c] w fun e w' => ∃ v', e = .returned v' ∧ w'.ownsRow w.heap.size 9 1 v' n xs ∧ Below w.heap.size w w' := by
  obtain ⟨i0, hi0, hz0, hz1, hz2⟩ := info_parts infoS
  have hq : ∀ (w : World) (a : Option Addr) (n c n' c' : Nat), (binOp .eql 28 (.slice a n c) (.slice none n' c')).run Tryz.prog w = .ok (.bool a.isNone) w := fun w a n c n' c' => Lib.run_eql_slice_nil w _ _ a n c n' c' Tryz.underlying28
  have hzW : (Value.string ⟨#[]⟩).cells.size = 1 := rfl
  have HXL := hidm (show xs.length = n * 1 from hown.1)
  have HO := hidm (show ∀ j u, xs[j]? = some u → g < w.heap.size ∧ w.cell? ⟨g, j, none⟩ = some u from fun j u hu => by
    rcases hown.2 with ⟨hv, _⟩ | ⟨g', c', cur, hv, _, hh, _, _, hsz, htk⟩
    · cases hv
    · simp only [Value.slice.injEq, Option.some.injEq, Addr.mk.injEq] at hv
      obtain ⟨⟨rfl, _⟩, _⟩ := hv
      refine ⟨lt_of_block hh, ?_⟩
      rw [cell_of_row _ _ _ _ _ (0, 0) hh]
      rw [← htk] at hu
      have hj : j < n * 1 := by
        have := (List.getElem?_eq_some_iff.1 hu).1
        simp at this; omega
      rw [List.getElem?_take_of_lt hj] at hu
      simpa using hu)
  have H1 := hidm h1
  clear hown h1
  go_enter Tryz.func92, Tryz.ntmps92
  go_wp2_with (at_builtin; refine wpList_append_own _ rfl _ _ 28 rfl w.heap.size 9 i0 (.string ⟨#[]⟩) 1 16 Tryz.underlying28 hi0 hz0 hz1 hz2 hzW (by decide) _ _ _ rfl (World.ownsRow_made w #[] 0 (Nat.le_refl _) (Nat.zero_le _) rfl) ⟨g, 0, none⟩ n c xs rfl ?qc1 ?qc2 ?qc3 ?qc4 ?qc5 ?qc6 ?_)
  case qc1 => exact HXL.out
  case qc2 =>
    intro j u hj
    obtain ⟨h1, h2⟩ := HO.out j u hj
    have hadd : (⟨g, 0, none⟩ : Addr).add j = ⟨g, j, none⟩ := by unfold Addr.add; split <;> simp_all
    rw [hadd]
    exact cell_later ((Below.refl _ w).alloc (Nat.le_refl _) _) h2
  case qc3 => exact H1.out
  case qc4 => unfold maxLen; omega
  case qc5 => omega
  case qc6 => simp
  intro v' w1 hown hgrow hnil
  have HOW := hidm (show w1.ownsRow w.heap.size 9 1 v' n xs from by simpa using hown)
  have HGR := hidm hgrow
  clear hown hgrow hnil
  go_wp2_with fail
  go_ret
  exact ⟨v', rfl, HOW.out, ((Below.refl _ w).alloc (Nat.le_refl _) _).grown HGR.out (by simp) (by intro k hk; simp [Value.ownBlock] at hk; omega)⟩
theorem sclone_any (ao : Option Addr) (n c : Nat) (xs : List Value) (w : World) (hn : n ≤ 1000000) (h1 : ∀ v ∈ xs, v.oneCell' = true) (hown : w.ownsRow 0 9 1 (.slice ao n c) n xs) :
    Calls Tryz.prog 92 #[.slice ao n c] w fun e w' => ∃ ao' c', e = .returned (.slice ao' n c') ∧ w'.ownsRow w.heap.size 9 1 (.slice ao' n c') n xs ∧ Below w.heap.size w w' := by
  rcases hown.2 with ⟨hv, h0⟩ | ⟨g, c', cur, hv, _⟩
  · simp only [Value.slice.injEq] at hv
    obtain ⟨rfl, hn0, rfl⟩ := hv
    subst hn0
    have hx : xs = [] := List.length_eq_zero_iff.1 (by simpa using hown.1)
    subst hx
    exact (sclone_nil w).mono fun e w' ⟨he, hw⟩ => ⟨none, 0, he, World.ownsRow_nil _ _ _ _, hw ▸ Below.refl _ _⟩
  · simp only [Value.slice.injEq, true_and] at hv
    obtain ⟨rfl, rfl⟩ := hv
    refine (sclone_some g n c xs w hn h1 hown).mono fun e w' ⟨v', he, ho, hb⟩ => ?_
    rcases ho.2 with ⟨hv, h0⟩ | ⟨g', c2, cur2, hv, _⟩
    · subst hv; subst h0
      exact ⟨none, 0, he, ho, hb⟩
    · subst hv
      exact ⟨_, _, he, ho, hb⟩
theorem records_no (p : Option Addr) (w : World) (h : NotLog p w) : Calls Tryz.prog 64 #[.pointer p] w fun e w' => e = .returned (.slice none 0 0) ∧ w = w' := by
  have G := hidm (lgiven_no p w h)
  go_enter Tryz.func64, Tryz.ntmps64
  go_wp2_with fail
  refine G.out.mono ?_
  rintro e w1 ⟨rfl, rfl⟩
  go_wp2_with fail
  go_ret
  exact ⟨rfl, rfl⟩
/-- A cell of a row of strings. -/
theorem strs_at {w : World} {base : Nat} {ao : Option Addr} {c : Nat} {l : List (List UInt8)} (h : w.ownsRow base 9 1 (.slice ao l.length c) l.length (strs l)) (i : Nat) (hi : i < l.length) : ∃ b, ao = some ⟨b, 0, none⟩ ∧ base ≤ b ∧ b < w.heap.size ∧ w.cell? ⟨b, i, none⟩ = some (.string (S l[i])) ∧ w.frozen? ⟨b, i, none⟩ = false ∧ (w.setCell ⟨b, i, none⟩ (.string (S l[i]))).heap[b]? = w.heap[b]? := by
  rcases h.2 with ⟨hv, h0⟩ | ⟨b, c', cur, hv, hb, hh, _, _, hsz, htk⟩
  · simp only [Value.slice.injEq] at hv
    omega
  · simp only [Value.slice.injEq] at hv
    have hc : cur[i]? = some (.string (S l[i])) := by
      have h1 : (strs l)[i]? = some (.string (S l[i])) := by simp [strs, hi]
      rw [← htk, List.getElem?_take_of_lt (by omega)] at h1
      simpa using h1
    refine ⟨b, hv.1, hb, lt_of_block hh, ?_, frozen_of_row w b i _ _ hh, ?_⟩
    · rw [cell_of_row w b i _ _ (0, 0) hh]; exact hc
    · rw [heap_setCell_same w b i _ _ _ hh, hh]
      congr 2
      apply Array.ext_getElem?
      intro j
      rw [Array.getElem?_setIfInBounds]
      split
      · rename_i e
        subst e
        split
        · exact hc.symm
        · rename_i h9
          have := (Array.getElem?_eq_some_iff.1 hc).1
          omega
      · rfl
section
variable {W : World} {Q : Nat → Prop} {L D : Nat} {g : PL} {d : PD} {w : World}
set_option maxHeartbeats 4000000 in
set_option maxRecDepth 100000 in
theorem records_any (h : Pair W Q L D g d w) (hbig : ∀ x ∈ g.recs, x.length ≤ 1000000) :
    Calls Tryz.prog 64 #[.pointer (some ⟨L, 0, none⟩)] w fun e w' => ∃ ao c, e = .returned (.slice ao g.recs.length c) ∧ w'.ownsRow w.heap.size 9 1 (.slice ao g.recs.length c) g.recs.length (strs g.recs) ∧ Below w.heap.size w w' := by
  obtain ⟨c0, _⟩ := h.cells
  obtain ⟨hF, hn1, ht, hu1, hr1⟩ := h.ok
  have G := hidm (lgiven_yes L w c0)
  obtain ⟨U, sl, hm, hlg, hu⟩ := h.ex
  have c5 : w.cell? ⟨L, 5, none⟩ = some sl := hlg.cellAt 5
  obtain ⟨so, sc, hsl⟩ : ∃ so sc, sl = .slice so g.recs.length sc := by
    rcases hlg.own.2 with ⟨hv, h0⟩ | ⟨b', c', cur, hv, _⟩
    · exact ⟨none, 0, by rw [hv, h0]⟩
    · exact ⟨_, _, hv⟩
  subst hsl
  obtain ⟨n, hn⟩ : ∃ n, n = g.recs.length := ⟨_, rfl⟩
  have hn2 : n ≤ 2000 := by omega
  have SC := hidm (show Calls Tryz.prog 92 #[.slice so n sc] w fun e w' => ∃ ao' c', e = .returned (.slice ao' n c') ∧ w'.ownsRow w.heap.size 9 1 (.slice ao' n c') n (strs g.recs) ∧ Below w.heap.size w w' from sclone_any so n sc (strs g.recs) w (by omega) (strs_one _) (by rw [hn]; exact hlg.own))
  rw [← hn] at c5 ⊢
  obtain ⟨l, hl⟩ : ∃ l, l = g.recs := ⟨_, rfl⟩
  rw [← hl] at SC hn hbig ⊢
  have HBIG := hidm hbig
  have HN := hidm hn
  clear h hm hlg hu hF hn1 ht hu1 hr1 hl hn hbig
  go_enter Tryz.func64, Tryz.ntmps64
  go_wp2_with fail
  refine G.out.mono ?_
  rintro e w1 ⟨rfl, rfl⟩
  go_wp2_with fail
  refine SC.out.mono ?_
  rintro e w1 ⟨ao, c, rfl, hown, hb⟩
  have HO := hidm hown
  have HB := hidm hb
  clear hown hb c5
  go_wp2_with fail
  go_loopw [16] (fun ii wr => ∃ i : Nat, ii = .int .i64 i ∧ i ≤ n ∧ Hid (wr.ownsRow w.heap.size 9 1 (.slice ao n c) n (strs l)) ∧ Hid (Below w.heap.size w wr)) (fun ii _ => (n - (intOf ii).toNat))
  case atStart => exact ⟨0, rfl, by omega, HO, HB⟩
  case round =>
    rename World => wr
    obtain ⟨i, rfl, hi, HO, HB⟩ := hrel
    rcases Nat.lt_or_ge i n with hlt | hge
    · have g1 : (i : Int) < (n : Int) := by omega
      have hil : i < l.length := by rw [← HN.out]; exact hlt
      have HO2 := HO.out
      rw [HN.out] at HO2
      obtain ⟨b, rfl, hbb, hbl, hcell, hz, hsame⟩ := strs_at HO2 i hil
      have CL := hidm (fun w => clone_any (S l[i]) w (by rw [S_size]; have := HBIG.out _ (List.getElem_mem hil); omega))
      obtain ⟨x, hx⟩ : ∃ x, x = S l[i] := ⟨_, rfl⟩
      rw [← hx] at CL hcell
      have HX := hidm hx
      clear HO2 hsame hx
      go_wp2_with fail
      refine (CL.out wr).mono ?_
      rintro e w2 ⟨rfl, hb2⟩
      have HO3 := hidm (Dsk.owns_later HO.out hb2)
      have HB3 := hidm (HB.out.trans (hb2.mono HB.out.size))
      have HBB := hidm hbb
      clear hb2 hcell hz
      have HO4 := HO3.out
      rw [HN.out] at HO4
      obtain ⟨b', hbe, _, _, hcell, hz, hsame⟩ := strs_at HO4 i hil
      simp only [Option.some.injEq, Addr.mk.injEq, and_true] at hbe
      subst hbe
      rw [← HX.out] at hcell hsame
      have HSM := hidm hsame
      clear HO4 hsame
      go_wp2_with fail
      go_roundw
      case rel => exact ⟨i + 1, by go_num, by omega, hidm (Dsk.ownsRow_of HO3.out (fun k hk => by
        have hk : some b = some k := hk
        rw [← Option.some.inj hk]; exact HSM.out)), hidm (HB3.out.setCell (p := ⟨b, i, none⟩) HBB.out _)⟩
      case measure => simp [intOf]; omega
    · obtain rfl : i = n := by omega
      have g1 : ¬ (i : Int) < (i : Int) := by omega
      go_wp2_with fail
      go_ret
      exact ⟨ao, c, rfl, HO.out, HB.out⟩
end
end Wal
end Go.Proofs.YtmccnlffikegfaaGreatDoor
