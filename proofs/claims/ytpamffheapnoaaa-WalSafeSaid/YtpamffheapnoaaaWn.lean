/- Open. Conditions: as each says. -/
import Derived.Test.YtpamffheapnoaaaWm
namespace Go.Proofs.Ytpamffheapnoaaa
open Go.RowKit
namespace Wal
open Dsk (PD Mine KeepQ DiskIs Only Grow upd pad NotGiven)
open Crc (S S_of S_size S_append S_add hidm)
/-- What Open makes of a disk. -/
def opened (d : PD) (F : Nat) : PD := (d.write (slot F ((slF F d.f).1 + 1)) (sealB (sbody ((slF F d.f).1 + 1) (slF F d.f).2))).burn.flush.burn
theorem opened_is {d : PD} (F : Nat) (hf : d.fu = false) : (opened d F).n = d.n ∧ (opened d F).f = upd d.f (slot F ((slF F d.f).1 + 1) : Nat) (pad (sealB (sbody ((slF F d.f).1 + 1) (slF F d.f).2))) ∧ (opened d F).cs = [] ∧ (opened d F).wr = d.wr + 1 ∧ (opened d F).fl = d.fl + 1 ∧ (opened d F).fu = false := ⟨rfl, rfl, rfl, rfl, rfl, hf⟩
/-- What the disk's log is. -/
def readG (F m : Nat) (f : Int → List UInt8) : List (List UInt8 × Nat) := go (plF F f) (slF F f).1 m 0 (st (slF F f).2) []
def openedG (F m : Nat) (f : Int → List UInt8) : PL := ⟨F, m, (slF F f).1 + 1, (readG F m f).map Prod.fst, lst (readG F m f) 0, false⟩
section
variable {W : World} {Q : Nat → Prop} {L D : Nat} {g : PL} {d : PD} {w : World}
set_option maxHeartbeats 1000000 in
theorem open_nil (w : World) (hl : Calls Try.prog 31 #[.pointer none] w fun e w' => e = .returned (.int .i64 0) ∧ w = w') : Calls Try.prog 15 #[.pointer none, .int .i64 0, .int .i64 10] w fun e w' => e = .returned (.tuple #[.pointer none, .int .i64 1]) ∧ w = w' := by
  have HL := hidm hl
  clear hl
  go_enter Try.func15, Try.ntmps15
  go_wp2_with fail
  refine HL.out.mono ?_
  rintro e w1 ⟨rfl, rfl⟩
  go_wp2_with fail
  go_ret2
  exact ⟨rfl, rfl⟩
set_option maxHeartbeats 1000000 in
theorem open_far (h : Mine W Q D d w) (F n : Nat) (hn : 4 ≤ n ∧ n ≤ 1000) (hF : F ≤ 4096) (hfar : d.n < F + n) (hd : d.n ≤ 4096) : Calls Try.prog 15 #[.pointer (some ⟨D, 0, none⟩), .int .i64 (F : Int), .int .i64 (n : Int)] w fun e w' => e = .returned (.tuple #[.pointer none, .int .i64 1]) ∧ w = w' := by
  have HL := hidm (Dsk.m_len h)
  obtain ⟨r, hr⟩ : ∃ r : Int, r = (d.n : Int) - (n : Int) := ⟨_, rfl⟩
  have hrw : IntKind.i64.wrap r = r := by simp only [IntKind.wrap_i64]; omega
  have f1 : ¬ (n : Int) < 4 := by omega
  have f2 : ¬ (1000 : Int) < (n : Int) := by omega
  have f3 : ¬ (F : Int) < 0 := by omega
  have f4 : r < (F : Int) := by omega
  have hr' := hr.symm
  clear h hr
  go_enter Try.func15, Try.ntmps15
  go_wp2_with fail
  refine HL.out.mono ?_
  rintro e w1 ⟨rfl, rfl⟩
  go_wp2_with fail
  go_ret2
  exact ⟨rfl, rfl⟩
/-- A new log's block. -/
def rawLog (L D : Nat) (F m : Nat) : Obj := .cells #[.pointer (some ⟨L, 0, none⟩), .pointer (some ⟨D, 0, none⟩), .int .i64 (F : Int), .int .i64 (m : Int), .int .u64 0, .slice none 0 0, .int .i64 0, .bool false] 52
theorem Pair.new (h : Mine W Q D d w) (F m : Nat) (hF : F ≤ 4096) (hm : m ≤ 1000) : Pair W Q w.heap.size D ⟨F, m, 0, [], 0, false⟩ d (w.alloc (rawLog w.heap.size D F m)) ∧ KeepQ Q w (w.alloc (rawLog w.heap.size D F m)) := by
  have hb : Below w.heap.size w (w.alloc (rawLog w.heap.size D F m)) := (Below.refl _ _).alloc (Nat.le_refl _) _
  have hg := h.guard hb
  have hW := h.bel.size
  have hq := h.qlt
  have hg2 : Mine W (fun k => Q k ∨ k = w.heap.size) D d (w.alloc (rawLog w.heap.size D F m)) := by
    obtain ⟨⟨T, hT, hq2⟩, hB, hql⟩ := hg
    refine ⟨⟨T, hT, fun k hk => ⟨(hq2 k hk).1, fun e => (hq2 k hk).2 ?_⟩⟩, hB, fun k hk => ?_⟩
    · rcases e with e | e
      · exact .inl e
      · exact .inr ⟨by omega, by rw [e]; simp⟩
    · rcases hk with e | e
      · exact hql k (.inl e)
      · rw [e]; simp
  refine ⟨⟨fun k => k = w.heap.size, .slice none 0 0, hg2, ⟨heap_alloc_last w _, World.ownsRow_nil _ _ _ _, rfl, fun b hb => (by cases hb), ⟨hF, hm, Nat.zero_le _, Nat.zero_le _, Nat.zero_le _⟩⟩, fun k hk => ?_⟩, fun k hk => ?_⟩
  · have hk : k = w.heap.size := hk
    rw [hk]
    exact ⟨hW, fun e => by have := hq _ e; omega⟩
  · exact hb.block k (hq k hk)
set_option maxHeartbeats 4000000 in
set_option maxRecDepth 100000 in
theorem open_any (h : Mine W Q D d w) (F n m : Nat) (hn : 4 ≤ n ∧ n ≤ 1000) (hm : n = m + 2) (hF : F + n ≤ d.n) (hfu : d.fu = false) (ht : (slF F d.f).1 < 1099511627776) (hc : d.cs.length < 1000000) (hw : d.wr < 1000000) (hf : d.fl < 1000000) :
    Calls Try.prog 15 #[.pointer (some ⟨D, 0, none⟩), .int .i64 (F : Int), .int .i64 (n : Int)] w fun e w' => ∃ L, e = .returned (.tuple #[.pointer (some ⟨L, 0, none⟩), .int .i64 0]) ∧ Pair W Q L D (openedG F m d.f) (opened d F) w' ∧ KeepQ Q w w' ∧ w.heap.size ≤ L := by
  have hd4 := h.ok.1
  have HL := hidm (Dsk.m_len h)
  obtain ⟨hP1, hK1⟩ := Pair.new h F m (by omega) (by omega)
  obtain ⟨r, hr⟩ : ∃ r : Int, r = (d.n : Int) - (n : Int) := ⟨_, rfl⟩
  have hrw : IntKind.i64.wrap r = r := by simp only [IntKind.wrap_i64]; omega
  have f1 : ¬ (n : Int) < 4 := by omega
  have f2 : ¬ (1000 : Int) < (n : Int) := by omega
  have f3 : ¬ (F : Int) < 0 := by omega
  have f4 : ¬ r < (F : Int) := by omega
  have f5 : (n : Int) - 2 = (m : Int) := by omega
  have f5w : IntKind.i64.wrap (m : Int) = (m : Int) := by simp only [IntKind.wrap_i64]; omega
  have hr' := hr.symm
  obtain ⟨X, hX⟩ : ∃ X, X = slF F d.f := ⟨_, rfl⟩
  have hXl := slF_lt F d.f
  rw [← hX] at hXl ht
  have f6 : (X.1 : Int) + 1 = ((X.1 + 1 : Nat) : Int) := by omega
  obtain ⟨x1, hx1⟩ : ∃ x, x = X.1 + 1 := ⟨_, rfl⟩
  rw [← hx1] at f6
  have f6w : IntKind.u64.wrap (x1 : Int) = (x1 : Int) := by simp only [IntKind.wrap_u64]; omega
  have GR := hidm (fun (Q' : Nat → Prop) (L : Nat) (w' : World) (hP : Pair W Q' L D ⟨F, m, 0, [], 0, false⟩ d w') => greater_any hP (by show F + 1 < d.n; omega))
  have LD := hidm (fun (Q' : Nat → Prop) (L : Nat) (w' : World) (hP : Pair W Q' L D ⟨F, m, 0, [], 0, false⟩ d w') => load_any hP X.1 X.2 (by show F + 2 + m ≤ d.n; omega) rfl rfl (readG F m d.f) (by unfold readG; rw [← hX]))
  have hbu : d.burnt = false := by unfold PD.burnt; rw [hfu]; rfl
  have BG := hidm (fun (Q' : Nat → Prop) (L : Nat) (w' : World) (hP : Pair W Q' L D (PL.has ⟨F, m, 0, [], 0, false⟩ (readG F m d.f)) d w') => begin_on hP x1 X.2 (by omega) (by omega) (by show F + 1 < d.n; omega) hbu (by show (d.fu && _) = false; rw [hfu]; rfl) hc hw hf)
  have FIN := hidm (show (PL.has ⟨F, m, 0, [], 0, false⟩ (readG F m d.f)).F = F ∧ openedG F m d.f = { PL.has ⟨F, m, 0, [], 0, false⟩ (readG F m d.f) with turn := x1 } ∧ opened d F = (d.write (slot F x1) (sealB (sbody x1 X.2))).burn.flush.burn from by
    refine ⟨rfl, ?_, ?_⟩
    · unfold openedG; rw [hx1, hX]; rfl
    · unfold opened; rw [hx1, hX])
  have H1 := hidm hP1
  have K1 := hidm hK1
  have HX := hidm hX
  have HWS := hidm h.bel.size
  clear h hP1 hK1 hr hd4 hX hXl ht hx1 hF hm hn hfu hbu hc hw hf
  go_enter Try.func15, Try.ntmps15
  go_wp2_with fail
  refine HL.out.mono ?_
  rintro e w1 ⟨rfl, rfl⟩
  go_upto_region 5 with fail
  unfold rawLog at H1 K1
  obtain ⟨w1, hw1⟩ : ∃ w1, w1 = w.alloc (.cells #[.pointer (some ⟨w.heap.size, 0, none⟩), .pointer (some ⟨D, 0, none⟩), .int .i64 (F : Int), .int .i64 (m : Int), .int .u64 0, .slice none 0 0, .int .i64 0, .bool false] 52) := ⟨_, rfl⟩
  rw [← hw1] at H1 K1 ⊢
  clear hw1
  obtain ⟨L, hL⟩ : ∃ L, L = w.heap.size := ⟨_, rfl⟩
  have HLL := hidm (show w.heap.size ≤ L from by omega)
  rw [← hL] at H1 ⊢
  clear hL
  go_wp2_with fail
  refine (GR.out _ L w1 H1.out).mono ?_
  rintro e w2 ⟨rfl, hb2⟩
  rw [show slF ({ F := F, n := m, turn := 0, recs := [], used := 0, halted := false } : PL).F d.f = X from HX.out.symm]
  have hba := (Below.refl w2.heap.size w2).alloc (Nat.le_refl _) (.cells #[.int .u64 (X.1 : Int), .int .u64 (X.2 : Int)] 63)
  have H3 := hidm (H1.out.guard (hb2.trans (hba.mono hb2.size)))
  have K3 := hidm (K1.out.trans (H1.out.kept (hb2.trans (hba.mono hb2.size))))
  have R3 := hidm (slotRow.new w2 (X.1 : Int) (X.2 : Int))
  have HQS := hidm (show (fun k => Q k ∨ (w1.heap.size ≤ k ∧ k < (w2.alloc (.cells #[.int .u64 (X.1 : Int), .int .u64 (X.2 : Int)] 63)).heap.size)) w2.heap.size from .inr ⟨hb2.size, by simp⟩)
  clear hba hb2
  go_upto_region 6 with fail
  obtain ⟨w3, hw3⟩ : ∃ w3, w3 = w2.alloc (.cells #[.int .u64 (X.1 : Int), .int .u64 (X.2 : Int)] 63) := ⟨_, rfl⟩
  rw [← hw3] at H3 K3 R3 HQS ⊢
  clear hw3
  obtain ⟨SB, hSB⟩ : ∃ SB, SB = w2.heap.size := ⟨_, rfl⟩
  rw [← hSB] at R3 HQS ⊢
  clear hSB
  obtain ⟨Q3, hQ3⟩ : ∃ Q3 : Nat → Prop, Q3 = fun k => Q k ∨ (w1.heap.size ≤ k ∧ k < w3.heap.size) := ⟨_, rfl⟩
  have HQ3 := hidm (show ∀ k, Q k → Q3 k from fun k hk => by rw [hQ3]; exact .inl hk)
  rw [← hQ3] at H3
  have HQS := hidm (show Q3 SB from by rw [hQ3]; exact HQS.out)
  clear hQ3
  have s0 := R3.out.c0
  have s1 := R3.out.c1
  go_wp2_with fail
  refine (LD.out _ L w3 H3.out).mono ?_
  rintro e w4 ⟨rfl, h4, k4⟩
  have H4 := hidm h4
  have K4 := hidm (K3.out.trans (keepQ_less k4 HQ3.out))
  have R4 := hidm (R3.out.keep (k4 SB HQS.out))
  clear h4 k4 s0 s1
  have s0 := R4.out.c0
  have s1 := R4.out.c1
  go_wp2_with fail
  refine (BG.out _ L w4 H4.out).mono ?_
  rintro e w5 ⟨rfl, h5, k5⟩
  have H5 := hidm h5
  have K5 := hidm (K4.out.trans (keepQ_less k5 HQ3.out))
  clear h5 k5 s0 s1
  go_wp2_with fail
  go_ret2
  refine ⟨L, rfl, ?_, K5.out, HLL.out⟩
  rw [FIN.out.2.1, FIN.out.2.2]
  exact H5.out.less HQ3.out
end
end Wal
end Go.Proofs.Ytpamffheapnoaaa
