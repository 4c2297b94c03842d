/- wal.Open beneath any fuse; redo; a pager's Open. Conditions: as each says. -/
import Derived.Test.YtmccnlffikegfaaGreatDoorZPn
namespace Go.Proofs.YtmccnlffikegfaaGreatDoor
open Go.RowKit
namespace Wal
open Pgr (run slotS code begin_run beginG)
open Dsk (PD Mine KeepQ DiskIs Only Grow upd pad)
open Crc (S S_of S_size S_append S_add hidm)
/-- What an Open of a log comes to: the log, or what a fuse leaves. -/
def OpenP (W : World) (Q : Nat → Prop) (D F m : Nat) (d : PD) (w : World) (e : Ending) (w' : World) : Prop :=
  ((run d (slotS F ((slF F d.f).1 + 1) (slF F d.f).2)).1 = true ∧ ∃ L, e = .returned (.tuple #[.pointer (some ⟨L, 0, none⟩), .int .i64 0]) ∧ Pair W Q L D (openedG F m d.f) (run d (slotS F ((slF F d.f).1 + 1) (slF F d.f).2)).2 w' ∧ KeepQ Q w w') ∨
    ((run d (slotS F ((slF F d.f).1 + 1) (slF F d.f).2)).1 = false ∧ e = .returned (.tuple #[.pointer none, .int .i64 6]) ∧ Mine W Q D (run d (slotS F ((slF F d.f).1 + 1) (slF F d.f).2)).2 w' ∧ KeepQ Q w w')
section
variable {W : World} {Q : Nat → Prop} {L D : Nat} {g : PL} {d : PD} {w : World}
theorem pair_mine (h : Pair W Q L D g d w) : Mine W Q D d w ∧ True := by
  obtain ⟨U, sl, ⟨⟨T, hT, hq⟩, hB, hql⟩, _, _⟩ := h.ex
  exact ⟨⟨⟨T, hT, fun j hj => ⟨(hq j hj).1, fun e => (hq j hj).2 (.inl e)⟩⟩, hB, fun j hj => hql j (.inl hj)⟩, trivial⟩
theorem _root_.Go.Proofs.YtmccnlffikegfaaGreatDoor.Dsk.Mine.less2 {Q' : Nat → Prop} (h : Mine W Q D d w) (hQ : ∀ k, Q' k → Q k) : Mine W Q' D d w := by
  obtain ⟨⟨T, hT, hq⟩, hB, hql⟩ := h
  exact ⟨⟨T, hT, fun j hj => ⟨(hq j hj).1, fun e => (hq j hj).2 (hQ j e)⟩⟩, hB, fun j hj => hql j (hQ j hj)⟩
set_option maxHeartbeats 4000000 in
set_option maxRecDepth 100000 in
theorem open_run (h : Mine W Q D d w) (F n m : Nat) (hn : 4 ≤ n ∧ n ≤ 1000) (hm : n = m + 2) (hF : F + n ≤ d.n) (ht : (slF F d.f).1 < 1099511627776) (hc : d.cs.length < 1000000) (hw : d.wr < 1000000) (hf : d.fl < 1000000) :
    Calls Tryz.prog 37 #[.pointer (some ⟨D, 0, none⟩), .int .i64 (F : Int), .int .i64 (n : Int)] w fun e w' => OpenP W Q D F m d w e w' := by
  have hd4 := h.ok.1
  have HL := hidm (Dsk.m_len h)
  obtain ⟨hP1, hK1⟩ := Pair.new h F m (by omega) (by omega)
  obtain ⟨r, hr⟩ : ∃ r : Int, r = (d.n : Int) - (n : Int) := ⟨_, rfl⟩
  have hrw : IntKind.i64.wrap r = r := by simp only [IntKind.wrap_i64]; omega
  have f1 : ¬ (n : Int) < 4 := by omega
  have f2 : ¬ (1000 : Int) < (n : Int) := by omega
  have f3 : ¬ (F : Int) < 0 := by omega
  have f4 : ¬ r < (F : Int) := by omega
  have f5 : (n : Int) - 2 = (m : Int) := by omega
  have f5w : IntKind.i64.wrap (m : Int) = (m : Int) := by simp only [IntKind.wrap_i64]; omega
  have hr' := hr.symm
  obtain ⟨X, hX⟩ : ∃ X, X = slF F d.f := ⟨_, rfl⟩
  have hXl := slF_lt F d.f
  rw [← hX] at hXl ht
  have f6 : (X.1 : Int) + 1 = ((X.1 + 1 : Nat) : Int) := by omega
  obtain ⟨x1, hx1⟩ : ∃ x, x = X.1 + 1 := ⟨_, rfl⟩
  rw [← hx1] at f6
  have f6w : IntKind.u64.wrap (x1 : Int) = (x1 : Int) := by simp only [IntKind.wrap_u64]; omega
  have GR := hidm (fun (Q' : Nat → Prop) (L : Nat) (w' : World) (hP : Pair W Q' L D ⟨F, m, 0, [], 0, false⟩ d w') => greater_any hP (by show F + 1 < d.n; omega))
  have LD := hidm (fun (Q' : Nat → Prop) (L : Nat) (w' : World) (hP : Pair W Q' L D ⟨F, m, 0, [], 0, false⟩ d w') => load_any hP X.1 X.2 (by show F + 2 + m ≤ d.n; omega) rfl rfl (readG F m d.f) (by unfold readG; rw [← hX]))
  have BG := hidm (fun (Q' : Nat → Prop) (L : Nat) (w' : World) (hP : Pair W Q' L D (PL.has ⟨F, m, 0, [], 0, false⟩ (readG F m d.f)) d w') => begin_run hP x1 X.2 (by omega) (by omega) (by show F + 1 < d.n; omega) hc hw hf)
  change Hid (∀ (Q' : Nat → Prop) (L : Nat) (w' : World), _ → Calls _ _ _ w' fun e w2 => e = .returned (.int .i64 (code (run d (slotS F x1 X.2)).1)) ∧ Pair W Q' L D (beginG (PL.has ⟨F, m, 0, [], 0, false⟩ (readG F m d.f)) x1 (run d (slotS F x1 X.2)).1) (run d (slotS F x1 X.2)).2 w2 ∧ KeepQ Q' w' w2) at BG
  have FIN := hidm (show (PL.has ⟨F, m, 0, [], 0, false⟩ (readG F m d.f)).F = F ∧ openedG F m d.f = { PL.has ⟨F, m, 0, [], 0, false⟩ (readG F m d.f) with turn := x1 } from by
    refine ⟨rfl, ?_⟩
    unfold openedG; rw [hx1, hX]; rfl)
  have HPOST := hidm (show OpenP W Q D F m d w = fun e w' => ((run d (slotS F x1 X.2)).1 = true ∧ ∃ L, e = .returned (.tuple #[.pointer (some ⟨L, 0, none⟩), .int .i64 0]) ∧ Pair W Q L D (openedG F m d.f) (run d (slotS F x1 X.2)).2 w' ∧ KeepQ Q w w') ∨
    ((run d (slotS F x1 X.2)).1 = false ∧ e = .returned (.tuple #[.pointer none, .int .i64 6]) ∧ Mine W Q D (run d (slotS F x1 X.2)).2 w' ∧ KeepQ Q w w') from by unfold OpenP; rw [hx1, hX])
  rw [HPOST.out]
  rcases hrr : run d (slotS F x1 X.2) with ⟨ok, dz⟩
  rw [hrr] at BG
  have H1 := hidm hP1
  have K1 := hidm hK1
  have HX := hidm hX
  have HWS := hidm h.bel.size
  clear h hP1 hK1 hr hd4 hX hXl ht hx1 hF hm hn hc hw hf hrr
  cases ok with
  | true =>
    have hcc : code (true, dz).1 = 0 := rfl
    rw [hcc] at BG
    go_enter Tryz.func37, Tryz.ntmps37
    go_wp2_with fail
    refine HL.out.mono ?_
    rintro e w1 ⟨rfl, rfl⟩
    go_upto_region 5 with fail
    unfold rawLog at H1 K1
    obtain ⟨w1, hw1⟩ : ∃ w1, w1 = w.alloc (.cells #[.pointer (some ⟨w.heap.size, 0, none⟩), .pointer (some ⟨D, 0, none⟩), .int .i64 (F : Int), .int .i64 (m : Int), .int .u64 0, .slice none 0 0, .int .i64 0, .bool false] 116) := ⟨_, rfl⟩
    rw [← hw1] at H1 K1 ⊢
    clear hw1
    obtain ⟨L, hL⟩ : ∃ L, L = w.heap.size := ⟨_, rfl⟩
    have HLL := hidm (show w.heap.size ≤ L from by omega)
    rw [← hL] at H1 ⊢
    clear hL
    go_wp2_with fail
    refine (GR.out _ L w1 H1.out).mono ?_
    rintro e w2 ⟨rfl, hb2⟩
    rw [show slF ({ F := F, n := m, turn := 0, recs := [], used := 0, halted := false } : PL).F d.f = X from HX.out.symm]
    have hba := (Below.refl w2.heap.size w2).alloc (Nat.le_refl _) (.cells #[.int .u64 (X.1 : Int), .int .u64 (X.2 : Int)] 118)
    have H3 := hidm (H1.out.guard (hb2.trans (hba.mono hb2.size)))
    have K3 := hidm (K1.out.trans (H1.out.kept (hb2.trans (hba.mono hb2.size))))
    have R3 := hidm (slotRow.new w2 (X.1 : Int) (X.2 : Int))
    have HQS := hidm (show (fun k => Q k ∨ (w1.heap.size ≤ k ∧ k < (w2.alloc (.cells #[.int .u64 (X.1 : Int), .int .u64 (X.2 : Int)] 118)).heap.size)) w2.heap.size from .inr ⟨hb2.size, by simp⟩)
    clear hba hb2
    go_upto_region 6 with fail
    obtain ⟨w3, hw3⟩ : ∃ w3, w3 = w2.alloc (.cells #[.int .u64 (X.1 : Int), .int .u64 (X.2 : Int)] 118) := ⟨_, rfl⟩
    rw [← hw3] at H3 K3 R3 HQS ⊢
    clear hw3
    obtain ⟨SB, hSB⟩ : ∃ SB, SB = w2.heap.size := ⟨_, rfl⟩
    rw [← hSB] at R3 HQS ⊢
    clear hSB
    obtain ⟨Q3, hQ3⟩ : ∃ Q3 : Nat → Prop, Q3 = fun k => Q k ∨ (w1.heap.size ≤ k ∧ k < w3.heap.size) := ⟨_, rfl⟩
    have HQ3 := hidm (show ∀ k, Q k → Q3 k from fun k hk => by rw [hQ3]; exact .inl hk)
    rw [← hQ3] at H3
    have HQS := hidm (show Q3 SB from by rw [hQ3]; exact HQS.out)
    clear hQ3
    have s0 := R3.out.c0
    have s1 := R3.out.c1
    go_wp2_with fail
    refine (LD.out _ L w3 H3.out).mono ?_
    rintro e w4 ⟨rfl, h4, k4⟩
    have H4 := hidm h4
    have K4 := hidm (K3.out.trans (keepQ_less k4 HQ3.out))
    have R4 := hidm (R3.out.keep (k4 SB HQS.out))
    clear h4 k4 s0 s1
    have s0 := R4.out.c0
    have s1 := R4.out.c1
    go_wp2_with fail
    refine (BG.out _ L w4 H4.out).mono ?_
    rintro e w5 ⟨rfl, h5, k5⟩
    have H5 := hidm h5
    have K5 := hidm (K4.out.trans (keepQ_less k5 HQ3.out))
    clear h5 k5 s0 s1
    go_wp2_with fail
    go_ret2
    refine .inl ⟨by trivial, L, rfl, ?_, K5.out⟩
    rw [FIN.out.2]
    exact H5.out.less HQ3.out
  | false =>
    have hcc : code (false, dz).1 = 6 := rfl
    rw [hcc] at BG
    go_enter Tryz.func37, Tryz.ntmps37
    go_wp2_with fail
    refine HL.out.mono ?_
    rintro e w1 ⟨rfl, rfl⟩
    go_upto_region 5 with fail
    unfold rawLog at H1 K1
    obtain ⟨w1, hw1⟩ : ∃ w1, w1 = w.alloc (.cells #[.pointer (some ⟨w.heap.size, 0, none⟩), .pointer (some ⟨D, 0, none⟩), .int .i64 (F : Int), .int .i64 (m : Int), .int .u64 0, .slice none 0 0, .int .i64 0, .bool false] 116) := ⟨_, rfl⟩
    rw [← hw1] at H1 K1 ⊢
    clear hw1
    obtain ⟨L, hL⟩ : ∃ L, L = w.heap.size := ⟨_, rfl⟩
    have HLL := hidm (show w.heap.size ≤ L from by omega)
    rw [← hL] at H1 ⊢
    clear hL
    go_wp2_with fail
    refine (GR.out _ L w1 H1.out).mono ?_
    rintro e w2 ⟨rfl, hb2⟩
    rw [show slF ({ F := F, n := m, turn := 0, recs := [], used := 0, halted := false } : PL).F d.f = X from HX.out.symm]
    have hba := (Below.refl w2.heap.size w2).alloc (Nat.le_refl _) (.cells #[.int .u64 (X.1 : Int), .int .u64 (X.2 : Int)] 118)
    have H3 := hidm (H1.out.guard (hb2.trans (hba.mono hb2.size)))
    have K3 := hidm (K1.out.trans (H1.out.kept (hb2.trans (hba.mono hb2.size))))
    have R3 := hidm (slotRow.new w2 (X.1 : Int) (X.2 : Int))
    have HQS := hidm (show (fun k => Q k ∨ (w1.heap.size ≤ k ∧ k < (w2.alloc (.cells #[.int .u64 (X.1 : Int), .int .u64 (X.2 : Int)] 118)).heap.size)) w2.heap.size from .inr ⟨hb2.size, by simp⟩)
    clear hba hb2
    go_upto_region 6 with fail
    obtain ⟨w3, hw3⟩ : ∃ w3, w3 = w2.alloc (.cells #[.int .u64 (X.1 : Int), .int .u64 (X.2 : Int)] 118) := ⟨_, rfl⟩
    rw [← hw3] at H3 K3 R3 HQS ⊢
    clear hw3
    obtain ⟨SB, hSB⟩ : ∃ SB, SB = w2.heap.size := ⟨_, rfl⟩
    rw [← hSB] at R3 HQS ⊢
    clear hSB
    obtain ⟨Q3, hQ3⟩ : ∃ Q3 : Nat → Prop, Q3 = fun k => Q k ∨ (w1.heap.size ≤ k ∧ k < w3.heap.size) := ⟨_, rfl⟩
    have HQ3 := hidm (show ∀ k, Q k → Q3 k from fun k hk => by rw [hQ3]; exact .inl hk)
    rw [← hQ3] at H3
    have HQS := hidm (show Q3 SB from by rw [hQ3]; exact HQS.out)
    clear hQ3
    have s0 := R3.out.c0
    have s1 := R3.out.c1
    go_wp2_with fail
    refine (LD.out _ L w3 H3.out).mono ?_
    rintro e w4 ⟨rfl, h4, k4⟩
    have H4 := hidm h4
    have K4 := hidm (K3.out.trans (keepQ_less k4 HQ3.out))
    have R4 := hidm (R3.out.keep (k4 SB HQS.out))
    clear h4 k4 s0 s1
    have s0 := R4.out.c0
    have s1 := R4.out.c1
    go_wp2_with fail
    refine (BG.out _ L w4 H4.out).mono ?_
    rintro e w5 ⟨rfl, h5, k5⟩
    have H5 := hidm h5
    have K5 := hidm (K4.out.trans (keepQ_less k5 HQ3.out))
    clear h5 k5 s0 s1
    go_wp2_with fail
    go_ret2
    exact .inr ⟨by trivial, rfl, (pair_mine H5.out).1.less2 HQ3.out, K5.out⟩
end
end Wal
namespace Pgr
open Wal (Pair PL R sealB sbody slot np wrs Cn tot lst_ends ends ends_map readG openedG slF pair_mine)
open Dsk (PD Mine KeepQ Only below_keeps cell_later sec vals pad zeros upd IntsAt ints)
open Crc (S S_of S_size)
theorem opens {F n t b : Nat} {f : Int → List UInt8} {A : List R} (h : Cn F n t b f A) : slF F f = (t, b) ∧ openedG F n f = ⟨F, n, t + 1, A.map Prod.snd, tot A, false⟩ := by
  refine ⟨h.slots, ?_⟩
  have hr : readG F n f = ends 0 A := by
    unfold readG
    rw [h.slots]
    exact h.read
  unfold openedG
  rw [hr, h.slots, ends_map, lst_ends, Nat.zero_add]
section
variable {W : World} {Q : Nat → Prop} {P L D : Nat} {v : PV} {g : PL} {d : PD} {w : World}
set_option maxHeartbeats 4000000 in
set_option maxRecDepth 100000 in
theorem redo_none (h : Pg W Q P L D v g d w) (hg : g.recs = []) : Calls Tryz.prog 38 #[.pointer (some ⟨P, 0, none⟩)] w fun e w' => e = .returned (.int .i64 0) ∧ Below w.heap.size w w' := by
  have c2 := h.cells.2.2.1
  obtain ⟨M, hl, hp, _⟩ := h.ex
  have RE := hidm (Wal.records_any hl (fun x hx => by rw [hg] at hx; cases hx))
  rw [hg] at RE
  clear h hl hp hg
  go_enter Tryz.func38, Tryz.ntmps38
  go_wp2_with fail
  refine RE.out.mono ?_
  rintro e w1 ⟨ao, c, rfl, _, hb⟩
  have HB := hidm hb
  clear hb
  go_wp2_with fail
  go_ret
  exact ⟨rfl, HB.out⟩
set_option maxHeartbeats 8000000 in
set_option maxRecDepth 100000 in
theorem redo_one {n t u : Nat} {ch : Ch} (h : Pg W Q P L D v ⟨0, n, t, [record ch], u, false⟩ d w) (ho : Ok v.pages ch) (hfst : v.first = 2 + n) (ht : t < 1099511627776) (hc : d.cs.length ≤ 800000) (hw : d.wr ≤ 800000) (hf : d.fl ≤ 800000) :
    Calls Tryz.prog 38 #[.pointer (some ⟨P, 0, none⟩)] w fun e w' => e = .returned (.int .i64 (code (run d (tailS n t ch)).1)) ∧
      (∃ g', Pg W Q P L D v g' (run d (tailS n t ch)).2 w' ∧ ((run d (tailS n t ch)).1 = true → g' = ⟨0, n, t + 1, [], 0, false⟩)) ∧ KeepQ Q w w' := by
  obtain ⟨M, hl, hp, h1, h2⟩ := h.ex
  have hfit := h.fit
  have hok := hp.ok
  have hrl := record_len ho hok.2.2.1
  obtain ⟨Q1, hQ1⟩ : ∃ Q1 : Nat → Prop, Q1 = fun k => Q k ∨ k = P ∨ k = M := ⟨_, rfl⟩
  rw [← hQ1] at hl
  have qP : Q1 P := by rw [hQ1]; exact .inr (.inl rfl)
  have HQP := hidm qP
  have c1 : w.cell? ⟨P, 1, none⟩ = some (.pointer (some ⟨D, 0, none⟩)) := cell_of_row w P 1 _ _ (0, 0) hp.row
  have c2 : w.cell? ⟨P, 2, none⟩ = some (.pointer (some ⟨L, 0, none⟩)) := cell_of_row w P 2 _ _ (0, 0) hp.row
  have c3 : w.cell? ⟨P, 3, none⟩ = some (.int .i64 (v.first : Int)) := cell_of_row w P 3 _ _ (0, 0) hp.row
  have c4 : w.cell? ⟨P, 4, none⟩ = some (.int .i64 (v.pages : Int)) := cell_of_row w P 4 _ _ (0, 0) hp.row
  have HC1 := hidm c1
  have HC2 := hidm c2
  have HC3 := hidm c3
  have HC4 := hidm c4
  have HL := hidm hl
  have FIN : ∀ (g' : PL) (dz : PD) (wz : World), dz.n = d.n → Pair W Q1 L D g' dz wz → KeepQ Q1 w wz → Pg W Q P L D v g' dz wz ∧ KeepQ Q w wz := fun g' dz wz hdn hpz hkz => by
    rw [hQ1] at hpz hkz
    exact Pg.log hp h1 h2 hpz hkz (by rw [hdn]; exact hfit)
  have HFIN := hidm FIN
  have RE := hidm (Wal.records_any hl (fun x hx => by rw [List.mem_singleton.1 hx]; omega))
  change Hid (Calls _ _ _ w fun e w' => ∃ ao c, e = .returned (.slice ao 1 c) ∧ w'.ownsRow w.heap.size 9 1 (.slice ao 1 c) 1 (Wal.strs [record ch]) ∧ Below w.heap.size w w') at RE
  have CH := hidm (fun w' => changes_any w' hok.2.2.1 ho)
  have hts : tailS n t ch = wrts (pws v.first ch) ++ ([.fl] ++ slotS 0 (t + 1) (t + 1)) := by
    rw [hfst]; unfold tailS slotS slotStep; rfl
  rw [hts]
  have LY := hidm (fun (Q2 : Nat → Prop) (M2 : Nat) (w2 : World) (hp2 : Pair W Q2 L D ⟨0, n, t, [record ch], u, false⟩ d w2) (hm2 : MapIs M2 ch w2) (qM : Q2 M2) (qP2 : Q2 P) (k1 : w2.cell? ⟨P, 1, none⟩ = some (.pointer (some ⟨D, 0, none⟩))) (k3 : w2.cell? ⟨P, 3, none⟩ = some (.int .i64 (v.first : Int))) => lay_any (P := P) (F := v.first) hp2 hok.2.2.1 ho hm2 qM qP2 k1 k3 (by omega) (by omega) (by omega))
  have hcn := ho.count
  have hN24 := hok.2.2.1
  rcases hr3 : run d (wrts (pws v.first ch)) with ⟨ok, d3⟩
  rw [hr3] at LY
  have hfew := run_few (wrts (pws v.first ch)) d
  rw [hr3, pws_len] at hfew
  obtain ⟨u1, u2, u3, u4, _⟩ := hfew
  have u1 : d3.n = d.n := u1
  have u2 : d3.cs.length ≤ d.cs.length + ch.length := u2
  have u3 : d3.wr ≤ d.wr + ch.length := u3
  have u4 : d3.fl ≤ d.fl + ch.length := u4
  cases ok with
  | false =>
    rw [seq_fail hr3]
    have hc6 : code (false, d3).1 = 6 := rfl
    rw [hc6] at LY
    have HQN := hidm u1
    clear hfit hfst hok ht hc hw hf hcn hN24 hrl ho hl hp h1 h2 hQ1 c1 c3 c4 FIN hr3 hts u1 u2 u3 u4 h qP
    go_enter Tryz.func38, Tryz.ntmps38
    go_wp2_with fail
    refine RE.out.mono ?_
    rintro e w1 ⟨ao, c, rfl, hown, hb⟩
    have HB1 := hidm hb
    obtain ⟨sb, rfl, _, _, hs0, _⟩ := Wal.strs_at (l := [record ch]) hown 0 (by simp)
    have HS0 := hidm (show w1.cell? ⟨sb, 0, none⟩ = some (.string (S (record ch))) from hs0)
    have HP1 := hidm (HL.out.later hb)
    have HK1 := hidm (HL.out.kept hb)
    clear hb hown hs0 c2
    go_wp2_with fail
    go_loopw [5, 6, 7, 8, 19] (fun _ _ _ _ ii wr => ∃ i : Nat, ii = .int .i64 (i : Int) ∧ i ≤ 1 ∧ Hid (i = 0 → w1 = wr) ∧ Hid (i = 1 → False)) (fun _ _ _ _ ii _ => (1 - (intOf ii).toNat))
    case atStart => exact ⟨0, rfl, by omega, hidm (fun _ => rfl), hidm (fun e => by cases e)⟩
    case round =>
      rename World => wr
      obtain ⟨i, rfl, hi, HW, HD⟩ := hrel
      rcases Nat.lt_or_ge i 1 with hlt | hge
      · obtain rfl : i = 0 := by omega
        have hww := HW.out rfl
        subst hww
        have s0 := HS0.out
        have c4 := (cell_keep HK1.out (p := ⟨P, 4, none⟩) HQP.out).trans HC4.out
        go_wp2_with fail
        refine (CH.out w1).mono ?_
        rintro e w2 ⟨M2, rfl, hm2, hge2, hb⟩
        have HM2 := hidm hm2
        have HP2 := hidm (HP1.out.guard hb)
        have HK2 := hidm (HK1.out.trans (HP1.out.kept hb))
        have HQM2 := hidm (show (fun k => Q1 k ∨ (w1.heap.size ≤ k ∧ k < w2.heap.size)) M2 from .inr ⟨hge2, hm2.lt⟩)
        clear hm2 hge2 hb s0 c4
        go_wp2_with fail
        refine (LY.out _ M2 w2 HP2.out HM2.out HQM2.out (.inl HQP.out) ((cell_keep HK2.out (p := ⟨P, 1, none⟩) HQP.out).trans HC1.out) ((cell_keep HK2.out (p := ⟨P, 3, none⟩) HQP.out).trans HC3.out)).mono ?_
        rintro e w3 ⟨rfl, hp3, hk3⟩
        have HP3 := hidm (hp3.less (fun _ e => .inl e))
        have HK3 := hidm (show KeepQ Q1 w w3 from HK2.out.trans (fun k hk => hk3 k (.inl hk)))
        clear hp3 hk3
        go_wp2_with fail
        go_ret
        have HZ := hidm (HFIN.out _ _ _ HQN.out HP3.out HK3.out)
        exact ⟨rfl, ⟨_, HZ.out.1, fun e => by cases e⟩, HZ.out.2⟩
      · obtain rfl : i = 1 := by omega
        exact (HD.out rfl).elim
  | true =>
    rw [seq_ok hr3]
    have hc0 : code (true, d3).1 = 0 := rfl
    rw [hc0] at LY
    have ST := hidm (fun (w3 : World) (hp3 : Pair W Q1 L D ⟨0, n, t, [record ch], u, false⟩ d3 w3) (hk3 : KeepQ Q1 w w3) => settle_any (P := P) hp3 qP ((cell_keep hk3 (p := ⟨P, 1, none⟩) qP).trans c1) ((cell_keep hk3 (p := ⟨P, 2, none⟩) qP).trans c2) rfl ht (by rw [u1]; show 0 + 1 < d.n; omega) (by omega) (by omega) (by omega))
    have hfew := run_few ([.fl] ++ slotS 0 (t + 1) (t + 1)) d3
    have HQN := hidm (hfew.1.trans u1)
    change Hid (∀ w3, Pair W Q1 L D ⟨0, n, t, [record ch], u, false⟩ d3 w3 → KeepQ Q1 w w3 → Calls _ _ _ w3 fun e w' => e = .returned (.int .i64 (code (run d3 ([.fl] ++ slotS 0 (t + 1) (t + 1))).1)) ∧ (∃ g', Pair W Q1 L D g' (run d3 ([.fl] ++ slotS 0 (t + 1) (t + 1))).2 w' ∧ ((run d3 ([.fl] ++ slotS 0 (t + 1) (t + 1))).1 = true → g' = ⟨0, n, t + 1, [], 0, false⟩)) ∧ KeepQ Q1 w3 w') at ST
    clear hfit hfst hok ht hc hw hf hcn hN24 hrl ho hl hp h1 h2 hQ1 c1 c3 c4 FIN hr3 hts u1 u2 u3 u4 h qP hfew
    go_enter Tryz.func38, Tryz.ntmps38
    go_wp2_with fail
    refine RE.out.mono ?_
    rintro e w1 ⟨ao, c, rfl, hown, hb⟩
    have HB1 := hidm hb
    obtain ⟨sb, rfl, _, _, hs0, _⟩ := Wal.strs_at (l := [record ch]) hown 0 (by simp)
    have HS0 := hidm (show w1.cell? ⟨sb, 0, none⟩ = some (.string (S (record ch))) from hs0)
    have HP1 := hidm (HL.out.later hb)
    have HK1 := hidm (HL.out.kept hb)
    clear hb hown hs0 c2
    go_wp2_with fail
    go_loopw [5, 6, 7, 8, 19] (fun _ _ _ _ ii wr => ∃ i : Nat, ii = .int .i64 (i : Int) ∧ i ≤ 1 ∧ Hid (i = 0 → w1 = wr) ∧ Hid (i = 1 → Pair W Q1 L D ⟨0, n, t, [record ch], u, false⟩ d3 wr ∧ KeepQ Q1 w wr)) (fun _ _ _ _ ii _ => (1 - (intOf ii).toNat))
    case atStart => exact ⟨0, rfl, by omega, hidm (fun _ => rfl), hidm (fun e => by cases e)⟩
    case round =>
      rename World => wr
      obtain ⟨i, rfl, hi, HW, HD⟩ := hrel
      rcases Nat.lt_or_ge i 1 with hlt | hge
      · obtain rfl : i = 0 := by omega
        have hww := HW.out rfl
        subst hww
        have s0 := HS0.out
        have c4 := (cell_keep HK1.out (p := ⟨P, 4, none⟩) HQP.out).trans HC4.out
        go_wp2_with fail
        refine (CH.out w1).mono ?_
        rintro e w2 ⟨M2, rfl, hm2, hge2, hb⟩
        have HM2 := hidm hm2
        have HP2 := hidm (HP1.out.guard hb)
        have HK2 := hidm (HK1.out.trans (HP1.out.kept hb))
        have HQM2 := hidm (show (fun k => Q1 k ∨ (w1.heap.size ≤ k ∧ k < w2.heap.size)) M2 from .inr ⟨hge2, hm2.lt⟩)
        clear hm2 hge2 hb s0 c4
        go_wp2_with fail
        refine (LY.out _ M2 w2 HP2.out HM2.out HQM2.out (.inl HQP.out) ((cell_keep HK2.out (p := ⟨P, 1, none⟩) HQP.out).trans HC1.out) ((cell_keep HK2.out (p := ⟨P, 3, none⟩) HQP.out).trans HC3.out)).mono ?_
        rintro e w3 ⟨rfl, hp3, hk3⟩
        have HP3 := hidm (hp3.less (fun _ e => .inl e))
        have HK3 := hidm (show KeepQ Q1 w w3 from HK2.out.trans (fun k hk => hk3 k (.inl hk)))
        clear hp3 hk3
        go_wp2_with fail
        go_roundw
        case rel => exact ⟨1, rfl, by omega, hidm (fun e => by cases e), hidm (fun _ => ⟨HP3.out, HK3.out⟩)⟩
        case measure => simp [intOf]
      · obtain rfl : i = 1 := by omega
        obtain ⟨hp3, hk3⟩ := HD.out rfl
        have HP3 := hidm hp3
        have HK3 := hidm hk3
        clear hp3 hk3
        go_wp2_with fail
        refine (ST.out wr HP3.out HK3.out).mono ?_
        rintro e w4 ⟨rfl, ⟨g', hp, hg⟩, hk⟩
        have HZ := hidm (HFIN.out _ _ _ HQN.out hp (HK3.out.trans hk))
        have HG := hidm hg
        clear hp hk hg
        go_wp2_with fail
        go_ret
        exact ⟨rfl, ⟨g', HZ.out.1, HG.out⟩, HZ.out.2⟩
end
end Pgr
end Go.Proofs.YtmccnlffikegfaaGreatDoor
