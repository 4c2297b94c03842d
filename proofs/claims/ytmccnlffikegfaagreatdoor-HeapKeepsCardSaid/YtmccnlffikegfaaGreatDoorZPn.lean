/- settle, carry, Commit. Conditions: the log is empty when a commit begins. -/
import Derived.Test.YtmccnlffikegfaaGreatDoorZPm
import Derived.Test.YtmccnlffikegfaaGreatDoorZPj
namespace Go.Proofs.YtmccnlffikegfaaGreatDoor
open Go.RowKit
namespace Pgr
open Wal (Pair PL R sealB sbody slot np wrs)
open Dsk (PD Mine KeepQ Only below_keeps cell_later sec vals pad zeros upd IntsAt ints)
open Crc (S S_of S_size)
theorem seq_fail {a b : List Step} {d x : PD} (h : run d a = (false, x)) : run d (a ++ b) = (false, x) := by rw [run_app, h]; rfl
theorem seq_ok {a b : List Step} {d x : PD} (h : run d a = (true, x)) : run d (a ++ b) = run x b := by rw [run_app, h]; rfl
section
variable {W : World} {Q : Nat → Prop} {P L D : Nat} {v : PV} {g : PL} {d : PD} {w : World}
set_option maxHeartbeats 4000000 in
set_option maxRecDepth 100000 in
theorem settle_any (h : Pair W Q L D g d w) (hQP : Q P) (c1 : w.cell? ⟨P, 1, none⟩ = some (.pointer (some ⟨D, 0, none⟩))) (c2 : w.cell? ⟨P, 2, none⟩ = some (.pointer (some ⟨L, 0, none⟩))) (hh : g.halted = false) (ht : g.turn < 1099511627776) (hd : g.F + 1 < d.n) (hc : d.cs.length ≤ 900000) (hw : d.wr ≤ 900000) (hf : d.fl ≤ 900000) :
    Calls Tryz.prog 67 #[.pointer (some ⟨P, 0, none⟩)] w fun e w' => e = .returned (.int .i64 (code (run d ([.fl] ++ slotS g.F (g.turn + 1) (g.turn + 1))).1)) ∧
      (∃ g', Pair W Q L D g' (run d ([.fl] ++ slotS g.F (g.turn + 1) (g.turn + 1))).2 w' ∧ ((run d ([.fl] ++ slotS g.F (g.turn + 1) (g.turn + 1))).1 = true → g' = PL.empty { g with turn := g.turn + 1 })) ∧ KeepQ Q w w' := by
  have FL := hidm (flush_run h (by omega))
  rcases hrr : run d [.fl] with ⟨ok, dx⟩
  rw [hrr] at FL
  have hfew := run_few [.fl] d
  rw [hrr] at hfew
  simp only [List.length_cons, List.length_nil] at hfew
  obtain ⟨q1, q2, q3, q4, _⟩ := hfew
  have HQP := hidm hQP
  have HC2 := hidm c2
  cases ok with
  | false =>
    have HE := hidm (seq_fail (b := slotS g.F (g.turn + 1) (g.turn + 1)) hrr)
    rw [HE.out]
    have hc6 : code (false, dx).1 = 6 := rfl
    rw [hc6] at FL
    clear h hrr q1 q2 q3 q4 hc6
    go_enter Tryz.func67, Tryz.ntmps67
    go_wp2_with fail
    refine FL.out.mono ?_
    rintro e w1 ⟨rfl, hp, hk⟩
    have HP := hidm hp
    have HK := hidm hk
    clear hp hk
    go_wp2_with fail
    go_ret
    exact ⟨rfl, ⟨g, HP.out, fun e => by cases e⟩, HK.out⟩
  | true =>
    have HE := hidm (seq_ok (b := slotS g.F (g.turn + 1) (g.turn + 1)) hrr)
    rw [HE.out]
    have hc0 : code (true, dx).1 = 0 := rfl
    rw [hc0] at FL
    have RS := hidm (fun (w1 : World) (hp : Pair W Q L D g dx w1) => reset_run hp hh ht (by rw [q1]; exact hd) (by omega) (by omega) (by omega))
    clear h hrr q1 q2 q3 q4 hc0
    go_enter Tryz.func67, Tryz.ntmps67
    go_wp2_with fail
    refine FL.out.mono ?_
    rintro e w1 ⟨rfl, hp, hk⟩
    have HP := hidm hp
    have HK := hidm hk
    have k2 := (cell_keep hk (p := ⟨P, 2, none⟩) HQP.out).trans HC2.out
    clear hp hk c1 c2
    go_wp2_with fail
    refine (RS.out w1 HP.out).mono ?_
    rintro e w2 ⟨rfl, hp, hk⟩
    have HP2 := hidm hp
    have HK2 := hidm hk
    clear hp hk k2
    go_wp2_with fail
    go_ret
    refine ⟨rfl, ⟨_, HP2.out, fun e => ?_⟩, fun k hk => (HK2.out k hk).trans (HK.out k hk)⟩
    unfold resetG
    rw [e]; rfl
theorem S_back (l : List UInt8) : (S l).data.toList = l := rfl
set_option maxHeartbeats 8000000 in
set_option maxRecDepth 100000 in
theorem carry_any {n t : Nat} (h : Pg W Q P L D v ⟨0, n, t, [], 0, false⟩ d w) (hfst : v.first = 2 + n) (hn : n ≤ 1000) (ht : t < 1099511627776) (hr : np (record v.ch) ≤ n) (hc : d.cs.length ≤ 800000) (hw : d.wr ≤ 800000) (hf : d.fl ≤ 800000) :
    Calls Tryz.prog 46 #[.pointer (some ⟨P, 0, none⟩), .string (S (record v.ch))] w fun e w' => e = .returned (.int .i64 (code (run d (commitS n t v.ch)).1)) ∧
      (∃ g', Pg W Q P L D v g' (run d (commitS n t v.ch)).2 w' ∧ ((run d (commitS n t v.ch)).1 = true → g' = ⟨0, n, t + 1, [], 0, false⟩)) ∧ KeepQ Q w w' := by
  obtain ⟨M, hl, hp, h1, h2⟩ := h.ex
  have hfit := h.fit
  have HFIT := hidm hfit
  have HPA := hidm hp
  have HPP := hidm h1
  have HMM := hidm h2
  have hok := hp.ok
  obtain ⟨Q1, hQ1⟩ : ∃ Q1 : Nat → Prop, Q1 = fun k => Q k ∨ k = P ∨ k = M := ⟨_, rfl⟩
  have HQ1 := hidm hQ1
  rw [← hQ1] at hl
  have qP : Q1 P := by rw [hQ1]; exact .inr (.inl rfl)
  have qM : Q1 M := by rw [hQ1]; exact .inr (.inr rfl)
  have HQP := hidm qP
  have HQM := hidm qM
  have c1 : w.cell? ⟨P, 1, none⟩ = some (.pointer (some ⟨D, 0, none⟩)) := cell_of_row w P 1 _ _ (0, 0) hp.row
  have c2 : w.cell? ⟨P, 2, none⟩ = some (.pointer (some ⟨L, 0, none⟩)) := cell_of_row w P 2 _ _ (0, 0) hp.row
  have c3 : w.cell? ⟨P, 3, none⟩ = some (.int .i64 (v.first : Int)) := cell_of_row w P 3 _ _ (0, 0) hp.row
  have c5 : w.cell? ⟨P, 5, none⟩ = some (.map (some M)) := cell_of_row w P 5 _ _ (0, 0) hp.row
  have HC1 := hidm c1
  have HC2 := hidm c2
  have HC3 := hidm c3
  have HC5 := hidm c5
  obtain ⟨rec, hrec⟩ : ∃ rec, rec = record v.ch := ⟨_, rfl⟩
  -- what the end says
  have FIN : ∀ (g' : PL) (dz : PD) (wz : World), dz.n = d.n → Pair W Q1 L D g' dz wz → KeepQ Q1 w wz → Pg W Q P L D v g' dz wz ∧ KeepQ Q w wz := fun g' dz wz hdn hpz hkz => by
    rw [hQ1] at hpz hkz
    exact Pg.log hp h1 h2 hpz hkz (by rw [hdn]; exact hfit)
  have HFIN := hidm FIN
  have AP := hidm (append_run (S rec) hl rfl (by rw [S_back, hrec]; exact hr) (Nat.le_refl _) (by show 0 + 2 + n ≤ d.n; omega) (by omega) (by omega))
  rw [S_back] at AP
  change Hid (Calls _ _ _ _ fun e w' => e = .returned (.int .i64 (code (run d (wrts (plws 0 t 0 rec (np rec)))).1)) ∧ Pair W Q1 L D (appendG ⟨0, n, t, [], 0, false⟩ rec (run d (wrts (plws 0 t 0 rec (np rec)))).1) (run d (wrts (plws 0 t 0 rec (np rec)))).2 w' ∧ KeepQ Q1 w w') at AP
  have hcs : commitS n t v.ch = wrts (plws 0 t 0 rec (np rec)) ++ ([.fl] ++ (wrts (pws v.first v.ch) ++ ([.fl] ++ slotS 0 (t + 1) (t + 1)))) := by
    rw [hrec, hfst]; unfold commitS tailS slotS slotStep; simp only [List.append_assoc]; rfl
  rw [← hrec, hcs]
  have hnp : np rec ≤ 1000 := by rw [hrec]; omega
  rcases hr1 : run d (wrts (plws 0 t 0 rec (np rec))) with ⟨ok, d1⟩
  rw [hr1] at AP
  have hfew := run_few (wrts (plws 0 t 0 rec (np rec))) d
  rw [hr1, plws_len] at hfew
  obtain ⟨q1, q2, q3, q4, _⟩ := hfew
  have q1 : d1.n = d.n := q1
  have q2 : d1.cs.length ≤ d.cs.length + np rec := q2
  have q3 : d1.wr ≤ d.wr + np rec := q3
  have q4 : d1.fl ≤ d.fl + np rec := q4
  cases ok with
  | false =>
    rw [seq_fail hr1]
    have hc6 : code (false, d1).1 = 6 := rfl
    rw [hc6] at AP
    have HQN := hidm q1
    clear hfit hfst hok hrec hr hn ht hc hw hf hnp hl hp h1 h2 hQ1 c1 c3 c5 FIN hr1 hcs q1 q2 q3 q4 h
    go_enter Tryz.func46, Tryz.ntmps46
    go_wp2_with fail
    refine AP.out.mono ?_
    rintro e w1 ⟨rfl, hp, hk⟩
    have HZ := hidm (HFIN.out _ _ _ HQN.out hp hk)
    clear hp hk
    go_wp2_with fail
    go_ret
    exact ⟨rfl, ⟨_, HZ.out.1, fun e => by cases e⟩, HZ.out.2⟩
  | true =>
    rw [seq_ok hr1]
    have hc0 : code (true, d1).1 = 0 := rfl
    rw [hc0] at AP
    have CM := hidm (fun (w1 : World) (hp : Pair W Q1 L D (appendG ⟨0, n, t, [], 0, false⟩ rec true) d1 w1) => commit_run hp rfl (by omega))
    rcases hr2 : run d1 [.fl] with ⟨ok, d2⟩
    rw [hr2] at CM
    have hfew := run_few [.fl] d1
    rw [hr2] at hfew
    simp only [List.length_cons, List.length_nil] at hfew
    obtain ⟨s1, s2, s3, s4, _⟩ := hfew
    cases ok with
    | false =>
      rw [seq_fail hr2]
      have hc6 : code (false, d2).1 = 6 := rfl
      rw [hc6] at CM
      have HQN := hidm (s1.trans q1)
      clear hfit hfst hok hrec hr hn ht hc hw hf hnp hl hp h1 h2 hQ1 c1 c3 c5 FIN hr1 hr2 hcs q1 q2 q3 q4 s1 s2 s3 s4 h
      go_enter Tryz.func46, Tryz.ntmps46
      go_wp2_with fail
      refine AP.out.mono ?_
      rintro e w1 ⟨rfl, hp, hk⟩
      have HP1 := hidm hp
      have HK1 := hidm hk
      have k2 := (cell_keep hk (p := ⟨P, 2, none⟩) HQP.out).trans HC2.out
      clear hp hk c2
      go_wp2_with fail
      refine (CM.out w1 HP1.out).mono ?_
      rintro e w2 ⟨rfl, hp, hk⟩
      have HZ := hidm (HFIN.out _ _ _ HQN.out hp (HK1.out.trans hk))
      clear hp hk k2
      go_wp2_with fail
      go_ret
      exact ⟨rfl, ⟨_, HZ.out.1, fun e => by cases e⟩, HZ.out.2⟩
    | true =>
      rw [seq_ok hr2]
      have hc0' : code (true, d2).1 = 0 := rfl
      rw [hc0'] at CM
      have LY := hidm (fun (w2 : World) (hp2 : Pair W Q1 L D (appendG ⟨0, n, t, [], 0, false⟩ rec true) d2 w2) (hk2 : KeepQ Q1 w w2) => lay_any (P := P) (F := v.first) hp2 hok.2.2.1 hok.2.2.2 (hp.map.keep (hk2 M qM)) qM qP ((cell_keep hk2 (p := ⟨P, 1, none⟩) qP).trans c1) ((cell_keep hk2 (p := ⟨P, 3, none⟩) qP).trans c3) (by rw [s1, q1]; omega) (by omega) (by omega))
      rcases hr3 : run d2 (wrts (pws v.first v.ch)) with ⟨ok, d3⟩
      rw [hr3] at LY
      have hcn := hok.2.2.2.count
      have hN24 := hok.2.2.1
      have hfew := run_few (wrts (pws v.first v.ch)) d2
      rw [hr3, pws_len] at hfew
      obtain ⟨u1, u2, u3, u4, _⟩ := hfew
      have u1 : d3.n = d2.n := u1
      have u2 : d3.cs.length ≤ d2.cs.length + v.ch.length := u2
      have u3 : d3.wr ≤ d2.wr + v.ch.length := u3
      have u4 : d3.fl ≤ d2.fl + v.ch.length := u4
      cases ok with
      | false =>
        rw [seq_fail hr3]
        have hc6 : code (false, d3).1 = 6 := rfl
        rw [hc6] at LY
        have HQN := hidm (u1.trans (s1.trans q1))
        clear hfit hfst hok hrec hr hn ht hc hw hf hnp hl hp h1 h2 hQ1 c1 c3 FIN hr1 hr2 hr3 hcs q1 q2 q3 q4 s1 s2 s3 s4 u1 u2 u3 u4 h hcn hN24
        go_enter Tryz.func46, Tryz.ntmps46
        go_wp2_with fail
        refine AP.out.mono ?_
        rintro e w1 ⟨rfl, hp, hk⟩
        have HP1 := hidm hp
        have HK1 := hidm hk
        have k2 := (cell_keep hk (p := ⟨P, 2, none⟩) HQP.out).trans HC2.out
        clear hp hk c2
        go_wp2_with fail
        refine (CM.out w1 HP1.out).mono ?_
        rintro e w2 ⟨rfl, hp, hk⟩
        have HP2 := hidm hp
        have HK2 := hidm (HK1.out.trans hk)
        have k5 := (cell_keep HK2.out (p := ⟨P, 5, none⟩) HQP.out).trans HC5.out
        clear hp hk k2 c5
        go_wp2_with fail
        refine (LY.out w2 HP2.out HK2.out).mono ?_
        rintro e w3 ⟨rfl, hp, hk⟩
        have HZ := hidm (HFIN.out _ _ _ HQN.out hp (HK2.out.trans hk))
        clear hp hk k5
        go_wp2_with fail
        go_ret
        exact ⟨rfl, ⟨_, HZ.out.1, fun e => by cases e⟩, HZ.out.2⟩
      | true =>
        rw [seq_ok hr3]
        have hc0'' : code (true, d3).1 = 0 := rfl
        rw [hc0''] at LY
        have ST := hidm (fun (w3 : World) (hp3 : Pair W Q1 L D (appendG ⟨0, n, t, [], 0, false⟩ rec true) d3 w3) (hk3 : KeepQ Q1 w w3) => settle_any (P := P) hp3 qP ((cell_keep hk3 (p := ⟨P, 1, none⟩) qP).trans c1) ((cell_keep hk3 (p := ⟨P, 2, none⟩) qP).trans c2) rfl ht (by rw [u1, s1, q1]; show 0 + 1 < d.n; omega) (by omega) (by omega) (by omega))
        have hfew := run_few ([.fl] ++ slotS 0 (t + 1) (t + 1)) d3
        have HQN := hidm (hfew.1.trans (u1.trans (s1.trans q1)))
        change Hid (∀ w3, Pair W Q1 L D (appendG ⟨0, n, t, [], 0, false⟩ rec true) d3 w3 → KeepQ Q1 w w3 → Calls _ _ _ w3 fun e w' => e = .returned (.int .i64 (code (run d3 ([.fl] ++ slotS 0 (t + 1) (t + 1))).1)) ∧ (∃ g', Pair W Q1 L D g' (run d3 ([.fl] ++ slotS 0 (t + 1) (t + 1))).2 w' ∧ ((run d3 ([.fl] ++ slotS 0 (t + 1) (t + 1))).1 = true → g' = ⟨0, n, t + 1, [], 0, false⟩)) ∧ KeepQ Q1 w3 w') at ST
        clear hfit hfst hok hrec hr hn ht hc hw hf hnp hl hp h1 h2 hQ1 c1 c3 FIN hr1 hr2 hr3 hcs q1 q2 q3 q4 s1 s2 s3 s4 u1 u2 u3 u4 h hfew hcn hN24
        go_enter Tryz.func46, Tryz.ntmps46
        go_wp2_with fail
        refine AP.out.mono ?_
        rintro e w1 ⟨rfl, hp, hk⟩
        have HP1 := hidm hp
        have HK1 := hidm hk
        have k2 := (cell_keep hk (p := ⟨P, 2, none⟩) HQP.out).trans HC2.out
        clear hp hk c2
        go_wp2_with fail
        refine (CM.out w1 HP1.out).mono ?_
        rintro e w2 ⟨rfl, hp, hk⟩
        have HP2 := hidm hp
        have HK2 := hidm (HK1.out.trans hk)
        have k5 := (cell_keep HK2.out (p := ⟨P, 5, none⟩) HQP.out).trans HC5.out
        clear hp hk k2 c5
        go_wp2_with fail
        refine (LY.out w2 HP2.out HK2.out).mono ?_
        rintro e w3 ⟨rfl, hp, hk⟩
        have HP3 := hidm hp
        have HK3 := hidm (HK2.out.trans hk)
        clear hp hk k5
        go_wp2_with fail
        refine (ST.out w3 HP3.out HK3.out).mono ?_
        rintro e w4 ⟨rfl, ⟨g', hp, hg⟩, hk⟩
        have HZ := hidm (HFIN.out _ _ _ HQN.out hp (HK3.out.trans hk))
        have HG := hidm hg
        clear hp hk hg
        go_wp2_with fail
        go_ret
        exact ⟨rfl, ⟨g', HZ.out.1, HG.out⟩, HZ.out.2⟩
/-! ### Commit -/
set_option maxHeartbeats 1000000 in
theorem pcommit_no (p : Option Addr) (w : World) (h : NotPager p w) : Calls Tryz.prog 20 #[.pointer p] w fun e w' => e = .returned (.int .i64 13) ∧ w = w' := by
  have G := hidm (gvn_no p w h)
  go_enter Tryz.func20, Tryz.ntmps20
  go_wp2_with fail
  refine G.out.mono ?_
  rintro e w1 ⟨rfl, rfl⟩
  go_wp2_with fail
  go_ret
  exact ⟨rfl, rfl⟩
set_option maxHeartbeats 1000000 in
theorem pcommit_shut (h : Pg W Q P L D v g d w) (hh : v.halted = true) : Calls Tryz.prog 20 #[.pointer (some ⟨P, 0, none⟩)] w fun e w' => e = .returned (.int .i64 6) ∧ w = w' := by
  have G := hidm (gvn_yes P w h.cells.1)
  have c6 := h.cells.2.2.2.2.2
  rw [hh] at c6
  clear h
  go_enter Tryz.func20, Tryz.ntmps20
  go_wp2_with fail
  refine G.out.mono ?_
  rintro e w1 ⟨rfl, rfl⟩
  go_wp2_with fail
  go_ret
  exact ⟨rfl, rfl⟩
set_option maxHeartbeats 1000000 in
theorem pcommit_idle (h : Pg W Q P L D v g d w) (hh : v.halted = false) (he : v.ch = []) : Calls Tryz.prog 20 #[.pointer (some ⟨P, 0, none⟩)] w fun e w' => e = .returned (.int .i64 0) ∧ w = w' := by
  have G := hidm (gvn_yes P w h.cells.1)
  have c6 := h.cells.2.2.2.2.2
  rw [hh] at c6
  obtain ⟨M, hl, hp, _⟩ := h.ex
  have c5 : w.cell? ⟨P, 5, none⟩ = some (.map (some M)) := cell_of_row w P 5 _ _ (0, 0) hp.row
  have hln := fun ty => hp.map.len ty
  rw [he] at hln
  clear h hl hp
  go_enter Tryz.func20, Tryz.ntmps20
  go_wp2_with fail
  refine G.out.mono ?_
  rintro e w1 ⟨rfl, rfl⟩
  go_wp2_with fail
  go_ret
  exact ⟨rfl, rfl⟩
def PV.halt (v : PV) : PV := { v with halted := true }
/-- What a commit comes to that is begun. -/
def CommitP (W : World) (Q : Nat → Prop) (P L D n t : Nat) (v : PV) (d : PD) (w : World) (e : Ending) (w' : World) : Prop :=
  (e = .returned (.int .i64 0) ∧ (run d (commitS n t v.ch)).1 = true ∧ Pg W Q P L D v.calm ⟨0, n, t + 1, [], 0, false⟩ (run d (commitS n t v.ch)).2 w' ∧ KeepQ Q w w') ∨
    (e = .returned (.int .i64 6) ∧ (run d (commitS n t v.ch)).1 = false ∧ (∃ g', Pg W Q P L D v.halt g' (run d (commitS n t v.ch)).2 w') ∧ KeepQ Q w w')
set_option maxHeartbeats 4000000 in
set_option maxRecDepth 100000 in
theorem pcommit_full {n t : Nat} (h : Pg W Q P L D v ⟨0, n, t, [], 0, false⟩ d w) (hh : v.halted = false) (he : v.ch ≠ []) (hr : ¬ np (record v.ch) ≤ n) :
    Calls Tryz.prog 20 #[.pointer (some ⟨P, 0, none⟩)] w fun e w' => e = .returned (.int .i64 3) ∧ Below w.heap.size w w' := by
  have G := hidm (gvn_yes P w h.cells.1)
  have c6 := h.cells.2.2.2.2.2
  rw [hh] at c6
  have c2 := h.cells.2.2.1
  obtain ⟨M, hl, hp, h1, h2⟩ := h.ex
  have c5 : w.cell? ⟨P, 5, none⟩ = some (.map (some M)) := cell_of_row w P 5 _ _ (0, 0) hp.row
  have hln := fun ty => hp.map.len ty
  have hne : ¬ (v.ch.length : Int) = 0 := by have := List.length_pos_iff.2 he; omega
  have RC := hidm (record_any hp.ok.2.2.1 hp.ok.2.2.2 hp.map)
  have hrl := record_len hp.ok.2.2.2 hp.ok.2.2.1
  have HC2 := hidm (fun (w' : World) (hb : Below w.heap.size w w') => cell_later hb c2)
  have FT := hidm (fun (w' : World) (hb : Below w.heap.size w w') => Wal.fits_any (record v.ch).length (by omega) (hl.later hb))
  have hdec : decide (((record v.ch).length - 1) / 100 + 1 ≤ n - 0) = false := by simpa [np] using hr
  rw [show decide (((record v.ch).length - 1) / 100 + 1 ≤ ({ F := 0, n := n, turn := t, recs := [], used := 0, halted := false } : PL).n - ({ F := 0, n := n, turn := t, recs := [], used := 0, halted := false } : PL).used) = false from hdec] at FT
  obtain ⟨rec, hrec⟩ : ∃ rec, rec = record v.ch := ⟨_, rfl⟩
  rw [← hrec] at RC FT
  obtain ⟨cl, hcl⟩ : ∃ cl, cl = v.ch.length := ⟨_, rfl⟩
  rw [← hcl] at hln hne
  clear h hl hp h1 h2 hrl hrec hcl hdec hr he c2
  have HC2w := hidm (HC2.out w (Below.refl _ _))
  go_enter Tryz.func20, Tryz.ntmps20
  go_wp2_with fail
  refine G.out.mono ?_
  rintro e w1 ⟨rfl, rfl⟩
  go_wp2_with fail
  refine RC.out.mono ?_
  rintro e w2 ⟨rfl, hb⟩
  have k2 := HC2.out w2 hb
  have HB := hidm hb
  clear hb c5 c6
  go_wp2_with fail
  refine (FT.out w2 HB.out).mono ?_
  rintro e w3 ⟨rfl, hb⟩
  have HB3 := hidm (HB.out.trans (hb.mono HB.out.size))
  clear hb
  go_wp2_with fail
  go_ret
  exact ⟨rfl, HB3.out⟩
set_option maxHeartbeats 8000000 in
set_option maxRecDepth 100000 in
theorem pcommit_in {n t : Nat} (h : Pg W Q P L D v ⟨0, n, t, [], 0, false⟩ d w) (hh : v.halted = false) (he : v.ch ≠ []) (hfst : v.first = 2 + n) (hn : n ≤ 1000) (ht : t < 1099511627776) (hr : np (record v.ch) ≤ n) (hc : d.cs.length ≤ 800000) (hw : d.wr ≤ 800000) (hf : d.fl ≤ 800000) :
    Calls Tryz.prog 20 #[.pointer (some ⟨P, 0, none⟩)] w fun e w' => CommitP W Q P L D n t v d w e w' := by
  have G := hidm (gvn_yes P w h.cells.1)
  have c6 := h.cells.2.2.2.2.2
  rw [hh] at c6
  have c2 := h.cells.2.2.1
  have CA := hidm (fun (w' : World) (hb : Below w.heap.size w w') => carry_any (h.later hb) hfst hn ht hr hc hw hf)
  have HH := hidm h
  obtain ⟨M, hl, hp, h1, h2⟩ := h.ex
  have c5 : w.cell? ⟨P, 5, none⟩ = some (.map (some M)) := cell_of_row w P 5 _ _ (0, 0) hp.row
  have hln := fun ty => hp.map.len ty
  have hne : ¬ (v.ch.length : Int) = 0 := by have := List.length_pos_iff.2 he; omega
  have RC := hidm (record_any hp.ok.2.2.1 hp.ok.2.2.2 hp.map)
  have hrl := record_len hp.ok.2.2.2 hp.ok.2.2.1
  have HC2 := hidm (fun (w' : World) (hb : Below w.heap.size w w') => cell_later hb c2)
  have FT := hidm (fun (w' : World) (hb : Below w.heap.size w w') => Wal.fits_any (record v.ch).length (by omega) (hl.later hb))
  have hdec : decide (((record v.ch).length - 1) / 100 + 1 ≤ n - 0) = true := by simpa [np] using hr
  rw [show decide (((record v.ch).length - 1) / 100 + 1 ≤ ({ F := 0, n := n, turn := t, recs := [], used := 0, halted := false } : PL).n - ({ F := 0, n := n, turn := t, recs := [], used := 0, halted := false } : PL).used) = true from hdec] at FT
  obtain ⟨rec, hrec⟩ : ∃ rec, rec = record v.ch := ⟨_, rfl⟩
  rw [← hrec] at RC FT CA
  obtain ⟨cl, hcl⟩ : ∃ cl, cl = v.ch.length := ⟨_, rfl⟩
  rw [← hcl] at hln hne
  unfold CommitP
  rcases hrr : run d (commitS n t v.ch) with ⟨ok, dz⟩
  rw [hrr] at CA
  clear h hl hp h1 h2 hrl hrec hcl hdec hr he c2 hrr hh hfst hn ht hc hw hf
  have HC2w := hidm (HC2.out w (Below.refl _ _))
  cases ok with
  | true =>
    have hc0 : code (true, dz).1 = 0 := rfl
    rw [hc0] at CA
    go_enter Tryz.func20, Tryz.ntmps20
    go_wp2_with fail
    refine G.out.mono ?_
    rintro e w1 ⟨rfl, rfl⟩
    go_wp2_with fail
    refine RC.out.mono ?_
    rintro e w2 ⟨rfl, hb⟩
    have k2 := HC2.out w2 hb
    have HB := hidm hb
    clear hb c5 c6
    go_wp2_with fail
    refine (FT.out w2 HB.out).mono ?_
    rintro e w3 ⟨rfl, hb⟩
    have HB3 := hidm (HB.out.trans (hb.mono HB.out.size))
    clear hb k2
    go_wp2_with fail
    refine (CA.out w3 HB3.out).mono ?_
    rintro e w4 ⟨rfl, ⟨g', hp, hg⟩, hk⟩
    have hg := hg (by trivial)
    subst hg
    have FG := hidm (forget_in hp)
    have HK := hidm ((HH.out.kept HB3.out).trans hk)
    clear hp hk
    go_wp2_with fail
    refine FG.out.mono ?_
    rintro e w5 ⟨rfl, hp, hk⟩
    have HP5 := hidm hp
    have HK5 := hidm (HK.out.trans hk)
    clear hp hk
    go_wp2_with fail
    go_ret
    exact .inl ⟨rfl, by trivial, HP5.out, HK5.out⟩
  | false =>
    have hc6 : code (false, dz).1 = 6 := rfl
    rw [hc6] at CA
    go_enter Tryz.func20, Tryz.ntmps20
    go_wp2_with fail
    refine G.out.mono ?_
    rintro e w1 ⟨rfl, rfl⟩
    go_wp2_with fail
    refine RC.out.mono ?_
    rintro e w2 ⟨rfl, hb⟩
    have k2 := HC2.out w2 hb
    have HB := hidm hb
    clear hb c5 c6
    go_wp2_with fail
    refine (FT.out w2 HB.out).mono ?_
    rintro e w3 ⟨rfl, hb⟩
    have HB3 := hidm (HB.out.trans (hb.mono HB.out.size))
    clear hb k2
    go_wp2_with fail
    refine (CA.out w3 HB3.out).mono ?_
    rintro e w4 ⟨rfl, ⟨g', hp, hg⟩, hk⟩
    have HK := hidm ((HH.out.kept HB3.out).trans hk)
    have HPH := hidm hp.halt
    have z6 : w4.frozen? ⟨P, 6, none⟩ = false := by
      obtain ⟨M', _, hp', _⟩ := hp.ex
      exact frozen_of_row w4 P 6 _ _ hp'.row
    have k6 := hp.cells.2.2.2.2.2
    clear hp hk hg
    go_wp2_with fail
    go_ret
    exact .inr ⟨rfl, by trivial, ⟨g', HPH.out.1⟩, HK.out.trans HPH.out.2⟩
end
end Pgr
end Go.Proofs.YtmccnlffikegfaaGreatDoor
