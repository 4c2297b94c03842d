/- The log's and the disk's calls as runs of steps; lay, settle. Conditions: as each says. -/
import Derived.Test.YtmccnlffikegfaaGreatDoorZPkto
import Derived.Test.YtmccnlffikegfaaGreatDoorZWnto
namespace Go.Proofs.YtmccnlffikegfaaGreatDoor
open Go.RowKit
namespace Pgr
open Wal (Pair PL R sealB sbody slot np wrs)
open Dsk (PD Mine KeepQ Only below_keeps cell_later sec vals pad zeros upd IntsAt ints)
open Crc (S S_of S_size)
def code (b : Bool) : Int := if b then 0 else 6
section
variable {W : World} {Q : Nat → Prop} {L D : Nat} {g : PL} {d : PD} {w : World}
theorem write_run (h : Pair W Q L D g d w) (k : Nat) (s : ByteArray) (hs : s.size ≤ 128) (hk : k < d.n) (hc : d.cs.length < 1000000) (hw : d.wr < 1000000) :
    Calls Tryz.prog 98 #[.pointer (some ⟨D, 0, none⟩), .int .i64 (k : Int), .string s] w fun e w' => e = .returned (.int .i64 (code (run d [.wr k s.data.toList]).1)) ∧ Pair W Q L D g (run d [.wr k s.data.toList]).2 w' ∧ KeepQ Q w w' := by
  cases hb : d.burnt with
  | false =>
    have e : run d [.wr k s.data.toList] = (true, (d.write k s.data.toList).burn) := by rw [run_cons, hb]; rfl
    rw [e]
    exact h.write k s hs hk hb hc hw
  | true =>
    have e : run d [.wr k s.data.toList] = (false, d) := by rw [run_cons, hb]; rfl
    rw [e]
    exact (h.write_burnt k s hs hk hb).mono fun _ _ ⟨he, hb2⟩ => ⟨he, h.later hb2, h.kept hb2⟩
theorem flush_run (h : Pair W Q L D g d w) (hf : d.fl < 1000000) :
    Calls Tryz.prog 99 #[.pointer (some ⟨D, 0, none⟩)] w fun e w' => e = .returned (.int .i64 (code (run d [.fl]).1)) ∧ Pair W Q L D g (run d [.fl]).2 w' ∧ KeepQ Q w w' := by
  cases hb : d.burnt with
  | false =>
    have e : run d [.fl] = (true, d.flush.burn) := by rw [run_cons, hb]; rfl
    rw [e]
    exact h.flush hb hf
  | true =>
    have e : run d [.fl] = (false, d) := by rw [run_cons, hb]; rfl
    rw [e]
    exact (h.flush_burnt hb).mono fun _ _ ⟨he, hb2⟩ => ⟨he, h.later hb2, h.kept hb2⟩
/-- A slot is written, and flushed. -/
def slotS (F t b : Nat) : List Step := [.wr (slot F t) (sealB (sbody t b)), .fl]
theorem slot_runs (d : PD) (F t b : Nat) : (d.burnt = true ∧ run d (slotS F t b) = (false, d)) ∨ (d.burnt = false ∧ (d.write (slot F t) (sealB (sbody t b))).burn.burnt = true ∧ run d (slotS F t b) = (false, (d.write (slot F t) (sealB (sbody t b))).burn)) ∨
    (d.burnt = false ∧ (d.write (slot F t) (sealB (sbody t b))).burn.burnt = false ∧ run d (slotS F t b) = (true, (d.write (slot F t) (sealB (sbody t b))).burn.flush.burn)) := by
  unfold slotS
  cases hb : d.burnt with
  | true => exact .inl ⟨rfl, by rw [run_cons, hb]; rfl⟩
  | false =>
    have e : run d [.wr (slot F t) (sealB (sbody t b)), .fl] = run (d.write (slot F t) (sealB (sbody t b))).burn [.fl] := by rw [run_cons, hb]; rfl
    rw [e]
    cases hb2 : (d.write (slot F t) (sealB (sbody t b))).burn.burnt with
    | true => exact .inr (.inl ⟨rfl, rfl, by rw [run_cons, hb2]; rfl⟩)
    | false => exact .inr (.inr ⟨rfl, rfl, by rw [run_cons, hb2]; rfl⟩)
def beginG (g : PL) (t : Nat) (b : Bool) : PL := if b then { g with turn := t } else g.halt
theorem begin_run (h : Pair W Q L D g d w) (t b : Nat) (ht : t ≤ 1099511627776) (hbt : b ≤ t) (hd : g.F + 1 < d.n) (hc : d.cs.length < 1000000) (hw : d.wr < 1000000) (hf : d.fl < 1000000) :
    Calls Tryz.prog 63 #[.pointer (some ⟨L, 0, none⟩), .agg #[.int .u64 (t : Int), .int .u64 (b : Int)]] w fun e w' => e = .returned (.int .i64 (code (run d (slotS g.F t b)).1)) ∧ Pair W Q L D (beginG g t (run d (slotS g.F t b)).1) (run d (slotS g.F t b)).2 w' ∧ KeepQ Q w w' := by
  rcases slot_runs d g.F t b with ⟨h1, e⟩ | ⟨h1, h2, e⟩ | ⟨h1, h2, e⟩
  · rw [e]; exact Wal.begin_off1 h t b ht hbt hd h1
  · rw [e]; exact Wal.begin_off2 h t b ht hbt hd h1 h2 hc hw
  · rw [e]; exact Wal.begin_on h t b ht hbt hd h1 h2 hc hw hf
def commitG (g : PL) (b : Bool) : PL := if b then g else g.halt
theorem commit_run (h : Pair W Q L D g d w) (hh : g.halted = false) (hf : d.fl < 1000000) :
    Calls Tryz.prog 80 #[.pointer (some ⟨L, 0, none⟩)] w fun e w' => e = .returned (.int .i64 (code (run d [.fl]).1)) ∧ Pair W Q L D (commitG g (run d [.fl]).1) (run d [.fl]).2 w' ∧ KeepQ Q w w' := by
  cases hb : d.burnt with
  | false =>
    have e : run d [.fl] = (true, d.flush.burn) := by rw [run_cons, hb]; rfl
    rw [e]
    exact Wal.commit_on h hh hb hf
  | true =>
    have e : run d [.fl] = (false, d) := by rw [run_cons, hb]; rfl
    rw [e]
    exact Wal.commit_off h hh hb
def resetG (g : PL) (b : Bool) : PL := if b then PL.empty { g with turn := g.turn + 1 } else g.halt
theorem reset_run (h : Pair W Q L D g d w) (hh : g.halted = false) (ht : g.turn < 1099511627776) (hd : g.F + 1 < d.n) (hc : d.cs.length < 1000000) (hw : d.wr < 1000000) (hf : d.fl < 1000000) :
    Calls Tryz.prog 100 #[.pointer (some ⟨L, 0, none⟩)] w fun e w' => e = .returned (.int .i64 (code (run d (slotS g.F (g.turn + 1) (g.turn + 1))).1)) ∧ Pair W Q L D (resetG g (run d (slotS g.F (g.turn + 1) (g.turn + 1))).1) (run d (slotS g.F (g.turn + 1) (g.turn + 1))).2 w' ∧ KeepQ Q w w' := by
  rcases slot_runs d g.F (g.turn + 1) (g.turn + 1) with ⟨h1, e⟩ | ⟨h1, h2, e⟩ | ⟨h1, h2, e⟩
  · rw [e]; exact Wal.reset_off1 h hh ht hd h1
  · rw [e]; exact Wal.reset_off2 h hh ht hd h1 h2 hc hw
  · rw [e]; exact Wal.reset_on h hh ht hd h1 h2 hc hw hf
theorem run_clear : ∀ (l : List Step) (d : PD), (∀ i, i < l.length → (exec d (l.take i)).burnt = false) → run d l = (true, exec d l)
  | [], _, _ => rfl
  | x :: l, d, h => by
    have h0 : d.burnt = false := h 0 (by simp)
    rw [run_cons, h0, if_neg (by simp), run_clear l (x.go d) (fun i hi => h (i + 1) (by simp; omega))]
    rfl
theorem run_cut {l : List Step} {d : PD} {j : Nat} (hj : j < l.length) (h : ∀ i, i < j → (exec d (l.take i)).burnt = false) (hb : (exec d (l.take j)).burnt = true) : run d l = (false, exec d (l.take j)) := by
  have e : l = l.take j ++ l.drop j := (List.take_append_drop j l).symm
  have h1 : run d (l.take j) = (true, exec d (l.take j)) := run_clear _ _ (fun i hi => by
    rw [List.length_take] at hi
    rw [List.take_take, Nat.min_eq_left (by omega)]
    exact h i (by omega))
  conv => lhs; rw [e]
  rw [run_app, h1, if_pos rfl]
  cases hd : l.drop j with
  | nil => have := congrArg List.length hd; rw [List.length_drop] at this; simp at this; omega
  | cons x r => show run (exec d (l.take j)) (x :: r) = _; rw [run_cons, hb]; rfl
def appendG (g : PL) (s : List UInt8) (b : Bool) : PL := if b then { g with recs := g.recs ++ [s], used := g.used + np s } else g.halt
theorem append_run (s : ByteArray) (h : Pair W Q L D g d w) (hh : g.halted = false) (hf : np s.data.toList ≤ g.n - g.used) (hr : g.recs.length ≤ g.used) (hd : g.F + 2 + g.n ≤ d.n) (hc : d.cs.length ≤ 900000) (hw : d.wr ≤ 900000) :
    Calls Tryz.prog 79 #[.pointer (some ⟨L, 0, none⟩), .string s] w fun e w' => e = .returned (.int .i64 (code (run d (wrts (plws g.F g.turn g.used s.data.toList (np s.data.toList)))).1)) ∧
      Pair W Q L D (appendG g s.data.toList (run d (wrts (plws g.F g.turn g.used s.data.toList (np s.data.toList)))).1) (run d (wrts (plws g.F g.turn g.used s.data.toList (np s.data.toList)))).2 w' ∧ KeepQ Q w w' := by
  refine (Wal.append_any s h hh hf hr hd hc hw).mono fun e w' h1 => ?_
  obtain ⟨h1, hkq⟩ := h1
  have hx : ∀ i, i ≤ np s.data.toList → exec d ((wrts (plws g.F g.turn g.used s.data.toList (np s.data.toList))).take i) = wrs d g.F g.turn g.used s.data.toList i := fun i hi => by
    rw [plws_take _ _ _ _ _ _ hi, plws_exec]
  rcases h1 with ⟨he, hp, hall⟩ | ⟨j, hj, he, hp, hb, hall⟩
  · have er := run_clear (wrts (plws g.F g.turn g.used s.data.toList (np s.data.toList))) d (fun i hi => by rw [plws_len] at hi; rw [hx i (by omega)]; exact hall i hi)
    rw [plws_exec] at er
    rw [er]
    exact ⟨he, hp, hkq⟩
  · have er := run_cut (l := wrts (plws g.F g.turn g.used s.data.toList (np s.data.toList))) (d := d) (j := j) (by rw [plws_len]; exact hj) (fun i hi => by rw [hx i (by omega)]; exact hall i hi) (by rw [hx j (by omega)]; exact hb)
    rw [hx j (by omega)] at er
    rw [er]
    exact ⟨he, hp, hkq⟩
end
theorem cell_keep {Q : Nat → Prop} {w w' : World} (hk : KeepQ Q w w') {p : Addr} (hq : Q p.block) : w'.cell? p = w.cell? p := by
  have := hk p.block hq
  unfold World.cell?
  rw [this]
section
variable {W : World} {Q : Nat → Prop} {P L D : Nat} {g : PL} {d : PD} {w : World}
theorem pws_len (B : Nat) (ch : Ch) : (wrts (pws B ch)).length = ch.length := by unfold wrts pws; simp
theorem run_more {d : PD} {F i : Nat} {ch : Ch} (hi : i < ch.length) (h : run d (wrts (pws F (ch.take i))) = (true, exec d (wrts (pws F (ch.take i))))) :
    run d (wrts (pws F (ch.take (i + 1)))) = run (exec d (wrts (pws F (ch.take i)))) [.wr (F + ch[i].1) ch[i].2] := by
  have e : wrts (pws F (ch.take (i + 1))) = wrts (pws F (ch.take i)) ++ [.wr (F + ch[i].1) ch[i].2] := by
    rw [List.take_succ_eq_append_getElem hi]
    unfold wrts pws
    rw [List.map_append, List.map_append]
    rfl
  rw [e, run_app, h, if_pos rfl]
theorem run_stop {d : PD} {F i : Nat} {ch : Ch} {x : PD} (h : run d (wrts (pws F (ch.take (i + 1)))) = (false, x)) : run d (wrts (pws F ch)) = (false, x) := by
  have e : wrts (pws F ch) = wrts (pws F (ch.take (i + 1))) ++ wrts (pws F (ch.drop (i + 1))) := by
    conv => lhs; rw [← List.take_append_drop (i + 1) ch]
    unfold wrts pws
    rw [List.map_append, List.map_append]
  rw [e, run_app, h, if_neg (by simp)]
theorem run_fine {d : PD} {l : List Step} {x : PD} (h : run d l = (true, x)) : x = exec d l := by
  rcases run_cases l d with h1 | ⟨p, q, _, _, h1⟩
  · rw [h1] at h; exact (Prod.mk.inj h).2.symm
  · rw [h1] at h; cases (Prod.mk.inj h).1
set_option maxHeartbeats 8000000 in
set_option maxRecDepth 100000 in
theorem lay_any {N M F : Nat} {ch : Ch} (h : Pair W Q L D g d w) (hN : N ≤ 1024) (ho : Ok N ch) (hm : MapIs M ch w) (hQM : Q M) (hQP : Q P) (c1 : w.cell? ⟨P, 1, none⟩ = some (.pointer (some ⟨D, 0, none⟩))) (c3 : w.cell? ⟨P, 3, none⟩ = some (.int .i64 (F : Int))) (hF : F + N ≤ d.n) (hc : d.cs.length ≤ 900000) (hw : d.wr ≤ 900000) :
    Calls Tryz.prog 66 #[.pointer (some ⟨P, 0, none⟩), .map (some M)] w fun e w' => e = .returned (.int .i64 (code (run d (wrts (pws F ch))).1)) ∧ Pair W Q L D g (run d (wrts (pws F ch))).2 w' ∧ KeepQ Q w w' := by
  have RI := hidm (rising_any hN ho hm)
  have HO := hidm ho
  have HNN := hidm hN
  have H := hidm h
  have HM := hidm hm
  have HQP := hidm hQP
  have HQM := hidm hQM
  have HC1 := hidm c1
  have HC3 := hidm c3
  have HF := hidm hF
  have HCW := hidm (show d.cs.length ≤ 900000 ∧ d.wr ≤ 900000 from ⟨hc, hw⟩)
  have HDN := hidm h.dok.1
  have hcn := ho.count
  obtain ⟨n, hn⟩ : ∃ n, n = ch.length := ⟨_, rfl⟩
  have HNL := hidm hn
  have hn24 : n ≤ 1024 := by omega
  have hz := zeroCon
  obtain ⟨Z, hZ⟩ : ∃ Z, Z = sec zeros := ⟨_, rfl⟩
  rw [← hZ] at hz
  have HZ := hidm hZ
  clear hN ho h hm hQP hQM c1 c3 hF hc hw hcn hn hZ
  go_enter Tryz.func66, Tryz.ntmps66
  go_wp2_with fail
  refine RI.out.mono ?_
  rintro e w1 ⟨x, rfl, hi, hb⟩
  have HL := hidm (show (nums ch).length = n from by rw [HNL.out]; simp [nums])
  obtain ⟨ao, cap, rfl, hxc, hxm⟩ := hi.form
  rw [HL.out] at hxc ⊢
  have HI := hidm hi
  have HP1 := hidm (H.out.guard hb)
  have HK1 := hidm (H.out.kept hb)
  have HB1 := hidm hb
  clear hi hb
  go_wp2_with fail
  go_loopw [6, 7, 8, 12] (fun _ _ _ ii wr => ∃ i : Nat, ii = .int .i64 (i : Int) ∧ i ≤ n ∧ Hid (Pair W (fun k => Q k ∨ (w.heap.size ≤ k ∧ k < w1.heap.size)) L D g (exec d (wrts (pws F (ch.take i)))) wr) ∧ Hid (KeepQ (fun k => Q k ∨ (w.heap.size ≤ k ∧ k < w1.heap.size)) w1 wr) ∧ Hid (run d (wrts (pws F (ch.take i))) = (true, exec d (wrts (pws F (ch.take i)))))) (fun _ _ _ ii _ => (n - (intOf ii).toNat))
  case atStart => exact ⟨0, rfl, by omega, HP1, hidm (fun _ _ => rfl), hidm rfl⟩
  case round =>
    rename World => wr
    obtain ⟨i, rfl, hi, HP, HK, HRUN⟩ := hrel
    rcases Nat.lt_or_ge i n with hlt | hge
    · have f1 : (i : Int) < (n : Int) := by omega
      have hic : i < ch.length := by rw [← HNL.out]; exact hlt
      obtain ⟨gk, cap2, cur, he, hrow, hcur⟩ := ints_row HI.out i (by rw [HL.out]; exact hlt)
      simp only [Value.slice.injEq] at he
      obtain ⟨rfl, -, -⟩ := he
      have hmem : ch[i] ∈ ch := List.getElem_mem hic
      have hrm := run_more hic HRUN.out
      obtain ⟨k, hk⟩ : ∃ k, k = ch[i].1 := ⟨_, rfl⟩
      obtain ⟨s, hs⟩ : ∃ s, s = ch[i].2 := ⟨_, rfl⟩
      have hks : (k, s) ∈ ch := by rw [hk, hs]; exact hmem
      rw [← hk, ← hs] at hrm
      have hkN : k < N := HO.out.lt _ hks
      have hsl : s.length = 128 := HO.out.len _ hks
      have hgk : w.heap.size ≤ gk ∧ gk < w1.heap.size := by
        have := HI.out.lt gk rfl
        exact this
      have hc0 : wr.cell? ⟨gk, i, none⟩ = some (.int .i64 (k : Int)) := by
        rw [cell_of_row wr gk i _ _ (0, 0) ((HK.out gk (.inr hgk)).trans hrow), hcur, nums_at hic, hk]
      have hMr : MapIs M ch wr := (HM.out.later HB1.out).keep (HK.out M (.inl HQM.out))
      have hlk := hMr.look k (by have := HNN.out; omega)
      rw [mem_look HO.out.rise hks] at hlk
      change (Instr.lookup 83 (.map (some M)) (.int .i64 (k : Int)) false).run Tryz.prog wr = .ok (.agg (sec s)) wr at hlk
      obtain ⟨C, hC⟩ : ∃ C, C = sec s := ⟨_, rfl⟩
      rw [← hC] at hlk
      have HINF := hidm (show (Tryz.prog.info? 80).map (·.size) = some C.size from by rw [hC, Dsk.sec_size, hsl]; exact infoCon)
      have HZC := hidm (show Z.size = C.size from by rw [HZ.out, hC, Dsk.sec_size, Dsk.sec_size, hsl, Dsk.zeros_len])
      have H1 := hidm (show C.all (·.oneCell') = true from by rw [hC]; exact Dsk.sec_one _)
      have HC := hidm hC
      have HSL := hidm hsl
      obtain ⟨hfn, hfc, hfw, _⟩ := exec_few (wrts (pws F (ch.take i))) d
      have hlen : (wrts (pws F (ch.take i))).length ≤ 1024 := by rw [pws_len, List.length_take]; omega
      obtain ⟨dx, hdx⟩ : ∃ dx, dx = exec d (wrts (pws F (ch.take i))) := ⟨_, rfl⟩
      rw [← hdx] at hfn hfc hfw hrm
      have HDX := hidm hdx
      have HCS := hidm (show dx.cs.length < 1000000 from by have := HCW.out; omega)
      have HWR := hidm (show dx.wr < 1000000 from by have := HCW.out; omega)
      obtain ⟨fk, hfk⟩ : ∃ fk, fk = F + k := ⟨_, rfl⟩
      have HFKN := hidm (show fk < dx.n from by have := HF.out; omega)
      have a1 : (F : Int) + (k : Int) = (fk : Int) := by omega
      have a1w : IntKind.i64.wrap (fk : Int) = (fk : Int) := by have := HF.out; have := HDN.out; simp only [IntKind.wrap_i64]; omega
      rw [← hfk] at hrm
      have HRM := hidm hrm
      obtain ⟨j, hj⟩ : ∃ j, j = i + 1 := ⟨_, rfl⟩
      have i1 : (i : Int) + 1 = (j : Int) := by omega
      have i1w : IntKind.i64.wrap (j : Int) = (j : Int) := by simp only [IntKind.wrap_i64]; omega
      have HJ := hidm hj
      have HJN := hidm (show j ≤ n from by omega)
      clear hj hC hk hs hmem hrow hcur hic hsl hks hkN hgk hMr hfn hfc hfw hlen hdx hfk hrm
      go_wp2_with (first
        | (refine Dsk.wpList_store_new rfl 80 _ _ rfl wr Z C rfl rfl HINF.out HZC.out H1.out ?_))
      have HR4 := hidm (show (wr.alloc (.cells C 80)).heap[wr.heap.size]? = some (.cells (sec s) 80 (0, 0)) from by rw [← HC.out]; exact heap_alloc_last wr _)
      have hba := (Below.refl wr.heap.size wr).alloc (Nat.le_refl _) (.cells C 80)
      have hPr : Pair W (fun k => Q k ∨ (w.heap.size ≤ k ∧ k < w1.heap.size)) L D g dx wr := by rw [HDX.out]; exact HP.out
      have HQL := hidm hPr.qlt
      have HP4 := hidm (hPr.guard hba)
      have HK4 := hidm (HK.out.trans (hPr.kept hba))
      have HQB := hidm (show (fun k => (Q k ∨ (w.heap.size ≤ k ∧ k < w1.heap.size)) ∨ (wr.heap.size ≤ k ∧ k < (wr.alloc (.cells C 80)).heap.size)) wr.heap.size from .inr ⟨Nat.le_refl _, by simp⟩)
      obtain ⟨w4, hw4⟩ : ∃ w4, w4 = wr.alloc (.cells C 80) := ⟨_, rfl⟩
      rw [← hw4] at HR4 HP4 HK4 HQB ⊢
      obtain ⟨B, hB⟩ : ∃ B, B = wr.heap.size := ⟨_, rfl⟩
      rw [← hB] at HR4 HQB HP4 ⊢
      have HQP2 := HQP
      have HQP := hidm (show Q P ∨ (w.heap.size ≤ P ∧ P < w1.heap.size) from .inl HQP2.out)
      have hk4 := HK4.out P HQP.out
      have hk0 := HK1.out P HQP2.out
      have CP1 := hidm (show w4.drew.cell? ⟨P, 1, none⟩ = some (.pointer (some ⟨D, 0, none⟩)) from by
        have := HC1.out
        unfold World.cell? at this ⊢
        rw [show w4.drew.heap[P]? = w.heap[P]? from hk4.trans hk0]; exact this)
      have CP3 := hidm (show w4.drew.cell? ⟨P, 3, none⟩ = some (.int .i64 (F : Int)) from by
        have := HC3.out
        unfold World.cell? at this ⊢
        rw [show w4.drew.heap[P]? = w.heap[P]? from hk4.trans hk0]; exact this)
      clear hba hw4 hB hlk hc0 hPr hk4 hk0
      refine wp_region_held_drew (S := fun u => u.cell? ⟨P, 1, none⟩ = some (.pointer (some ⟨D, 0, none⟩)) ∧ u.cell? ⟨P, 3, none⟩ = some (.int .i64 (F : Int)) ∧ u.heap[B]? = some (.cells (sec s) 80 (0, 0))) (by kernel_rfl) (⟨CP1.out, CP3.out, HR4.out⟩) (fun hHeld => ?_)
      refine Man.take1 (i := 0) (v := ?_) rfl (by kernel_rfl) (by kernel_rfl) (by kernel_rfl) (fun _ _ _ h => h) (by rfl) ?_ (by assumption) ?_
      rotate_left
      · (intro u hSu; (try dsimp only at hSu); go_simp; (try with_reducible rfl))
      (try simp only [Act.put, List.setIfInBounds_toArray, List.set_cons_zero, List.set_cons_succ])
      refine Man.take1 (i := 1) (v := ?_) rfl (by kernel_rfl) (by kernel_rfl) (by kernel_rfl) (fun _ _ _ h => h) (by rfl) ?_ (by assumption) ?_
      rotate_left
      · (intro u hSu; (try dsimp only at hSu); go_simp; (try with_reducible rfl))
      (try simp only [Act.put, List.setIfInBounds_toArray, List.set_cons_zero, List.set_cons_succ])
      refine Man.take1 (i := 2) (v := ?_) rfl (by kernel_rfl) (by kernel_rfl) (by kernel_rfl) (fun _ _ _ h => h) (by rfl) ?_ (by assumption) ?_
      rotate_left
      · (intro u hSu; (try dsimp only at hSu); go_simp; (try with_reducible rfl))
      (try simp only [Act.put, List.setIfInBounds_toArray, List.set_cons_zero, List.set_cons_succ])
      refine Man.take1 (i := 3) (v := ?_) rfl (by kernel_rfl) (by kernel_rfl) (by kernel_rfl) (fun _ _ _ h => h) (by rfl) ?_ (by assumption) ?_
      rotate_left
      · (intro u hSu; (try dsimp only at hSu); go_simp; (try with_reducible rfl))
      (try simp only [Act.put, List.setIfInBounds_toArray, List.set_cons_zero, List.set_cons_succ])
      refine Man.take1 (i := 4) (v := ?_) rfl (by kernel_rfl) (by kernel_rfl) (by kernel_rfl) (fun _ _ _ h => h) (by rfl) ?_ (by assumption) ?_
      rotate_left
      · (intro u hSu; (try dsimp only at hSu); go_simp; (try with_reducible rfl))
      (try simp only [Act.put, List.setIfInBounds_toArray, List.set_cons_zero, List.set_cons_succ])
      refine Man.take1 (i := 5) (v := ?_) rfl (by kernel_rfl) (by kernel_rfl) (by kernel_rfl) (fun _ _ _ h => h) (by rfl) ?_ (by assumption) ?_
      rotate_left
      · (intro u hSu; (try dsimp only at hSu); go_simp; (try with_reducible rfl))
      (try simp only [Act.put, List.setIfInBounds_toArray, List.set_cons_zero, List.set_cons_succ])
      refine Man.take1 (i := 6) (v := ?_) rfl (by kernel_rfl) (by kernel_rfl) (by kernel_rfl) (fun _ _ _ h => h) (by rfl) ?_ (by assumption) ?_
      rotate_left
      · (intro u hSu; (try dsimp only at hSu); go_simp; (try with_reducible rfl))
      (try simp only [Act.put, List.setIfInBounds_toArray, List.set_cons_zero, List.set_cons_succ])
      refine Man.take1 (i := 7) (v := ?_) rfl (by kernel_rfl) (by kernel_rfl) (by kernel_rfl) (fun _ _ _ h => h) (by rfl) ?_ (by assumption) ?_
      rotate_left
      · (intro u hSu; (try dsimp only at hSu); go_simp; (try with_reducible rfl))
      (try simp only [Act.put, List.setIfInBounds_toArray, List.set_cons_zero, List.set_cons_succ])
      refine Man.take1 (i := 8) (v := ?_) rfl (by kernel_rfl) (by kernel_rfl) (by kernel_rfl) (fun _ _ _ h => h) (by rfl) ?_ (by assumption) ?_
      rotate_left
      · (intro u hSu; (try dsimp only at hSu); go_simp; (try with_reducible rfl))
      (try simp only [Act.put, List.setIfInBounds_toArray, List.set_cons_zero, List.set_cons_succ])
      refine Man.take1 (i := 9) (v := ?_) rfl (by kernel_rfl) (by kernel_rfl) (by kernel_rfl) (fun _ _ _ h => h) (by rfl) ?_ (by assumption) ?_
      rotate_left
      · (intro u hSu; (try dsimp only at hSu); go_simp; (try with_reducible rfl))
      (try simp only [Act.put, List.setIfInBounds_toArray, List.set_cons_zero, List.set_cons_succ])
      refine Man.take1 (i := 10) (v := ?_) rfl (by kernel_rfl) (by kernel_rfl) (by kernel_rfl) (fun _ _ _ h => h) (by rfl) ?_ (by assumption) ?_
      rotate_left
      · (intro u hSu; (try dsimp only at hSu); go_simp; (try with_reducible rfl))
      (try simp only [Act.put, List.setIfInBounds_toArray, List.set_cons_zero, List.set_cons_succ])
      refine Man.take1 (i := 11) (v := ?_) rfl (by kernel_rfl) (by kernel_rfl) (by kernel_rfl) (fun _ _ _ h => h) (by rfl) ?_ (by assumption) ?_
      rotate_left
      · intro u hSu
        have hcv := conBytesAt hSu.2.2 128 HSL.out
        (try dsimp only at hSu)
        go_simp
        (try with_reducible rfl)
      (try simp only [Act.put, List.setIfInBounds_toArray, List.set_cons_zero, List.set_cons_succ])
      refine Man.one (i := 12) rfl (by kernel_rfl) (fun K hK => ?_)
      go_simp
      refine (write_run (HP4.out.later (Below.refl _ _).drew) fk (S s) (by rw [S_size, HSL.out]; exact Nat.le_refl _) HFKN.out HCS.out HWR.out).mono ?_
      rintro e w5 ⟨rfl, hp, hk⟩
      have HP5 := hidm hp
      have HK5 := hidm hk
      refine hK.out _ _ ⟨(cell_keep hk (.inl HQP.out)).trans hHeld.1, (cell_keep hk (.inl HQP.out)).trans hHeld.2.1, (hk B HQB.out).trans hHeld.2.2⟩ (fun hNew => ?_)
      clear hp hk hK K hHeld
      have hHeld := hNew
      clear hNew
      skip
      refine Man.take1 (i := 13) (v := ?_) rfl (by kernel_rfl) (by kernel_rfl) (by kernel_rfl) (fun _ _ _ h => h) (by rfl) ?_ (by assumption) ?_
      rotate_left
      · (intro u hSu; (try dsimp only at hSu); go_simp; (try with_reducible rfl))
      (try simp only [Act.put, List.setIfInBounds_toArray, List.set_cons_zero, List.set_cons_succ])
      refine wpAnyH_done (by kernel_rfl) ?_ _
      have HLS := hidm (show run dx [.wr fk (S s).data.toList] = run d (wrts (pws F (ch.take (i + 1)))) from HRM.out.symm)
      rw [HLS.out] at HP5 ⊢
      rcases hrr : run d (wrts (pws F (ch.take (i + 1)))) with ⟨ok, dy⟩
      rw [hrr] at HP5
      cases ok with
      | true =>
        have hdy := run_fine hrr
        have HRUN2 := hidm (show run d (wrts (pws F (ch.take j))) = (true, exec d (wrts (pws F (ch.take j)))) from by rw [HJ.out, hrr, hdy])
        have HPX := hidm (show Pair W (fun k => Q k ∨ (w.heap.size ≤ k ∧ k < w1.heap.size)) L D g (exec d (wrts (pws F (ch.take j)))) w5 from by
          rw [HJ.out, ← hdy]; exact HP5.out.less (fun _ e => .inl e))
        have HKX := hidm (show KeepQ (fun k => Q k ∨ (w.heap.size ≤ k ∧ k < w1.heap.size)) w1 w5 from HK4.out.trans (fun k hk => HK5.out k (.inl hk)))
        have hc6 : code (true, dy).1 = 0 := rfl
        rw [hc6]
        clear hrr hdy hc6
        go_wp2_with fail
        go_roundw
        case rel => exact ⟨j, rfl, HJN.out, HPX, HKX, HRUN2⟩
        case measure => have := HJ.out; simp [intOf]; omega
      | false =>
        have HST := hidm (run_stop hrr)
        have hc6 : code (false, dy).1 = 6 := rfl
        rw [hc6]
        clear hrr hc6
        go_wp2_with fail
        go_ret
        rw [HST.out]
        exact ⟨rfl, HP5.out.less (fun _ e => .inl (.inl e)), fun k hk => (HK5.out k (.inl (.inl hk))).trans ((HK4.out k (.inl hk)).trans (HK1.out k hk))⟩
    · obtain rfl : i = n := by omega
      have f1 : ¬ (i : Int) < (i : Int) := by omega
      have HTK := hidm (show ch.take i = ch from by rw [HNL.out, List.take_length])
      go_wp2_with fail
      go_ret
      have h1 := HRUN.out
      have h2 := HP.out
      rw [HTK.out] at h1 h2
      rw [h1]
      exact ⟨rfl, h2.less (fun _ e => .inl e), fun k hk => (HK.out k (.inl hk)).trans (HK1.out k hk)⟩
end
end Pgr
end Go.Proofs.YtmccnlffikegfaaGreatDoor
