import Derived.Test.YtkgbemkcnahkoaaGreatDoorZUbto
import Derived.Test.YtkgbemkcnahkoaaGreatDoorZPpto
namespace Go.Proofs.YtkgbemkcnahkoaaGreatDoor
open Go.RowKit
namespace Pgr
open Wal
open Dsk (PD RefIs Only Grow KeepQ upd pad pad_len below_keeps zeros owns_later cell_later)
open Crc (S S_of S_size S_append)
section
variable {X M R : Nat} {v : DV} {g g' : DL} {d : PD} {F F' T T' : Nat → Prop} {w w' : World} {sl : Value}
structure Beside (X M R : Nat) (v : DV) (F : Nat → Prop) (sl : Value) (w : World) (Fl : Nat → Prop) : Prop where
 row : w.heap[X]? = some (.cells (rpcells R M v sl) 50 (0, 0))
 pgs : Pages 0 v.ch sl w
 off : ∀ k, Fl k → F k ∧ k ≠ X ∧ sl.ownBlock ≠ some k
 inF : ∀ b, sl.ownBlock = some b → F b
 fX : F X
 lt : ∀ k, F k → k < w.heap.size
theorem Beside.step (h : Beside X M R v F sl w T) (ht : To T T' w w') (hl : ∀ k, T' k → k < w'.heap.size) : Beside X M R v (fun k => F k ∨ T' k) sl w' T' ∧ To F (fun k => F k ∨ T' k) w w' := by
 refine ⟨⟨(ht.keeps (h.lt X h.fX) (fun e => (h.off X e).2.1 rfl)).trans h.row, h.pgs.of (fun b e => ht.keeps (h.lt b (h.inF b e)) (fun e2 => (h.off b e2).2.2 e)), fun k hk => ⟨.inr hk, ?_⟩, fun b e => .inl (h.inF b e), .inl h.fX, fun k hk => ?_⟩, ht.part (fun k e => (h.off k e).1)⟩
 · rcases ht.2.2 k hk with e | e
   · exact (h.off k e).2
   · exact ⟨fun e2 => by have := h.lt X h.fX; omega, fun e2 => by have := h.lt k (h.inF k e2); omega⟩
 · rcases hk with e | e
   · exact Nat.lt_of_lt_of_le (h.lt k e) ht.size
   · exact hl k e
theorem RP.beside (h : RP X M R v g d F w) : ∃ Fl sl, RL M R g d Fl w ∧ Beside X M R v F sl w Fl := by
 obtain ⟨Fl, sl, h1, h2, h3, h4, h5⟩ := h.ex
 exact ⟨Fl, sl, h1, h2, h3, h4, h5, h.fX, h.lt⟩
theorem Beside.rp (h : Beside X M R v F sl w T) (hl : RL M R g d T w) (ho : Ok v.N v.ch) (hs : 1 ≤ v.N ∧ v.N ≤ 1024 ∧ v.n ≤ 998 ∧ g.n = v.n) (hf : 2 + v.n + v.N = d.n) : RP X M R v g d F w :=
 ⟨⟨T, sl, hl, h.row, h.pgs, h.off, h.inF⟩, h.fX, h.lt, ho, hs, hf⟩
theorem Beside.cells (h : Beside X M R v F sl w T) : w.cell? ⟨X, 0, none⟩ = some (.pointer (some ⟨R, 0, none⟩)) ∧ w.cell? ⟨X, 1, none⟩ = some (.pointer (some ⟨M, 0, none⟩)) ∧ w.cell? ⟨X, 3, none⟩ = some sl := by
 refine ⟨?_, ?_, ?_⟩ <;> (rw [cell_of_row w X _ _ _ (0, 0) h.row]; rfl)
end
section
variable {X M R : Nat} {v : DV} {d : PD} {F : Nat → Prop} {w : World}
theorem all_steps (n t : Nat) (ch : Ch) : commitS n t ch = aS t (record ch) (np (record ch)) ++ (flS ++ (wrts (pws (2 + n) ch) ++ (flS ++ nextS (t + 1) (t + 1)))) := by
 unfold commitS tailS aS nextS flS wrS slotStep slot
 simp [Nat.zero_add]
set_option maxHeartbeats 8000000 in
set_option maxRecDepth 100000 in
theorem rall_any {n N t b : Nat} {ch : Ch} {hd : Bool} (h : RP X M R ⟨n, N, ch, hd⟩ ⟨n, t, b, 0, [], false⟩ d F w) (hr : np (record ch) ≤ n) (hn : 2 ≤ n) (ht : t + 1 < 1099511627776) (hc : d.cs.length ≤ 700000) (hw : d.wr ≤ 700000) (hf : d.fl ≤ 700000) :
   Calls Tryz.prog 97 #[.pointer (some ⟨X, 0, none⟩), .string (S (record ch))] w fun e w' => Got fun F' => e = .returned (.int .i64 (code (run d (commitS n t ch)).1)) ∧ (∃ g', RP X M R ⟨n, N, ch, hd⟩ g' (run d (commitS n t ch)).2 F' w' ∧ ((run d (commitS n t ch)).1 = true → g' = ⟨n, t + 1, t + 1, 0, [], false⟩)) ∧ To F F' w w' := by
 obtain ⟨Fl, sl, hl, hbs⟩ := h.beside
 have HOK := hidm h.ok
 have HSZ := hidm (show 1 ≤ N ∧ N ≤ 1024 ∧ n ≤ 998 from ⟨h.sz.1, h.sz.2.1, h.sz.2.2.1⟩)
 have HFT := hidm (show 2 + n + N = d.n from h.fit)
 have hcnt : ch.length ≤ N := h.ok.count
 have HCN := hidm hcnt
 have HCS := hidm (all_steps n t ch)
 obtain ⟨A1, hA1⟩ : ∃ x, x = aS t (record ch) (np (record ch)) := ⟨_, rfl⟩
 obtain ⟨A3, hA3⟩ : ∃ x, x = wrts (pws (2 + n) ch) := ⟨_, rfl⟩
 have HA1 := hidm hA1
 have HA3 := hidm hA3
 have HL1 := hidm (show A1.length ≤ 998 from by rw [hA1, aS_len]; have := HSZ.out; omega)
 have HL3 := hidm (show A3.length ≤ 1024 from by rw [hA3, pws_len]; have := HSZ.out; omega)
 rw [← hA1, ← hA3] at HCS
 have HBD := hidm (show d.cs.length ≤ 700000 ∧ d.wr ≤ 700000 ∧ d.fl ≤ 700000 ∧ t + 1 < 1099511627776 from ⟨hc, hw, hf, ht⟩)
 have HAP := hidm (rappend_any hl rfl rfl rfl (S (record ch)) hr (by show t < _; omega) (by omega) (by omega))
 obtain ⟨c0, c1, c3⟩ := hbs.cells
 have HBS := hidm hbs
 have HRR := hidm hr
 obtain ⟨rs, hrs⟩ : ∃ x, x = S (record ch) := ⟨_, rfl⟩
 have hrd : (S (record ch)).data.toList = record ch := rfl
 rw [hrd, ← hA1, ← hrs] at HAP
 rw [← hrs]
 obtain ⟨C, hC⟩ : ∃ x, x = commitS n t ch := ⟨_, rfl⟩
 rw [← hC] at HCS ⊢
 clear h hl hbs hcnt hA1 hA3 hr hn ht hc hw hf hrs hrd hC c0 c3
 go_enter Tryz.func97, Tryz.ntmps97
 go_wp2_with fail
 refine HAP.out.mono ?_
 rintro e w1 ⟨⟨F1, rfl, h1, ht1⟩⟩
 have H1 := hidm h1
 obtain ⟨hb1, hto1⟩ := HBS.out.step ht1 h1.lt
 have HB1 := hidm hb1
 have HT1 := hidm hto1
 clear h1 ht1 hb1 hto1 HAP c1
 have hfew1 := run_few A1 d
 obtain ⟨d1, hd1⟩ : ∃ x, x = (run d A1).2 := ⟨_, rfl⟩
 rw [← hd1] at H1 hfew1
 have HW1 := hidm hfew1
 rcases hr1 : (run d A1).1 with _ | _
 · have HE := hidm (show run d C = (false, d1) from by rw [HCS.out]; exact seq_fail (Prod.ext hr1 hd1.symm))
   have e1 : code false = 6 := rfl
   rw [hr1] at H1
   rw [e1]
   clear hr1 hd1 hfew1
   go_wp2_with fail
   go_ret
   exact ⟨⟨_, by rw [HE.out]; rfl, ⟨_, by rw [HE.out]; exact HB1.out.rp H1.out HOK.out ⟨HSZ.out.1, HSZ.out.2.1, HSZ.out.2.2, rfl⟩ (by rw [HW1.out.1]; exact HFT.out), fun e => by rw [HE.out] at e; cases e⟩, HT1.out⟩⟩
 · have HE1 := hidm (show run d C = run d1 (flS ++ (A3 ++ (flS ++ nextS (t + 1) (t + 1)))) from by rw [HCS.out]; exact seq_ok (Prod.ext hr1 hd1.symm))
   have e1 : code true = 0 := rfl
   rw [hr1] at H1
   rw [e1]
   have HLG1 := hidm (show RL M R ⟨n, t, b, np (record ch), [record ch], false⟩ d1 F1 w1 from H1.out)
   have c1 := HB1.out.cells.2.1
   clear hr1 hd1 H1 hfew1
   go_wp2_with fail
   refine (rlcommit_any HLG1.out rfl (by have h1 := HW1.out; have h2 := HBD.out; have h3 := HL1.out; omega)).mono ?_
   rintro e w2 ⟨⟨F2, rfl, h2, ht2⟩⟩
   have H2 := hidm h2
   obtain ⟨hb2, hto2⟩ := HB1.out.step ht2 h2.lt
   have HB2 := hidm hb2
   have HT2 := hidm (HT1.out.trans hto2)
   clear h2 ht2 hb2 hto2 c1 HLG1 HB1 HT1
   have hfew2 := run_few flS d1
   obtain ⟨d2, hd2⟩ : ∃ x, x = (run d1 flS).2 := ⟨_, rfl⟩
   rw [← hd2] at H2 hfew2
   have HW2 := hidm hfew2
   rcases hr2 : (run d1 flS).1 with _ | _
   · have HE := hidm (show run d C = (false, d2) from by rw [HE1.out]; exact seq_fail (Prod.ext hr2 hd2.symm))
     have e1 : code false = 6 := rfl
     rw [hr2] at H2
     rw [e1]
     clear hr2 hd2 hfew2
     go_wp2_with fail
     go_ret
     exact ⟨⟨_, by rw [HE.out]; rfl, ⟨_, by rw [HE.out]; exact HB2.out.rp H2.out HOK.out ⟨HSZ.out.1, HSZ.out.2.1, HSZ.out.2.2, rfl⟩ (by rw [HW2.out.1, HW1.out.1]; exact HFT.out), fun e => by rw [HE.out] at e; cases e⟩, HT2.out⟩⟩
   · have HE2 := hidm (show run d C = run d2 (A3 ++ (flS ++ nextS (t + 1) (t + 1))) from by rw [HE1.out]; exact seq_ok (Prod.ext hr2 hd2.symm))
     have e1 : code true = 0 := rfl
     rw [hr2] at H2
     rw [e1]
     have HLG2 := hidm (show RL M R ⟨n, t, b, np (record ch), [record ch], false⟩ d2 F2 w2 from H2.out)
     obtain ⟨-, -, c3⟩ := HB2.out.cells
     have hbd2 : d2.cs.length ≤ 800000 ∧ d2.wr ≤ 800000 ∧ d2.fl ≤ 800000 ∧ d2.n = d.n := by
       have h1 := HW1.out; have h2 := HW2.out; have h3 := HBD.out; have h4 := HL1.out
       have h5 : flS.length = 1 := rfl
       omega
     have HBD2 := hidm hbd2
     have HHM := hidm (rhome_any (v := ⟨n, N, ch, hd⟩) HLG2.out (fun e => (HB2.out.off X e).2.1 rfl) HB2.out.row HB2.out.pgs (fun b e e2 => (HB2.out.off b e2).2.2 e) HOK.out ⟨HSZ.out.2.1, HSZ.out.2.2⟩ (by rw [HBD2.out.2.2.2]; exact HFT.out) (by have := HBD2.out; omega) (by have := HBD2.out; omega))
     have hv2 : (2 + (⟨n, N, ch, hd⟩ : DV).n) = 2 + n := rfl
     have hAA := HA3.out
     rw [hv2, ← hAA] at HHM
     clear hr2 hd2 H2 hfew2 hbd2 hv2 hAA
     go_wp2_with fail
     refine HHM.out.mono ?_
     rintro e w3 ⟨⟨F3, rfl, h3, ht3⟩⟩
     have H3 := hidm h3
     obtain ⟨hb3, hto3⟩ := HB2.out.step ht3 h3.lt
     have HB3 := hidm hb3
     have HT3 := hidm (HT2.out.trans hto3)
     clear h3 ht3 hb3 hto3 c3 HLG2 HB2 HT2 HHM
     have hfew3 := run_few A3 d2
     obtain ⟨d3, hd3⟩ : ∃ x, x = (run d2 A3).2 := ⟨_, rfl⟩
     rw [← hd3] at H3 hfew3
     have HW3 := hidm hfew3
     rcases hr3 : (run d2 A3).1 with _ | _
     · have HE := hidm (show run d C = (false, d3) from by rw [HE2.out]; exact seq_fail (Prod.ext hr3 hd3.symm))
       have e1 : code false = 6 := rfl
       rw [e1]
       clear hr3 hd3 hfew3
       go_wp2_with fail
       go_ret
       exact ⟨⟨_, by rw [HE.out]; rfl, ⟨_, by rw [HE.out]; exact HB3.out.rp H3.out HOK.out ⟨HSZ.out.1, HSZ.out.2.1, HSZ.out.2.2, rfl⟩ (by rw [HW3.out.1, HBD2.out.2.2.2]; exact HFT.out), fun e => by rw [HE.out] at e; cases e⟩, HT3.out⟩⟩
     · have HE3 := hidm (show run d C = run d3 (flS ++ nextS (t + 1) (t + 1)) from by rw [HE2.out]; exact seq_ok (Prod.ext hr3 hd3.symm))
       have e1 : code true = 0 := rfl
       rw [e1]
       have c0 := HB3.out.cells.1
       have HF3 := hidm (show d3.fl < 1000000 from by have h1 := HW3.out; have h2 := HBD2.out; have h3 := HL3.out; omega)
       clear hr3 hd3 hfew3
       go_wp2_with fail
       refine (rl_flush H3.out HF3.out).mono ?_
       rintro e w4 ⟨F4, rfl, h4, ht4⟩
       have H4 := hidm h4
       obtain ⟨hb4, hto4⟩ := HB3.out.step ht4 h4.lt
       have HB4 := hidm hb4
       have HT4 := hidm (HT3.out.trans hto4)
       clear h4 ht4 hb4 hto4 c0 HB3 HT3 H3
       have hfew4 := run_few flS d3
       obtain ⟨d4, hd4⟩ : ∃ x, x = (run d3 flS).2 := ⟨_, rfl⟩
       rw [← hd4] at H4 hfew4
       have HW4 := hidm hfew4
       rcases hr4 : (run d3 flS).1 with _ | _
       · have HE := hidm (show run d C = (false, d4) from by rw [HE3.out]; exact seq_fail (Prod.ext hr4 hd4.symm))
         have e1 : code false = 6 := rfl
         rw [e1]
         clear hr4 hd4 hfew4
         go_wp2_with fail
         go_ret
         exact ⟨⟨_, by rw [HE.out]; rfl, ⟨_, by rw [HE.out]; exact HB4.out.rp H4.out HOK.out ⟨HSZ.out.1, HSZ.out.2.1, HSZ.out.2.2, rfl⟩ (by rw [HW4.out.1, HW3.out.1, HBD2.out.2.2.2]; exact HFT.out), fun e => by rw [HE.out] at e; cases e⟩, HT4.out⟩⟩
       · have HE4 := hidm (show run d C = run d4 (nextS (t + 1) (t + 1)) from by rw [HE3.out]; exact seq_ok (Prod.ext hr4 hd4.symm))
         have e1 : code true = 0 := rfl
         rw [e1]
         have c1 := HB4.out.cells.2.1
         have hbd4 : d4.cs.length ≤ 900000 ∧ d4.wr ≤ 900000 ∧ d4.fl ≤ 900000 := by
           have h1 := HW4.out; have h2 := HW3.out; have h3 := HBD2.out; have h4 := HL3.out
           have h5 : flS.length = 1 := rfl
           omega
         have HRS := hidm (rlreset_any H4.out rfl (by show t < _; have := HBD.out; omega) hbd4.1 hbd4.2.1 hbd4.2.2)
         have hgt : (⟨n, t, b, np (record ch), [record ch], false⟩ : DL).turn = t := rfl
         rw [hgt, ← HE4.out] at HRS
         clear hr4 hd4 hfew4 hbd4 hgt
         go_wp2_with fail
         refine HRS.out.mono ?_
         rintro e w5 ⟨⟨F5, rfl, h5, ht5⟩⟩
         have H5 := hidm h5
         obtain ⟨hb5, hto5⟩ := HB4.out.step ht5 h5.lt
         have HB5 := hidm hb5
         have HT5 := hidm (HT4.out.trans hto5)
         clear h5 ht5 hb5 hto5
         have HN5 := hidm (show (run d C).2.n = d.n from (run_few C d).1)
         go_wp2_with fail
         go_ret
         refine ⟨⟨_, rfl, ⟨_, HB5.out.rp H5.out HOK.out ⟨HSZ.out.1, HSZ.out.2.1, HSZ.out.2.2, ?_⟩ (by rw [HN5.out]; exact HFT.out), fun e => ?_⟩, HT5.out⟩⟩
         · unfold resetL; split <;> rfl
         · rw [e]; rfl
def CommitR (X M R n N t : Nat) (ch : Ch) (d : PD) (F : Nat → Prop) (w : World) (e : Ending) (w' : World) : Prop :=
 (e = .returned (.int .i64 0) ∧ (run d (commitS n t ch)).1 = true ∧ ∃ F', RP X M R ⟨n, N, [], false⟩ ⟨n, t + 1, t + 1, 0, [], false⟩ (run d (commitS n t ch)).2 F' w' ∧ To F F' w w') ∨
   (e = .returned (.int .i64 6) ∧ (run d (commitS n t ch)).1 = false ∧ ∃ F' g', RP X M R ⟨n, N, ch, true⟩ g' (run d (commitS n t ch)).2 F' w' ∧ To F F' w w')
set_option maxHeartbeats 2000000 in
set_option maxRecDepth 100000 in
theorem rpcommit_idle {n N : Nat} {g : DL} (h : RP X M R ⟨n, N, [], false⟩ g d F w) :
   Calls Tryz.prog 57 #[.pointer (some ⟨X, 0, none⟩)] w fun e w' => e = .returned (.int .i64 0) ∧ w = w' := by
 have c4 : w.cell? ⟨X, 4, none⟩ = some (.bool false) := h.c4
 obtain ⟨ao, cap, c3, -⟩ := h.c3
 have c3 : w.cell? ⟨X, 3, none⟩ = some (.slice ao 0 cap) := c3
 clear h
 go_enter Tryz.func57, Tryz.ntmps57
 go_wp2_with fail
 go_ret
 exact ⟨rfl, rfl⟩
set_option maxHeartbeats 4000000 in
set_option maxRecDepth 100000 in
theorem rpcommit_full {n N t b : Nat} {ch : Ch} (h : RP X M R ⟨n, N, ch, false⟩ ⟨n, t, b, 0, [], false⟩ d F w) (he : ch ≠ []) (hr : ¬ np (record ch) ≤ n) (hl : (record ch).length ≤ 100000) :
   Calls Tryz.prog 57 #[.pointer (some ⟨X, 0, none⟩)] w fun e w' => e = .returned (.int .i64 3) ∧ Below w.heap.size w w' := by
 have c4 : w.cell? ⟨X, 4, none⟩ = some (.bool false) := h.c4
 obtain ⟨ao, cap, c3, hp, hlc, hm, -⟩ := h.c3
 dsimp only at c3 hp hlc
 have hcn : ch.length ≤ N := h.ok.count
 obtain ⟨m, hmm⟩ : ∃ m, m = ch.length := ⟨_, rfl⟩
 have HRC := hidm (rrec_any hp h.ok h.sz.2.1)
 have hm0 : 0 < m := by rw [hmm]; exact List.length_pos_iff.2 he
 rw [← hmm] at c3 HRC
 have HFI := hidm (fun (u : World) (hb : Below w.heap.size w u) => (show Calls Tryz.prog 96 #[.pointer (some ⟨M, 0, none⟩), .int .i64 ((S (record ch)).size : Int)] u fun e w' => e = .returned (.bool false) ∧ Below u.heap.size u w' from by
   obtain ⟨Fl, sl, hrl, _⟩ := (h.later hb).beside
   have h1 := rfits_any hrl (S (record ch)).size (by rw [S_size]; exact hl)
   have h2 : decide ((0 : Nat) + npn (S (record ch)).size ≤ n) = false := by
     rw [S_size, npn_is]; exact decide_eq_false (by omega)
   change Calls Tryz.prog 96 #[.pointer (some ⟨M, 0, none⟩), .int .i64 ((S (record ch)).size : Int)] u (fun e w' => e = .returned (.bool (decide ((0 : Nat) + npn (S (record ch)).size ≤ n))) ∧ Below u.heap.size u w') at h1
   rw [h2] at h1
   exact h1))
 have C1 := hidm (fun (u : World) (hb : Below w.heap.size w u) => (h.later hb).c1)
 obtain ⟨rs, hrs⟩ : ∃ x, x = S (record ch) := ⟨_, rfl⟩
 rw [← hrs] at HRC HFI
 have g1 : ((m : Int) == 0) = false := by rw [beq_eq_false_iff_ne]; omega
 have g1b : ¬ (m : Int) = 0 := by omega
 have g1c : ¬ m = 0 := by omega
 have hm9 : m ≤ 9223372036854775807 := by omega
 clear h he hr hl hcn hp hlc hm hmm hrs
 go_enter Tryz.func57, Tryz.ntmps57
 go_wp2_with fail
 refine HRC.out.mono ?_
 rintro e w1 ⟨rfl, hb⟩
 have HB1 := hidm hb
 have c1 := C1.out w1 hb
 clear hb
 go_wp2_with fail
 refine (HFI.out w1 HB1.out).mono ?_
 rintro e w2 ⟨rfl, hb⟩
 have HB2 := hidm (HB1.out.trans (hb.mono HB1.out.size))
 clear hb
 go_wp2_with fail
 go_ret
 exact ⟨rfl, HB2.out⟩
set_option maxHeartbeats 8000000 in
set_option maxRecDepth 100000 in
theorem rpcommit_in {n N t b : Nat} {ch : Ch} (h : RP X M R ⟨n, N, ch, false⟩ ⟨n, t, b, 0, [], false⟩ d F w) (he : ch ≠ []) (hr : np (record ch) ≤ n) (hn : 2 ≤ n) (hl : (record ch).length ≤ 100000) (ht : t + 1 < 1099511627776) (hc : d.cs.length ≤ 700000) (hw : d.wr ≤ 700000) (hf : d.fl ≤ 700000) :
   Calls Tryz.prog 57 #[.pointer (some ⟨X, 0, none⟩)] w fun e w' => CommitR X M R n N t ch d F w e w' := by
 have c4 : w.cell? ⟨X, 4, none⟩ = some (.bool false) := h.c4
 obtain ⟨ao, cap, c3, hp, hlc, hm, -⟩ := h.c3
 dsimp only at c3 hp hlc
 have hcn : ch.length ≤ N := h.ok.count
 obtain ⟨m, hmm⟩ : ∃ m, m = ch.length := ⟨_, rfl⟩
 have HRC := hidm (rrec_any hp h.ok h.sz.2.1)
 have hm0 : 0 < m := by rw [hmm]; exact List.length_pos_iff.2 he
 rw [← hmm] at c3 HRC
 have HFI := hidm (fun (u : World) (hb : Below w.heap.size w u) => (show Calls Tryz.prog 96 #[.pointer (some ⟨M, 0, none⟩), .int .i64 ((S (record ch)).size : Int)] u fun e w' => e = .returned (.bool true) ∧ Below u.heap.size u w' from by
   obtain ⟨Fl, sl, hrl, _⟩ := (h.later hb).beside
   have h1 := rfits_any hrl (S (record ch)).size (by rw [S_size]; exact hl)
   have h2 : decide ((0 : Nat) + npn (S (record ch)).size ≤ n) = true := by
     rw [S_size, npn_is]; exact decide_eq_true (by omega)
   change Calls Tryz.prog 96 #[.pointer (some ⟨M, 0, none⟩), .int .i64 ((S (record ch)).size : Int)] u (fun e w' => e = .returned (.bool (decide ((0 : Nat) + npn (S (record ch)).size ≤ n))) ∧ Below u.heap.size u w') at h1
   rw [h2] at h1
   exact h1))
 have C1 := hidm (fun (u : World) (hb : Below w.heap.size w u) => (h.later hb).c1)
 have HAL := hidm (fun (u : World) (hb : Below w.heap.size w u) => rall_any (h.later hb) hr hn ht hc hw hf)
 obtain ⟨rs, hrs⟩ : ∃ x, x = S (record ch) := ⟨_, rfl⟩
 rw [← hrs] at HRC HFI HAL
 have g1 : ((m : Int) == 0) = false := by rw [beq_eq_false_iff_ne]; omega
 have g1b : ¬ (m : Int) = 0 := by omega
 have g1c : ¬ m = 0 := by omega
 have hm9 : m ≤ 9223372036854775807 := by omega
 clear h he hr hl hcn hp hlc hm hmm hrs hn ht hc hw hf
 go_enter Tryz.func57, Tryz.ntmps57
 go_wp2_with fail
 refine HRC.out.mono ?_
 rintro e w1 ⟨rfl, hb⟩
 have HB1 := hidm hb
 have c1 := C1.out w1 hb
 clear hb
 go_wp2_with fail
 refine (HFI.out w1 HB1.out).mono ?_
 rintro e w2 ⟨rfl, hb⟩
 have HB2 := hidm (HB1.out.trans (hb.mono HB1.out.size))
 clear hb c1 c3
 go_wp2_with fail
 refine (HAL.out w2 HB2.out).mono ?_
 rintro e w3 ⟨⟨F3, rfl, ⟨g', h3, hg⟩, ht3⟩⟩
 have H3 := hidm h3
 have HT3 := hidm ((To.below HB2.out).trans ht3)
 clear ht3
 rcases hy : (run d (commitS n t ch)).1 with _ | _
 · have HY := hidm hy
   have e1 : code false = 6 := rfl
   rw [e1]
   have HH := hidm h3.halt
   have z4 := h3.z 4
   have c4 := h3.c4
   clear hy hg h3
   go_wp2_with fail
   go_ret
   exact .inr ⟨rfl, HY.out, F3, g', HH.out.1, HT3.out.trans HH.out.2⟩
 · have HY := hidm hy
   have e1 : code true = 0 := rfl
   rw [e1]
   obtain rfl := hg hy
   obtain ⟨F4, h4, ht4⟩ := RP.setW (ch' := []) h3 (Below.refl _ _) (Pages.nil _ _) (Ok.nil _)
   have H4 := hidm h4
   have HT4 := hidm (HT3.out.trans ht4)
   have z3 := h3.z 3
   obtain ⟨ao3, cap3, c3, -⟩ := h3.c3
   clear hy hg h3 h4 ht4
   go_wp2_with fail
   go_ret
   exact .inl ⟨rfl, HY.out, F4, H4.out, HT4.out⟩
end
end Pgr
end Go.Proofs.YtkgbemkcnahkoaaGreatDoor
namespace Go.Proofs.YtkgbemkcnahkoaaGreatDoor
open Go.RowKit
namespace Pgr
open Wal
open Dsk (PD RefIs Only Grow KeepQ upd pad pad_len below_keeps zeros owns_later cell_later)
open Crc (S S_of S_size S_append)
section
variable {R : Nat} {d : PD} {T : Nat → Prop} {w : World}
def OpenA (w : World) (e : Ending) (w' : World) : Prop := ∃ X, e = .returned (.tuple #[.pointer (some ⟨X, 0, none⟩), .int .i64 1]) ∧ Below w.heap.size w w'
def OpenR (R n N t b : Nat) (oc : Option Ch) (d : PD) (T : Nat → Prop) (w : World) (e : Ending) (w' : World) : Prop := ∃ F' X M, e = .returned (.tuple #[.pointer (some ⟨X, 0, none⟩), .int .i64 0]) ∧ RP X M R ⟨n, N, [], false⟩ ⟨n, openT t oc, (match oc with | none => b | some _ => t + 2), 0, [], false⟩ (run d (openS n t b oc)).2 F' w' ∧ To T F' w w'
set_option maxHeartbeats 4000000 in
set_option maxRecDepth 100000 in
theorem rpopen_arg (h : RD R d T w) (lg : Nat) (hd : d.n ≤ 4096) (hbad : d.n < lg + 1 ∨ lg + 1024 < d.n) :
   Calls Tryz.prog 13 #[.pointer (some ⟨R, 0, none⟩), .int .i64 (lg : Int)] w fun e w' => OpenA w e w' := by
 obtain ⟨gb, lc, q0⟩ : ∃ gb lc, w.cell? ⟨R, 0, none⟩ = some (.slice (some ⟨gb, 0, none⟩) d.n lc) := by
   obtain ⟨lf, gb, lc, wo, wc, h2, _⟩ := h.is
   exact ⟨gb, lc, h2.c0⟩
 obtain ⟨dn, hdn⟩ : ∃ x, x = d.n := ⟨_, rfl⟩
 rw [← hdn] at q0 hbad hd
 have q0b := cell_later ((Below.refl w.heap.size w).alloc (Nat.le_refl _) (.cells #[.pointer (some ⟨R, 0, none⟩), .pointer none, .int .i64 (lg : Int), .slice none 0 0, .bool false] 50)) q0
 have HB := hidm ((Below.refl w.heap.size w).alloc (Nat.le_refl _) (.cells #[.pointer (some ⟨R, 0, none⟩), .pointer none, .int .i64 (lg : Int), .slice none 0 0, .bool false] 50))
 obtain ⟨x1, hx1⟩ : ∃ x : Int, x = (dn : Int) - 1 := ⟨_, rfl⟩
 obtain ⟨x2, hx2⟩ : ∃ x : Int, x = (dn : Int) - 1024 := ⟨_, rfl⟩
 have e1 := hx1.symm
 have e2 := hx2.symm
 have w1 : IntKind.i64.wrap x1 = x1 := by simp only [IntKind.wrap_i64]; omega
 have w2 : IntKind.i64.wrap x2 = x2 := by simp only [IntKind.wrap_i64]; omega
 by_cases hb1 : dn < lg + 1
 · have g1 : x1 < (lg : Int) := by omega
   clear h hdn hbad hd q0 hb1 hx1 hx2
   go_enter Tryz.func13, Tryz.ntmps13
   go_wp2_with fail
   go_ret2
   exact ⟨_, rfl, HB.out⟩
 · have g1 : ¬ x1 < (lg : Int) := by omega
   have g2 : (lg : Int) < x2 := by omega
   clear h hdn hbad hd q0 hb1 hx1 hx2
   go_enter Tryz.func13, Tryz.ntmps13
   go_wp2_with fail
   go_ret2
   exact ⟨_, rfl, HB.out⟩
theorem open_steps (n t b : Nat) (ch : Ch) : openS n t b (some ch) = nextS (t + 1) b ++ (wrts (pws (2 + n) ch) ++ (flS ++ nextS (t + 2) (t + 2))) := by
 unfold openS tailS nextS flS wrS slotStep slot
 simp [Nat.zero_add]
 omega
set_option maxHeartbeats 16000000 in
set_option maxRecDepth 100000 in
theorem rpopen_in {n N t b : Nat} {A : List Wal.R} (h : RD R d T w) (hcn : Cn 0 n t b d.f A) (oc : Option Ch) (hA : (oc = none ∧ A = []) ∨ ∃ t0 ch, oc = some ch ∧ A = [(t0, record ch)] ∧ Ok N ch) (hn : 2 ≤ n ∧ n ≤ 998) (hN : 1 ≤ N ∧ N ≤ 1024) (hdn : d.n = 2 + n + N) (hbt : b ≤ t) (ht : t + 3 ≤ 1099511627776) (hfu : d.fu = false) (hc : d.cs.length ≤ 600000) (hw : d.wr ≤ 600000) (hf : d.fl ≤ 600000) (lg : Nat) (hlg : lg = 2 + n) :
   Calls Tryz.prog 13 #[.pointer (some ⟨R, 0, none⟩), .int .i64 (lg : Int)] w fun e w' => OpenR R n N t b oc d T w e w' := by
 obtain ⟨gb, lc, q0⟩ : ∃ gb lc, w.cell? ⟨R, 0, none⟩ = some (.slice (some ⟨gb, 0, none⟩) d.n lc) := by
   obtain ⟨lf, gb, lc, wo, wc, h2, _⟩ := h.is
   exact ⟨gb, lc, h2.c0⟩
 have hba := (Below.refl w.heap.size w).alloc (Nat.le_refl _) (.cells #[.pointer (some ⟨R, 0, none⟩), .pointer none, .int .i64 (lg : Int), .slice none 0 0, .bool false] 50)
 have q0b := cell_later hba q0
 have HRD := hidm (h.later hba)
 have hTl : ∀ k, T k → k < w.heap.size := h.is.lt
 have HTL := hidm hTl
 have hX0 : (w.alloc (.cells #[.pointer (some ⟨R, 0, none⟩), .pointer none, .int .i64 (lg : Int), .slice none 0 0, .bool false] 50)).heap[w.heap.size]? = some (.cells #[.pointer (some ⟨R, 0, none⟩), .pointer none, .int .i64 (lg : Int), .slice none 0 0, .bool false] 50 (0, 0)) := heap_alloc_last w _
 have HX0 := hidm hX0
 have HO0 := hidm ((Only.refl T w).alloc (.cells #[.pointer (some ⟨R, 0, none⟩), .pointer none, .int .i64 (lg : Int), .slice none 0 0, .bool false] 50))
 have HXS := hidm (show w.heap.size < (w.alloc (.cells #[.pointer (some ⟨R, 0, none⟩), .pointer none, .int .i64 (lg : Int), .slice none 0 0, .bool false] 50)).heap.size from by simp)
 obtain ⟨dn, hdn2⟩ : ∃ x, x = d.n := ⟨_, rfl⟩
 rw [← hdn2] at q0b hdn
 have HDN := hidm (show dn = d.n ∧ dn = 2 + n + N ∧ lg = 2 + n ∧ 2 ≤ n ∧ n ≤ 998 ∧ 1 ≤ N ∧ N ≤ 1024 from ⟨hdn2, hdn, hlg, hn.1, hn.2, hN.1, hN.2⟩)
 have HBD := hidm (show d.cs.length ≤ 600000 ∧ d.wr ≤ 600000 ∧ d.fl ≤ 600000 ∧ t + 3 ≤ 1099511627776 ∧ b ≤ t from ⟨hc, hw, hf, ht, hbt⟩)
 have HFU := hidm hfu
 have HCN := hidm hcn
 have HAA := hidm hA
 obtain ⟨x1, hx1⟩ : ∃ x : Int, x = (dn : Int) - 1 := ⟨_, rfl⟩
 obtain ⟨x2, hx2⟩ : ∃ x : Int, x = (dn : Int) - 1024 := ⟨_, rfl⟩
 have e1 := hx1.symm
 have e2 := hx2.symm
 have w1 : IntKind.i64.wrap x1 = x1 := by simp only [IntKind.wrap_i64]; omega
 have w2 : IntKind.i64.wrap x2 = x2 := by simp only [IntKind.wrap_i64]; omega
 have g1 : ¬ x1 < (lg : Int) := by omega
 have g2 : ¬ (lg : Int) < x2 := by omega
 clear h hA hn hN hdn hbt ht hfu hc hw hf hlg hdn2 hx1 hx2 q0 hba hTl hX0
 go_enter Tryz.func13, Tryz.ntmps13
 go_upto_region 4 with fail
 obtain ⟨w0, hw0⟩ : ∃ x, x = w.alloc (.cells #[.pointer (some ⟨R, 0, none⟩), .pointer none, .int .i64 (lg : Int), .slice none 0 0, .bool false] 50) := ⟨_, rfl⟩
 rw [← hw0] at HRD HX0 HO0 HXS q0b ⊢
 obtain ⟨X, hX⟩ : ∃ X, X = w.heap.size := ⟨_, rfl⟩
 rw [← hX] at HX0 HXS ⊢
 have HXE := hidm hX
 clear hw0 hX q0b g1 g2 w1 w2 e1 e2
 have HLO := hidm (rlopen_any HRD.out HCN.out (HAA.out.elim (fun e => .inl e.2) (fun ⟨t0, ch, _, e, _⟩ => .inr ⟨t0, _, e⟩)) (by have := HDN.out; omega) (by have := HDN.out; omega) (by have := HDN.out; omega) HBD.out.2.2.2.2 (by have := HBD.out; omega) HFU.out (by have := HBD.out; omega) (by have := HBD.out; omega) (by have := HBD.out; omega) lg HDN.out.2.2.1)
 obtain ⟨d1, hd1⟩ : ∃ x, x = (run d (nextS (t + 1) b)).2 := ⟨_, rfl⟩
 rw [← hd1] at HLO
 have HD1 := hidm (show run d (nextS (t + 1) b) = (true, d1) ∧ d1.fu = false from by
   have h1 := run_open (nextS (t + 1) b) d HFU.out
   rw [h1] at hd1
   exact ⟨by rw [h1, hd1], by rw [hd1, exec_fu]; exact HFU.out⟩)
 have hfew1 := run_few (nextS (t + 1) b) d
 rw [← hd1] at hfew1
 have HW1 := hidm hfew1
 clear hd1 hfew1
 go_wp2_with fail
 refine HLO.out.mono ?_
 rintro e w2 ⟨⟨F2, M, rfl, h2, ht2⟩⟩
 have HNX := hidm (show ¬ F2 X from fun e => by
   have h1 := HXE.out
   have h2 := HXS.out
   rcases ht2.2.2 X e with e3 | e3
   · have := HTL.out X e3; omega
   · omega)
 have HX2 := hidm ((ht2.keeps HXS.out (fun e => by have := HTL.out X e; have := HXE.out; omega)).trans HX0.out)
 have H2 := hidm h2
 have HO2 := hidm (show Only T w w2 from HO0.out.trans ht2.1 (fun _ e => .inl e))
 have HT2 := hidm ht2
 clear h2 ht2 HLO HX0
 have z1 : w2.frozen? ⟨X, 1, none⟩ = false := frozen_of_row w2 X 1 _ _ HX2.out
 have c1 : w2.cell? ⟨X, 1, none⟩ = some (.pointer none) := by rw [cell_of_row w2 X 1 _ _ (0, 0) HX2.out]; rfl
 go_upto_region 6 with fail
 obtain ⟨w3, hw3⟩ : ∃ x, x = w2.setCell ⟨X, 1, none⟩ (.pointer (some ⟨M, 0, none⟩)) := ⟨_, rfl⟩
 have hne3 : ∀ k, k ≠ X → w3.heap[k]? = w2.heap[k]? := fun k hk => by rw [hw3]; exact heap_setCell_other w2 _ k _ hk
 have hsz3 : w3.heap.size = w2.heap.size := by rw [hw3]; simp
 have hrow3 : w3.heap[X]? = some (.cells (rpcells R M ⟨n, N, [], false⟩ (.slice none 0 0)) 50 (0, 0)) := by
   rw [hw3, heap_setCell_same w2 X 1 _ _ _ HX2.out]
   have := HDN.out.2.2.1
   unfold rpcells
   dsimp only
   rw [← this]
   rfl
 have H3 := hidm (H2.out.keep (fun k hk => hne3 k (fun e => HNX.out (e ▸ hk))) (by omega))
 have HXL3 := hidm (show X < w3.heap.size from lt_of_block hrow3)
 have HBS := hidm (show Beside X M R ⟨n, N, [], false⟩ (fun k => F2 k ∨ k = X) (.slice none 0 0) w3 F2 from
   ⟨hrow3, Pages.nil _ _, fun k hk => ⟨.inl hk, fun e => HNX.out (e ▸ hk), fun e => by cases e⟩, fun b e => (by cases e), .inr rfl, fun k hk => hk.elim (fun e => by have := H2.out.lt k e; omega) (fun e => by rw [e]; exact HXL3.out)⟩)
 have HT3 := hidm (show To T (fun k => F2 k ∨ k = X) w w3 from by
   refine ⟨?_, fun k hk => .inl (HT2.out.2.1 k hk), fun k hk => ?_⟩
   · rw [hw3]; exact HO2.out.set (p := ⟨X, 1, none⟩) (.inr (by rw [HXE.out]; exact Nat.le_refl _)) _
   · rw [hsz3]
     have h1 := HXS.out
     have h2 := HT2.out.1.size
     rcases hk with e | e
     · rcases HT2.out.2.2 k e with e2 | e2
       · exact .inl e2
       · exact .inr (by have := HXE.out; omega)
     · exact .inr (by have := HXE.out; omega))
 rw [← hw3]
 clear hw3 hne3 hsz3 hrow3 z1 c1 HX2 H2 HO2 HT2
 rcases HAA.out with ⟨rfl, rfl⟩ | ⟨t0, ch, rfl, rfl, hok⟩
 · have HRP := hidm (show RP X M R ⟨n, N, [], false⟩ ⟨n, t + 1, b, 0, [], false⟩ d1 (fun k => F2 k ∨ k = X) w3 from HBS.out.rp H3.out (Ok.nil _) ⟨HDN.out.2.2.2.2.2.1, HDN.out.2.2.2.2.2.2, HDN.out.2.2.2.2.1, rfl⟩ (by rw [HW1.out.1]; have := HDN.out; show 2 + n + N = d.n; omega))
   obtain ⟨Tl, sl, q1, q2, q3, -⟩ := H3.out.ex
   obtain ⟨lo, lc2, hsl⟩ : ∃ lo lc2, sl = .slice lo 0 lc2 := by
     rcases q3.2 with ⟨hv, _⟩ | ⟨g', c', cur, hv, _⟩
     · exact ⟨_, _, hv⟩
     · exact ⟨_, _, hv⟩
   subst hsl
   have c6 : w3.cell? ⟨M, 6, none⟩ = some (.slice lo 0 lc2) := by rw [cell_of_row w3 M 6 _ _ (0, 0) q2]; rfl
   have HE := hidm (show (run d (openS n t b none)).2 = d1 from by
     have : openS n t b none = nextS (t + 1) b := by unfold openS nextS flS wrS slotStep slot; simp [Nat.zero_add]
     rw [this, HD1.out.1])
   clear q1 q2 q3
   go_wp2_with fail
   go_ret2
   exact ⟨_, X, M, rfl, by rw [HE.out]; exact HRP.out, HT3.out⟩
 · have HOK := hidm hok
   have HLN : Hid (RL M R ⟨n, t + 1, b, np (record ch) + 0, [record ch], false⟩ d1 F2 w3) := hidm H3.out
   obtain ⟨Tl, sl, q1, q2, q3, q4, q5⟩ := H3.out.ex
   have Q3 : Hid (w3.ownsRow 0 9 1 sl 1 [.string (S (record ch))]) := hidm q3
   have HRL := hidm (record_len hok HDN.out.2.2.2.2.2.2)
   obtain ⟨rb, rcap, hsl, -, hrbl⟩ := Q3.out.form (by decide)
   subst hsl
   have c6 : w3.cell? ⟨M, 6, none⟩ = some (.slice (some ⟨rb, 0, none⟩) 1 rcap) := by rw [cell_of_row w3 M 6 _ _ (0, 0) q2]; rfl
   have hrc : w3.cell? ⟨rb, 0, none⟩ = some (.string (S (record ch))) := by
     rcases Q3.out.2 with ⟨hv, _⟩ | ⟨g', c', cur, hv, _, hh, hmc, hcm, hsz, htk⟩
     · cases hv
     · simp only [Value.slice.injEq, Option.some.injEq, Addr.mk.injEq] at hv
       obtain ⟨⟨rfl, -⟩, -, -⟩ := hv
       rw [cell_of_row _ _ _ _ _ (0, 0) hh]
       have h1 : cur.toList[0]? = some (.string (S (record ch))) := by
         have h2 := congrArg (fun l : List Value => l[0]?) htk
         rw [List.getElem?_take_of_lt (by decide)] at h2
         exact h2
       simpa using h1
   have C6 := hidm c6
   have HRC := hidm hrc
   have HLEN := hidm (show ∀ u, Below w3.heap.size w3 u → Calls Tryz.prog 28 #[.pointer (some ⟨X, 0, none⟩)] u fun e w' => e = .returned (.int .i64 (N : Int)) ∧ Below u.heap.size u w' from fun u hb => by
     have h1 : RP X M R ⟨n, N, [], false⟩ ⟨n, t + 1, b, np (record ch) + 0, [record ch], false⟩ d1 (fun k => F2 k ∨ k = X) w3 := HBS.out.rp HLN.out (Ok.nil _) ⟨HDN.out.2.2.2.2.2.1, HDN.out.2.2.2.2.2.2, HDN.out.2.2.2.2.1, rfl⟩ (by rw [HW1.out.1]; have := HDN.out; show 2 + n + N = d.n; omega)
     exact rplen_any (h1.later hb))
   have HPA := hidm (rpparse_any HLEN.out HDN.out.2.2.2.2.2.2 HOK.out)
   obtain ⟨rs, hrs⟩ : ∃ x, x = S (record ch) := ⟨_, rfl⟩
   rw [← hrs] at hrc HPA
   clear q1 q2 q3 q4 q5 hok hrs H3 HAA HCN
   go_wp2_with fail
   go_loopw [8, 9] (fun ee ii wr => (∃ i : Nat, ii = .int .i64 (i : Int) ∧ ((i = 0 ∧ Hid (w3 = wr)) ∨ (i = 1 ∧ Hid (∃ F4, RL M R ⟨n, t + 1, b, np (record ch) + 0, [record ch], false⟩ (run d1 (wrts (pws (2 + n) ch))).2 F4 wr ∧ To F2 F4 w3 wr))))) (fun _ ii _ => (1 - (intOf ii).toNat))
   case atStart => exact ⟨0, rfl, .inl ⟨rfl, hidm rfl⟩⟩
   case round =>
     rename World => wr
     obtain ⟨i, rfl, ⟨rfl, HW⟩ | ⟨rfl, HI⟩⟩ := hrel
     · have hw := HW.out
       subst hw
       clear HW
       go_wp2_with fail
       refine HPA.out.mono ?_
       rintro e w4 ⟨sl4, rfl, hp4, hb4⟩
       have HP4 := hidm hp4
       have HL4 := hidm (HLN.out.later hb4)
       have HB4 := hidm hb4
       have HHM := hidm (rhome_any (v := ⟨n, N, [], false⟩) (X := X) (slx := .slice none 0 0) (HLN.out.later hb4) (fun e => (HBS.out.off X e).2.1 rfl) (below_keeps hb4 HBS.out.row) hp4 (fun bk e e2 => by
         have h1 := (hp4.lt bk e).1
         have h2 := HLN.out.lt bk e2
         omega) HOK.out ⟨HDN.out.2.2.2.2.2.2, HDN.out.2.2.2.2.1⟩ (by rw [HW1.out.1]; have := HDN.out; show 2 + n + N = d.n; omega) (by have h1 := HW1.out; have h2 := HBD.out; have h3 : (nextS (t + 1) b).length = 2 := rfl; omega) (by have h1 := HW1.out; have h2 := HBD.out; have h3 : (nextS (t + 1) b).length = 2 := rfl; omega))
       have hv2 : (2 + (⟨n, N, [], false⟩ : DV).n) = 2 + n := rfl
       rw [hv2] at HHM
       have htr : (run d1 (wrts (pws (2 + n) ch))).1 = true := by rw [run_open _ d1 HD1.out.2]
       rw [htr] at HHM
       clear hp4 hb4 hv2 htr
       obtain ⟨ao4, cap4, e4, -, -⟩ := HP4.out.form
       subst e4
       go_wp2_with fail
       refine HHM.out.mono ?_
       rintro e w5 ⟨⟨F5, rfl, h5, ht5⟩⟩
       have HI5 := hidm (show ∃ F4, RL M R ⟨n, t + 1, b, np (record ch) + 0, [record ch], false⟩ (run d1 (wrts (pws (2 + n) ch))).2 F4 w5 ∧ To F2 F4 w3 w5 from ⟨F5, h5, (To.below HB4.out).trans ht5⟩)
       clear h5 ht5 HHM
       go_wp2_with fail
       go_roundw
       case rel => exact ⟨1, rfl, .inr ⟨rfl, HI5⟩⟩
       case measure => simp [intOf]
     · obtain ⟨F4, h4, ht4⟩ := HI.out
       have H4 := hidm h4
       obtain ⟨hb4, hto4⟩ := HBS.out.step ht4 h4.lt
       have HB4 := hidm hb4
       have HT4 := hidm (HT3.out.trans hto4)
       obtain ⟨d2, hd2⟩ : ∃ x, x = (run d1 (wrts (pws (2 + n) ch))).2 := ⟨_, rfl⟩
       rw [← hd2] at H4
       have HD2 := hidm (show run d1 (wrts (pws (2 + n) ch)) = (true, d2) ∧ d2.fu = false from by
         have h1 := run_open (wrts (pws (2 + n) ch)) d1 HD1.out.2
         rw [h1] at hd2
         exact ⟨by rw [h1, hd2], by rw [hd2, exec_fu]; exact HD1.out.2⟩)
       have hfew2 := run_few (wrts (pws (2 + n) ch)) d1
       rw [← hd2, pws_len] at hfew2
       have HW2 := hidm hfew2
       have HCT := hidm (show ch.length ≤ 1024 from by have := HOK.out.count; have := HDN.out; omega)
       obtain ⟨Tl, sl, q1, q2, q3, q4, q5⟩ := h4.ex
       have Q3 : Hid (wr.ownsRow 0 9 1 sl 1 [.string (S (record ch))]) := hidm q3
       obtain ⟨rb2, rcap2, hsl, -, -⟩ := Q3.out.form (by decide)
       subst hsl
       have c6 : wr.cell? ⟨M, 6, none⟩ = some (.slice (some ⟨rb2, 0, none⟩) 1 rcap2) := by rw [cell_of_row wr M 6 _ _ (0, 0) q2]; rfl
       have HFL := hidm (rl_flush H4.out (by have h1 := HW1.out; have h2 := HBD.out; have h3 := HW2.out; have h4 := HCT.out; have h5 : (nextS (t + 1) b).length = 2 := rfl; omega))
       rw [run_open flS d2 HD2.out.2] at HFL
       clear hd2 hfew2 q1 q2 q3 q4 q5 h4 ht4 hb4 hto4 Q3 HI hrc
       go_wp2_with fail
       refine HFL.out.mono ?_
       rintro e w5 ⟨F5, rfl, h5, ht5⟩
       have H5 := hidm h5
       obtain ⟨hb5, hto5⟩ := HB4.out.step ht5 h5.lt
       have HB5 := hidm hb5
       have HT5 := hidm (HT4.out.trans hto5)
       obtain ⟨d3, hd3⟩ : ∃ x, x = exec d2 flS := ⟨_, rfl⟩
       rw [← hd3] at H5
       have HD3 := hidm (show run d2 flS = (true, d3) ∧ d3.fu = false from ⟨by rw [run_open flS d2 HD2.out.2, hd3], by rw [hd3, exec_fu]; exact HD2.out.2⟩)
       have hfew3 := run_few flS d2
       rw [HD3.out.1] at hfew3
       have HW3 := hidm hfew3
       have hbd3 : d3.cs.length ≤ 900000 ∧ d3.wr ≤ 900000 ∧ d3.fl ≤ 900000 ∧ d3.n = d.n := by
         have h1 := HW1.out; have h2 := HBD.out; have h3 := HW2.out; have h4 := HCT.out; have h5 : (nextS (t + 1) b).length = 2 := rfl
         have h6 := HW3.out
         have h7 : flS.length = 1 := rfl
         dsimp only at h6
         omega
       have HBD3 := hidm hbd3
       have HRS := hidm (rlreset_any H5.out rfl (by show t + 1 < _; have := HBD.out; omega) hbd3.1 hbd3.2.1 hbd3.2.2.1)
       have hgt : (⟨n, t + 1, b, np (record ch) + 0, [record ch], false⟩ : DL).turn = t + 1 := rfl
       rw [hgt, run_open (nextS (t + 1 + 1) (t + 1 + 1)) d3 HD3.out.2] at HRS
       clear h5 ht5 hb5 hto5 hd3 hfew3 hbd3 hgt HFL c6
       go_wp2_with fail
       refine HRS.out.mono ?_
       rintro e w6 ⟨⟨F6, rfl, h6, ht6⟩⟩
       have H6 := hidm h6
       obtain ⟨hb6, hto6⟩ := HB5.out.step ht6 h6.lt
       have HB6 := hidm hb6
       have HT6 := hidm (HT5.out.trans hto6)
       have HEND := hidm (show run d (openS n t b (some ch)) = (true, exec d3 (nextS (t + 2) (t + 2))) from by
         rw [open_steps, run_two (by rw [HD1.out.1]), HD1.out.1, run_two (by rw [HD2.out.1]), HD2.out.1, run_two (by rw [HD3.out.1]), HD3.out.1, run_open _ d3 HD3.out.2])
       clear h6 ht6 hb6 hto6
       go_wp2_with fail
       go_ret2
       refine ⟨_, X, M, rfl, ?_, HT6.out⟩
       rw [HEND.out]
       refine HB6.out.rp ?_ (Ok.nil _) ⟨HDN.out.2.2.2.2.2.1, HDN.out.2.2.2.2.2.2, HDN.out.2.2.2.2.1, rfl⟩ ?_
       · exact H6.out
       · have h1 : (exec d3 (nextS (t + 2) (t + 2))).n = d3.n := by
           have h9 := (run_few (nextS (t + 2) (t + 2)) d3).1
           rw [run_open _ d3 HD3.out.2] at h9
           exact h9
         have h2 := HBD3.out.2.2.2
         have h3 := HDN.out
         show 2 + n + N = (exec d3 (nextS (t + 2) (t + 2))).n
         omega
end
end Pgr
end Go.Proofs.YtkgbemkcnahkoaaGreatDoor
