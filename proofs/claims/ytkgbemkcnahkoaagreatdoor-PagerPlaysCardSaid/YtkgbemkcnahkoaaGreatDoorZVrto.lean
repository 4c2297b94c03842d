import Derived.Test.YtkgbemkcnahkoaaGreatDoorZVoto
import Derived.Deep.CutBlock
namespace Go.Proofs.YtkgbemkcnahkoaaGreatDoor
open Go.RowKit
namespace Pgr
open Wal
open Dsk (PD RefIs Only Grow KeepQ upd pad pad_len below_keeps zeros)
open Crc (S S_of S_size four more)
section
variable {M R : Nat} {g : DL} {d : PD} {F Td : Nat → Prop} {w w' : World} {sl : Value}
theorem RL.grew {b n cap H : Nat} {rs : List (List UInt8)} (h1 : RD R d Td w) (h2 : w.heap[M]? = some (.cells (dlcells R g sl) 92 (0, 0))) (h3 : w.ownsRow 0 9 1 sl g.recs.length (strs g.recs)) (h4 : ∀ k, Td k → F k ∧ k ≠ M ∧ sl.ownBlock ≠ some k) (h5 : ∀ b, sl.ownBlock = some b → F b)
   (hM : F M) (hl : ∀ k, F k → k < w.heap.size) (hok : g.ok) (hfit : 2 + g.n ≤ d.n) (hgr : w.grownBy w' sl.ownBlock) (hn : n = rs.length) (hrs : rs.length ≤ 1001) (hown : w'.ownsRow 0 9 1 (.slice (some ⟨b, 0, none⟩) n cap) n (strs rs)) (hb : sl.ownBlock = some b ∨ b = H) (hH : H = w.heap.size) (hlt : b < w'.heap.size) :
   ∃ F', RL M R { g with recs := rs } d F' (w'.setCell ⟨M, 6, none⟩ (.slice (some ⟨b, 0, none⟩) n cap)) ∧ To F F' w (w'.setCell ⟨M, 6, none⟩ (.slice (some ⟨b, 0, none⟩) n cap)) := by
 have hMs : sl.ownBlock ≠ some M := fun e => row_ne h2 h3 M e rfl
 have h2' : w'.heap[M]? = some (.cells (dlcells R g sl) 92 (0, 0)) := (hgr.block M (hl M hM) (fun e => hMs e.symm)).trans h2
 have hbM : b ≠ M := row_ne h2' hown b rfl
 have hne : ∀ k, k ≠ M → (w'.setCell ⟨M, 6, none⟩ (.slice (some ⟨b, 0, none⟩) n cap)).heap[k]? = w'.heap[k]? := fun k hk => heap_setCell_other w' _ k _ hk
 obtain ⟨o1, o2, o3, o4, o5⟩ := hok
 have hsz := hgr.size
 have htd : ∀ k, Td k → k ≠ b := fun k hk e => by
   rcases hb with e2 | e2
   · exact (h4 k hk).2.2 (by rw [e]; exact e2)
   · have := hl k (h4 k hk).1; omega
 refine ⟨fun k => F k ∨ k = b, ⟨⟨Td, .slice (some ⟨b, 0, none⟩) n cap, h1.keep (fun k hk => ?_) (by simpa using hsz), by rw [heap_setCell_same w' M 6 _ _ _ h2']; rfl, ?_, fun k hk => ⟨.inl (h4 k hk).1, (h4 k hk).2.1, fun e => ?_⟩, fun k e => .inr (by simpa [Value.ownBlock] using e.symm)⟩, .inl hM, fun k hk => ?_, ⟨o1, o2, o3, o4, hrs⟩, hfit⟩, ?_, fun k hk => .inl hk, fun k hk => ?_⟩
 · rw [hne k (h4 k hk).2.1]
   exact hgr.block k (hl k (h4 k hk).1) (fun e => (h4 k hk).2.2 e.symm)
 · show World.ownsRow _ 0 _ 1 _ rs.length (strs rs)
   rw [← hn]
   exact Dsk.ownsRow_of hown (fun k e => hne k (by
     have : b = k := by simpa [Value.ownBlock] using e
     rw [← this]; exact hbM))
 · have : b = k := by simpa [Value.ownBlock] using e
   exact htd k hk this.symm
 · rw [World.size_setCell]
   rcases hk with e | e
   · exact Nat.lt_of_lt_of_le (hl k e) hsz
   · rw [e]; exact hlt
 · exact ((Only.refl F w).grown hgr (fun k e => .inl (h5 k e))).set (p := ⟨M, 6, none⟩) (.inl hM) _
 · rw [World.size_setCell]
   rcases hk with e | e
   · exact .inl e
   · rcases hb with e2 | e2
     · exact .inl (by rw [e]; exact h5 b e2)
     · exact .inr ⟨by omega, by rw [e]; exact hlt⟩
theorem RL.c5z (h : RL M R g d F w) (hu : g.used = 0) : w.cell? ⟨M, 5, none⟩ = some (.int .i64 0) := by
 have := h.c5
 rw [hu] at this
 exact this
def appendL (g : DL) (s : List UInt8) (y : Bool) : DL := if y then { g with used := np s, recs := [s] } else { g with halted := true }
def aS (t : Nat) (s : List UInt8) (j : Nat) : List Step := wrts (plws 0 t 0 s j)
theorem aS_succ (t : Nat) (s : List UInt8) (j : Nat) : aS t s (j + 1) = aS t s j ++ wrS (2 + j) (sealB ((prt t s j).body j)) := by
 unfold aS wrts plws wrS
 rw [List.range_succ]
 simp [Nat.zero_add]
theorem aS_len (t : Nat) (s : List UInt8) (j : Nat) : (aS t s j).length = j := by simp [aS, wrts, plws]
theorem body_is (t : Nat) (s : List UInt8) (j m : Nat) (hm : m = if j + 1 < np s then 1 else 0) : headB t j m ++ four (more 0 s) ++ partL s j = (prt t s j).body j := by
 subst hm
 unfold headB Pl.body prt partL
 by_cases h : j + 1 < np s <;> simp [h]
theorem aS_stop (t : Nat) (s : List UInt8) (d : PD) (j : Nat) (h : (run d (aS t s j)).1 = false) : ∀ n, j ≤ n → run d (aS t s n) = run d (aS t s j) := by
 intro n hn
 induction n with
 | zero => rw [show j = 0 by omega]
 | succ n ih =>
   rcases Nat.lt_or_ge n j with e | e
   · rw [show j = n + 1 by omega]
   · rw [aS_succ, run_one (by rw [ih e]; exact h)]
     exact ih e
theorem aS_go (t : Nat) (s : List UInt8) (d : PD) (j : Nat) (h : (run d (aS t s j)).1 = true) : run d (aS t s (j + 1)) = run (run d (aS t s j)).2 (wrS (2 + j) (sealB ((prt t s j).body j))) := by
 rw [aS_succ, run_two h]
structure AppI (M R : Nat) (g : DL) (d : PD) (F : Nat → Prop) (s : List UInt8) (w3 : World) (j : Nat) (wx : World) : Prop where
 ok : (run d (aS g.turn s j)).1 = true
 ex : ∃ F', RL M R g (run d (aS g.turn s j)).2 F' wx ∧ To F F' w3 wx
set_option maxHeartbeats 8000000 in
set_option maxRecDepth 100000 in
theorem rappend_any (h : RL M R g d F w) (hh : g.halted = false) (hu : g.used = 0) (hr : g.recs = []) (s : ByteArray) (hs : np s.data.toList ≤ g.n) (ht : g.turn < 1099511627776) (hc : d.cs.length ≤ 900000) (hw : d.wr ≤ 900000) :
   Calls Tryz.prog 141 #[.pointer (some ⟨M, 0, none⟩), .string s] w fun e w' => Got fun F' => e = .returned (.int .i64 (code (run d (aS g.turn s.data.toList (np s.data.toList))).1)) ∧ RL M R (appendL g s.data.toList (run d (aS g.turn s.data.toList (np s.data.toList))).1) (run d (aS g.turn s.data.toList (np s.data.toList))).2 F' w' ∧ To F F' w w' := by
 obtain ⟨o1, o2, o3, o4, o5⟩ := h.ok
 obtain ⟨l, hl⟩ : ∃ l, l = s.data.toList := ⟨_, rfl⟩
 have hls : l.length = s.size := by rw [hl, Dsk.len_eq]
 rw [← hl] at hs ⊢
 obtain ⟨np0, hnp⟩ : ∃ n, n = np l := ⟨_, rfl⟩
 have hsz : s.size ≤ 100 * np0 := by rw [hnp, ← hls]; exact np_len l
 rw [← hnp] at hs ⊢
 have hn9 : np0 ≤ 1000 := by omega
 have hs9 : s.size ≤ 100000 := by omega
 have HFT := hidm (rfits_any h s.size hs9)
 have hdec : decide (g.used + npn s.size ≤ g.n) = true := by
   rw [hu, ← hls, npn_is, ← hnp]; exact decide_eq_true (by omega)
 rw [hdec] at HFT
 have hfit := h.fit
 have HFIT := hidm hfit
 have HLT := hidm h.lt
 have c7 := h.c7
 rw [hh] at c7
 have HG := hidm h
 have HH := hidm hh
 have HU := hidm hu
 have HRC := hidm hr
 have HL := hidm hl
 have HNP := hidm hnp
 have HCW := hidm (show d.cs.length ≤ 900000 ∧ d.wr ≤ 900000 from ⟨hc, hw⟩)
 have HN := hidm (show np0 ≤ g.n ∧ g.n ≤ 1000 ∧ g.turn < 1099511627776 from ⟨hs, o1, ht⟩)
 clear h hh hr hu hl hnp hdec hfit hc hw hs ht o1 o2 o3 o4 o5 hls
 go_enter Tryz.func141, Tryz.ntmps141
 go_wp2_with fail
 refine HFT.out.mono ?_
 rintro e w1 ⟨rfl, hb1⟩
 have H1 := hidm (HG.out.later hb1)
 have HB1 := hidm hb1
 clear hb1 HFT c7
 go_wp2_with fail
 refine (rparts_any s hs9 _).mono ?_
 rintro e w3 ⟨x, rfl, hst, hb3⟩
 rw [← HL.out, ← HNP.out] at hst
 obtain ⟨po, pc, hx, hpl, hpm⟩ := hst.form
 rw [partsL_len] at hx hpl
 subst hx
 have HST := hidm hst
 have H3 := hidm (H1.out.later hb3)
 have HB3 := hidm (HB1.out.trans (hb3.mono HB1.out.size))
 have HBS := hidm HB1.out.size
 clear hst hb3 H1 HB1 HG
 have hnp1 : 1 ≤ np0 := by rw [HNP.out]; exact np_pos l
 obtain ⟨pb, hpb, hpl3, hpcell⟩ : ∃ pb, po = some ⟨pb, 0, none⟩ ∧ (¬ F pb ∧ pb < w3.heap.size) ∧ ∀ j, j < np0 → w3.cell? ⟨pb, j, none⟩ = some (.string (S (partL l j))) := by
   obtain ⟨g0, c0, e0, b0, l0, _⟩ := HST.out.at 0 (by rw [partsL_len]; omega)
   rw [partsL_len] at e0
   simp only [Value.slice.injEq] at e0
   obtain ⟨e0, -, -⟩ := e0
   refine ⟨g0, e0, ⟨fun e => ?_, l0⟩, fun j hj => ?_⟩
   · have := HLT.out g0 e
     have := HBS.out
     omega
   · obtain ⟨g1, c1, e1, b1, l1, cell1⟩ := HST.out.at j (by rw [partsL_len]; exact hj)
     simp only [Value.slice.injEq] at e1
     have : g1 = g0 := by
       have e2 := e1.1.symm.trans e0
       simpa using e2
     rw [this] at cell1
     rw [cell1]
     simp [partsL]
 subst hpb
 have HPB := hidm hpl3
 have HPC := hidm hpcell
 clear hpl3 hpcell HST
 go_wp2_with fail
 go_loopw [6] (fun ii wx => ∃ j : Nat, ii = .int .i64 (j : Int) ∧ j ≤ np0 ∧ Hid (AppI M R g d F l w3 j wx)) (fun ii _ => (np0 - (intOf ii).toNat))
 case atStart => exact ⟨0, rfl, by omega, hidm ⟨rfl, F, H3.out, .refl⟩⟩
 case round =>
   clear H3
   rename World => wx
   obtain ⟨j, rfl, hj, HI⟩ := hrel
   rcases Nat.lt_or_ge j np0 with hlt | hge
   · have g1 : (j : Int) < (np0 : Int) := by omega
     have g2 : ¬ (j : Int) < 0 := by omega
     have i1 : (j : Int) + 1 = ((j + 1 : Nat) : Int) := by omega
     obtain ⟨j9, hj9⟩ : ∃ a, a = j + 1 := ⟨_, rfl⟩
     rw [← hj9] at i1
     have i1w : IntKind.i64.wrap (j9 : Int) = (j9 : Int) := by simp only [IntKind.wrap_i64]; omega
     have HJ9 := hidm (show j9 = j + 1 ∧ j9 ≤ np0 from ⟨hj9, by omega⟩)
     obtain ⟨mo, hmo⟩ : ∃ m, m = if j + 1 < np0 then 1 else 0 := ⟨_, rfl⟩
     have HMO := hidm hmo
     have HJ := hidm hlt
     clear hmo hj9 hj
     go_upto_if 30 with fail
     go_cut [7] (fun s7 wy => s7 = .int .u64 (mo : Int) ∧ wy = wx)
     case first =>
       by_cases hm : j9 < np0
       · have m1 : (j9 : Int) < (np0 : Int) := by omega
         have hmo2 : mo = 1 := by rw [HMO.out, if_pos (by have := HJ9.out; omega)]
         go_wp2_with fail
         go_meet
         exact ⟨by rw [hmo2]; rfl, by trivial⟩
       · have m1 : ¬ (j9 : Int) < (np0 : Int) := by omega
         have hmo2 : mo = 0 := by rw [HMO.out, if_neg (by have := HJ9.out; omega)]
         go_wp2_with fail
         go_meet
         exact ⟨by rw [hmo2]; rfl, by trivial⟩
     case rest =>
     obtain ⟨rfl, hwc⟩ := hcut
     have hwc2 := hwc.symm
     subst hwc2
     obtain ⟨F0, hrl, hto⟩ := HI.out.ex
     have HOK := hidm HI.out.ok
     have HDR := hidm ((Below.refl wx.heap.size wx).drew)
     have HD := hidm (hrl.later HDR.out)
     have HTD := hidm (hto.trans (.below HDR.out))
     clear hrl hto
     have HPK := hidm (fun (u : World) (F' : Nat → Prop) (ht : To F F' w3 u) => (show u.cell? ⟨pb, j, none⟩ = some (.string (S (partL l j))) from by
       rw [World.cell?_of_block (w := w3) (a := ⟨pb, j, none⟩) (ht.keeps HPB.out.2 HPB.out.1)]
       exact HPC.out j HJ.out))
     have HPD := hidm (HPK.out wx.drew F0 HTD.out)
     obtain ⟨dj, hdj⟩ : ∃ x, x = (run d (aS g.turn l j)).2 := ⟨_, rfl⟩
     rw [← hdj] at HD
     have HDJ := hidm hdj
     have hfew := run_few (aS g.turn l j) d
     rw [← hdj, aS_len] at hfew
     have hcw := HCW.out
     have hn3 := HN.out
     have HC2 := hidm (show dj.cs.length < 1000000 from by omega)
     have HW2 := hidm (show dj.wr < 1000000 from by omega)
     obtain ⟨kk, hkk⟩ : ∃ k, k = 2 + j := ⟨_, rfl⟩
     have HK2 := hidm (show kk < dj.n from by have := HFIT.out; omega)
     have k1 : 2 + (j : Int) = (kk : Int) := by omega
     have k1w : IntKind.i64.wrap (kk : Int) = (kk : Int) := by simp only [IntKind.wrap_i64]; omega
     have u0 : g.used = 0 := HU.out
     have w2' : IntKind.i64.wrap 2 = 2 := by decide
     have jw : IntKind.i64.wrap (j : Int) = (j : Int) := by simp only [IntKind.wrap_i64]; omega
     have HM1 := hidm (show mo ≤ 1 from by rw [HMO.out]; split <;> omega)
     have U1 := hidm (fun w => rsum_any s (by omega) w)
     rw [← HL.out] at U1
     have hfl : (S (four (more 0 l))).size = 4 := by rw [S_size]; exact Crc.four_len _
     have hpl0 : (partL l j).length ≤ 100 := by unfold partL; rw [List.length_take]; omega
     have U2 := hidm (fun w => rplace_any g.turn j mo (S (four (more 0 l))) (S (partL l j)) (by omega) (by omega) (by have := HM1.out; omega) (by omega) (by rw [S_size]; omega) w)
     have hbody := body_is g.turn l j mo (by rw [HMO.out, HNP.out])
     have hb2 : headB g.turn j mo ++ (S (four (more 0 l))).data.toList ++ (S (partL l j)).data.toList = (prt g.turn l j).body j := hbody
     rw [hb2] at U2
     have hbl := body_len (p := prt g.turn l j) (i := j) (by show g.turn ≤ _; omega) (by omega) (Crc.four_len _) hpl0
     have HSL := hidm (show (S (sealB ((prt g.turn l j).body j))).size ≤ 128 from by rw [S_size, sealB_len (by omega)]; omega)
     have U3 := hidm (fun w => Wal.rseal_any (S ((prt g.turn l j).body j)) (by rw [S_size]; omega) w)
     have HKK := hidm hkk
     have c0 := HD.out.c0
     have c1 := HD.out.c1
     have c3 := HD.out.c3
     have c5 := HD.out.c5
     rw [u0] at c5
     have p0 := HPD.out
     clear hdj hfew hcw hn3 hkk hfl hpl0 hbody hb2 hbl u0 HI HDR
     go_upto_region 12 with fail
     refine wp_region_held_drew (S := fun u => u.cell? ⟨M, 0, none⟩ = some (.pointer (some ⟨R, 0, none⟩)) ∧ u.cell? ⟨M, 1, none⟩ = some (.int .i64 0) ∧ u.cell? ⟨M, 3, none⟩ = some (.int .i64 (g.turn : Int)) ∧ u.cell? ⟨M, 5, none⟩ = some (.int .i64 0) ∧ u.cell? ⟨pb, j, none⟩ = some (.string (S (partL l j)))) (by kernel_rfl) ⟨c0, c1, c3, c5, p0⟩ (fun hHeld => ?_)
     clear c0 c1 c3 c5 p0
     refine Man.t1 0 hHeld ?_
     (try simp only [Act.put, Mqa, Mqb, Mqc])
     refine Man.t1 1 hHeld ?_
     (try simp only [Act.put, Mqa, Mqb, Mqc])
     refine Man.t1 2 hHeld ?_
     (try simp only [Act.put, Mqa, Mqb, Mqc])
     refine Man.t1 3 hHeld ?_
     (try simp only [Act.put, Mqa, Mqb, Mqc])
     refine Man.t1 4 hHeld ?_
     (try simp only [Act.put, Mqa, Mqb, Mqc])
     refine Man.t1 5 hHeld ?_
     (try simp only [Act.put, Mqa, Mqb, Mqc])
     refine Man.t1 6 hHeld ?_
     (try simp only [Act.put, Mqa, Mqb, Mqc])
     refine Man.t1 7 hHeld ?_
     (try simp only [Act.put, Mqa, Mqb, Mqc])
     refine Man.t1 8 hHeld ?_
     (try simp only [Act.put, Mqa, Mqb, Mqc])
     refine Man.t1 9 hHeld ?_
     (try simp only [Act.put, Mqa, Mqb, Mqc])
     refine Man.t1 10 hHeld ?_
     (try simp only [Act.put, Mqa, Mqb, Mqc])
     refine Man.t1 11 hHeld ?_
     (try simp only [Act.put, Mqa, Mqb, Mqc])
     refine Man.t1 12 hHeld ?_
     (try simp only [Act.put, Mqa, Mqb, Mqc])
     refine Man.t1 13 hHeld ?_
     (try simp only [Act.put, Mqa, Mqb, Mqc])
     refine Man.t1 14 hHeld ?_
     (try simp only [Act.put, Mqa, Mqb, Mqc])
     refine Man.t1 15 hHeld ?_
     (try simp only [Act.put, Mqa, Mqb, Mqc])
     refine Man.t1 16 hHeld ?_
     (try simp only [Act.put, Mqa, Mqb, Mqc])
     refine Man.t1 17 hHeld ?_
     (try simp only [Act.put, Mqa, Mqb, Mqc])
     refine Man.t1 18 hHeld ?_
     (try simp only [Act.put, Mqa, Mqb, Mqc])
     refine Man.t1 19 hHeld ?_
     (try simp only [Act.put, Mqa, Mqb, Mqc])
     refine Man.t1 20 hHeld ?_
     (try simp only [Act.put, Mqa, Mqb, Mqc])
     refine Man.t1 21 hHeld ?_
     (try simp only [Act.put, Mqa, Mqb, Mqc])
     refine Man.t1 22 hHeld ?_
     (try simp only [Act.put, Mqa, Mqb, Mqc])
     refine Man.t1 23 hHeld ?_
     (try simp only [Act.put, Mqa, Mqb, Mqc])
     refine Man.t1 24 hHeld ?_
     (try simp only [Act.put, Mqa, Mqb, Mqc])
     refine Man.t1 25 hHeld ?_
     (try simp only [Act.put, Mqa, Mqb, Mqc])
     refine Man.t1 26 hHeld ?_
     (try simp only [Act.put, Mqa, Mqb, Mqc])
     refine Man.t1 27 hHeld ?_
     (try simp only [Act.put, Mqa, Mqb, Mqc])
     refine Man.t1 28 hHeld ?_
     (try simp only [Act.put, Mqa, Mqb, Mqc])
     refine Man.t1 30 hHeld ?_
     (try simp only [Act.put, Mqa, Mqb, Mqc])
     refine Man.t1 31 hHeld ?_
     (try simp only [Act.put, Mqa, Mqb, Mqc])
     refine Man.t1 32 hHeld ?_
     (try simp only [Act.put, Mqa, Mqb, Mqc])
     refine Man.t1 33 hHeld ?_
     (try simp only [Act.put, Mqa, Mqb, Mqc])
     refine Man.one (i := 29) rfl (by kernel_rfl) (fun K hK => ?_)
     go_simp
     with_reducible refine (U1.out _).mono ?_
     rintro e w1 ⟨rfl, hb1⟩
     have H1 := hidm (HD.out.later hb1)
     have HT1 := hidm (HTD.out.trans (.below hb1))
     have HP1 := hidm ((hb1.cell (p := ⟨pb, j, none⟩) (World.block_lt_of_cell? _ _ HPD.out)).trans HPD.out)
     clear hb1
     refine hK.out _ _ ⟨H1.out.c0, H1.out.c1, H1.out.c3, RL.c5z H1.out HU.out, HP1.out⟩ (fun hNew => ?_)
     clear hK K hHeld
     have hHeld := hNew
     clear hNew
     skip
     refine Man.one (i := 34) rfl (by kernel_rfl) (fun K hK => ?_)
     go_simp
     with_reducible refine (U2.out _).mono ?_
     rintro e w2 ⟨rfl, hb2⟩
     have H2 := hidm (H1.out.later hb2)
     have HT2 := hidm (HT1.out.trans (.below hb2))
     have HP2 := hidm ((hb2.cell (p := ⟨pb, j, none⟩) (World.block_lt_of_cell? _ _ HP1.out)).trans HP1.out)
     clear hb2
     refine hK.out _ _ ⟨H2.out.c0, H2.out.c1, H2.out.c3, RL.c5z H2.out HU.out, HP2.out⟩ (fun hNew => ?_)
     clear hK K hHeld
     have hHeld := hNew
     clear hNew
     skip
     refine Man.one (i := 35) rfl (by kernel_rfl) (fun K hK => ?_)
     go_simp
     with_reducible refine (U3.out _).mono ?_
     rintro e w3 ⟨rfl, hb3⟩
     have H3 := hidm (H2.out.later hb3)
     have HT3 := hidm (HT2.out.trans (.below hb3))
     have HP3 := hidm ((hb3.cell (p := ⟨pb, j, none⟩) (World.block_lt_of_cell? _ _ HP2.out)).trans HP2.out)
     clear hb3
     refine hK.out _ _ ⟨H3.out.c0, H3.out.c1, H3.out.c3, RL.c5z H3.out HU.out, HP3.out⟩ (fun hNew => ?_)
     clear hK K hHeld
     have hHeld := hNew
     clear hNew
     skip
     refine Man.one (i := 36) rfl (by kernel_rfl) (fun K hK => ?_)
     go_simp
     with_reducible refine (rl_write H3.out kk _ HSL.out HK2.out HC2.out HW2.out).mono ?_
     rintro e w4 ⟨F4, rfl, h4, ht4⟩
     have H4 := hidm h4
     have HT4 := hidm (HT3.out.trans ht4)
     have HP4 := hidm (HPK.out w4 F4 HT4.out)
     clear h4 ht4
     refine hK.out _ _ ⟨H4.out.c0, H4.out.c1, H4.out.c3, RL.c5z H4.out HU.out, HP4.out⟩ (fun hNew => ?_)
     clear hK K hHeld
     have hHeld := hNew
     clear hNew
     skip
     refine Man.one (i := 37) rfl (by kernel_rfl) (fun K hK => ?_)
     go_simp
     with_reducible refine (rhalt_any H4.out _).mono ?_
     rintro e w5 ⟨rfl, h5, ht5⟩
     have H5 := hidm h5
     have HT5 := hidm (HT4.out.trans ht5)
     have HP5 := hidm (HPK.out w5 F4 HT5.out)
     clear h5 ht5
     refine hK.out _ _ ⟨H5.out.c0, H5.out.c1, H5.out.c3, RL.c5z H5.out HU.out, HP5.out⟩ (fun hNew => ?_)
     clear hK K hHeld
     have hHeld := hNew
     clear hNew
     skip
     refine Man.t1 38 hHeld ?_
     (try simp only [Act.put, Mqa, Mqb, Mqc])
     refine wpAnyH_done (by kernel_rfl) ?_ _
     clear hHeld
     have HGO := hidm (aS_go g.turn l d j HOK.out)
     rw [← HDJ.out, ← HKK.out] at HGO
     obtain ⟨y, hy⟩ : ∃ y, y = (run dj (wrS kk (S (sealB ((prt g.turn l j).body j))).data.toList)).1 := ⟨_, rfl⟩
     obtain ⟨d2, hd2⟩ : ∃ x, x = (run dj (wrS kk (S (sealB ((prt g.turn l j).body j))).data.toList)).2 := ⟨_, rfl⟩
     rw [← hy, ← hd2] at H5
     rw [← hy]
     have HY := hidm (show run d (aS g.turn l (j + 1)) = (y, d2) from by
       rw [HGO.out, hy, hd2])
     clear hy hd2 HGO H1 H2 H3 H4 HT1 HT2 HT3 HT4 HP1 HP2 HP3 HP4 HP5 HD HTD HPD U1 U2 U3 HPK
     cases y with
     | false =>
       have e1 : code false = 6 := rfl
       rw [e1]
       clear i1 i1w k1 k1w
       go_wp2_with fail
       go_ret
       have hst := aS_stop g.turn l d (j + 1) (by rw [HY.out]) np0 (by have := HJ9.out; omega)
       rw [hst, HY.out]
       refine ⟨⟨F4, rfl, ?_, (To.below HB3.out).trans HT5.out⟩⟩
       have h9 := H5.out
       have e9 : ({ g with halted := g.halted || !false } : DL) = appendL g l false := by unfold appendL; simp
       rw [e9] at h9
       exact h9
     | true =>
       have e1 : code true = 0 := rfl
       rw [e1]
       clear k1 k1w
       go_wp2_with fail
       go_roundw
       case rel => exact ⟨j9, rfl, HJ9.out.2, hidm ⟨by rw [HJ9.out.1, HY.out], F4, by
         rw [HJ9.out.1, HY.out]
         have h9 := H5.out
         have e9 : ({ g with halted := g.halted || !true } : DL) = g := by simp
         rw [e9] at h9
         exact h9, HT5.out⟩⟩
       case measure => have := HJ9.out; simp [intOf]; omega
   · obtain rfl : j = np0 := by omega
     have g1 : ¬ (j : Int) < (j : Int) := by omega
     obtain ⟨F0, hrl, hto⟩ := HI.out.ex
     have HOK := hidm HI.out.ok
     have HTO := hidm ((To.below HB3.out).trans hto)
     obtain ⟨d2, hd2⟩ : ∃ x, x = (run d (aS g.turn l j)).2 := ⟨_, rfl⟩
     rw [← hd2] at hrl
     have HRN := hidm (show run d (aS g.turn l j) = (true, d2) from by rw [hd2, ← HOK.out])
     have HRL := hidm hrl
     obtain ⟨Td, sl, q1, q2, q3, q4, q5⟩ := hrl.ex
     rw [HRC.out] at q3
     have Q1 := hidm q1
     have Q2 := hidm q2
     have Q3 := hidm q3
     have Q4 := hidm q4
     have Q5 := hidm q5
     have c6 : wx.cell? ⟨M, 6, none⟩ = some sl := by rw [cell_of_row wx M 6 _ _ (0, 0) q2]; rfl
     obtain ⟨i0, hi0, hz0, hz1, hz2⟩ := info_parts Dsk.infoS
     have HBA := hidm ((Below.refl wx.heap.size wx).alloc (Nat.le_refl _) (.cells #[.string s] 9))
     clear q1 q2 q3 q4 q5 hrl hto hd2 HI
     have hn9' : j ≤ 1000 := hn9
     go_wp2_with (at_builtin; refine wpList_append_lies _ rfl _ _ 57 rfl 0 9 i0 (.string ⟨#[]⟩) 1 16 Tryz.underlying57 hi0 hz0 hz1 hz2 rfl (by decide) sl 0 ([] : List Value) rfl (Dsk.owns_later Q3.out HBA.out) ⟨wx.heap.size, 0, none⟩ 1 1 [.string s] rfl rfl ?CA ?CB (by decide) ?CC ?CD ?CE _ rfl ?_)
     case CB => rfl
     case CC => unfold maxLen; decide
     intro b cap w7 hown hgrow hg hlt7
     have hrow7 : w7.heap[M]? = some (.cells (dlcells R g sl) 92 (0, 0)) := by
       have hb2 := below_keeps HBA.out Q2.out
       exact (hgrow.block M (lt_of_block hb2) (fun e => row_ne Q2.out Q3.out M e.symm rfl)).trans hb2
     have c67 : w7.cell? ⟨M, 6, none⟩ = some sl := by rw [cell_of_row w7 M 6 _ _ (0, 0) hrow7]; rfl
     have z67 := frozen_of_row w7 M 6 _ _ hrow7
     obtain ⟨F7, h7, ht7⟩ := RL.grew (n := 1) (rs := [l]) (H := wx.heap.size + 1) (Q1.out.later HBA.out) (below_keeps HBA.out Q2.out) (by rw [HRC.out]; exact Dsk.owns_later Q3.out HBA.out) Q4.out Q5.out HRL.out.fM (fun k hk => Nat.lt_of_lt_of_le (HRL.out.lt k hk) HBA.out.size) HRL.out.ok HRL.out.fit hgrow rfl (by simp) (by
       have : strs [l] = [.string s] := by rw [HL.out]; show [Value.string (S s.data.toList)] = _; rw [S_of]
       rw [this]; exact hown) hg (by simp) hlt7
     have H7 := hidm h7
     have HT7 := hidm (HTO.out.trans ((To.below HBA.out).trans ht7))
     clear hown hgrow hg hlt7 hrow7 h7 ht7 Q1 Q2 Q3 Q4 Q5 c6
     go_upto_region 16 with fail
     obtain ⟨w8, hw8⟩ : ∃ w8, w8 = w7.setCell ⟨M, 6, none⟩ (.slice (some ⟨b, 0, none⟩) 1 cap) := ⟨_, rfl⟩
     rw [← hw8] at H7 HT7 ⊢
     have c5 := RL.c5z H7.out HU.out
     have z5 := H7.out.z 5
     have hok7 := H7.out.ok
     have HP := hidm (H7.out.put 5 (.int .i64 (j : Int)) { g with recs := [l], used := j } (fun _ => rfl) rfl ⟨hok7.1, hok7.2.1, hok7.2.2.1, HN.out.1, hok7.2.2.2.2⟩ rfl)
     have jw : IntKind.i64.wrap (j : Int) = (j : Int) := by simp only [IntKind.wrap_i64]; omega
     clear hw8 c67 z67 hok7
     go_wp2_with fail
     go_ret
     rw [HRN.out]
     refine ⟨⟨F7, rfl, ?_, HT7.out.trans HP.out.2⟩⟩
     have h9 := HP.out.1
     unfold appendL
     rw [if_pos rfl, ← HNP.out]
     exact h9
end
end Pgr
end Go.Proofs.YtkgbemkcnahkoaaGreatDoor
namespace Go.Proofs.YtkgbemkcnahkoaaGreatDoor
open Go.RowKit
namespace Pgr
open Wal
open Cod (uB num)
theorem numAt (n : Nat) (hn : n < 18446744073709551616) (t : List UInt8) : num 0 0 (uB n ++ t) = .ok (n, t) := by
 have := Cod.num_uB n 0 0 t (by omega) (by omega) (by omega)
 simpa using this
theorem mk_un {m : UInt8} {x l : List UInt8} (h : un x = some (m :: l)) : mk m x = some l := by unfold mk; rw [h]; simp
theorem plP_un {x l : List UInt8} {i : Nat} (h : un x = some (76 :: l)) : plP x i = placeB i l := by unfold plP; rw [mk_un h]; rfl
theorem plP_no {x : List UInt8} {i : Nat} (h : un x = none) : plP x i = none := by unfold plP mk; rw [h]; rfl
theorem plP_nil {x : List UInt8} {i : Nat} (h : un x = some []) : plP x i = none := by unfold plP mk; rw [h]; rfl
theorem plP_other {x l : List UInt8} {c : UInt8} {i : Nat} (h : un x = some (c :: l)) (hc : c ≠ 76) : plP x i = none := by unfold plP mk; rw [h]; simp [hc]
theorem plP_head {x r : List UInt8} {t i m : Nat} (h : un x = some (headB t i m ++ r)) (ht : t < 18446744073709551616) (hi : i < 18446744073709551616) (hm : m ≤ 1) :
   plP x i = if 4 ≤ r.length ∧ r.length ≤ 104 ∧ (m = 1 → 104 ≤ r.length) then some ⟨t, m == 1, r.take 4, r.drop 4⟩ else none := by
 have h' : un x = some (76 :: (uB t ++ (uB i ++ (uB m ++ r)))) := by rw [h]; simp [headB]
 rw [plP_un h']
 unfold placeB
 rw [numAt t ht]
 simp only
 rw [numAt i hi]
 simp only
 rw [numAt m (by omega)]
 simp only
 by_cases hc : 4 ≤ r.length ∧ r.length ≤ 104 ∧ (m = 1 → 104 ≤ r.length)
 · rw [if_pos hc, if_pos ⟨trivial, hm, hc⟩]
 · rw [if_neg hc, if_neg (fun e => hc e.2.2)]
theorem plP_back {x b : List UInt8} {i : Nat} {p : Pl} (h : un x = some b) (hp : plP x i = some p) : ∃ m r, m ≤ 1 ∧ b = headB p.turn i m ++ r ∧ turnB b = (if p.turn ≤ 1099511627776 then some p.turn else none) := by
 cases b with
 | nil => rw [plP_nil h] at hp; cases hp
 | cons c l =>
   by_cases hc : c = 76
   · subst hc
     rw [plP_un h] at hp
     unfold placeB at hp
     rcases h1 : num 0 0 l with e | ⟨t, l1⟩
     · rw [h1] at hp; cases hp
     · rw [h1] at hp
       simp only at hp
       rcases h2 : num 0 0 l1 with e | ⟨a, l2⟩
       · rw [h2] at hp; cases hp
       · rw [h2] at hp
         simp only at hp
         rcases h3 : num 0 0 l2 with e | ⟨m, l3⟩
         · rw [h3] at hp; cases hp
         · rw [h3] at hp
           simp only at hp
           split at hp
           · rename_i hc
             cases hp
             obtain ⟨m1, e1, v1, _⟩ := Cod.num_ok l 0 0 t l1 (by omega) h1
             obtain ⟨m2, e2, v2, _⟩ := Cod.num_ok l1 0 0 a l2 (by omega) h2
             obtain ⟨m3, e3, v3, _⟩ := Cod.num_ok l2 0 0 m l3 (by omega) h3
             have t1 : m1 = t := by omega
             have t2 : m2 = i := by have := hc.1; omega
             have t3 : m3 = m := by omega
             subst t1 t2 t3
             refine ⟨m3, l3, hc.2.1, ?_, ?_⟩
             · show 76 :: l = headB m1 m2 m3 ++ l3
               rw [e1, e2, e3]; simp [headB]
             · show (if (76 : UInt8) = 76 then turnL l else none) = _
               rw [if_pos rfl]
               unfold turnL
               rw [h1]
           · cases hp
   · rw [plP_other h hc] at hp; cases hp
theorem turn_le {b : List UInt8} {t : Nat} (h : turnB b = some t) : t ≤ 1099511627776 := by
 cases b with
 | nil => cases h
 | cons c l =>
   simp only [turnB] at h
   split at h
   · unfold turnL at h
     split at h
     · split at h
       · cases h; assumption
       · cases h
     · cases h
   · cases h
theorem rd_turnless {pl : Nat → Option Pl} {top least k i : Nat} {a : Option Pl} {acc x b : List UInt8} (hpl : pl i = plP x i) (hu : un x = some b) (ht : turnB b = none) (htop : top ≤ 1099511627776) : rd pl top least (k + 1) i a acc = none := by
 cases hp : plP x i with
 | none => exact rd_none (hpl.trans hp)
 | some p =>
   obtain ⟨m, r, _, _, h4⟩ := plP_back hu hp
   rw [ht] at h4
   have : ¬ p.turn ≤ 1099511627776 := fun e => by rw [if_pos e] at h4; cases h4
   refine rd_not (hpl.trans hp) ?_
   unfold tkD
   rw [decide_eq_true (show top < p.turn by omega)]
   simp
theorem rd_turn {pl : Nat → Option Pl} {top least k i t : Nat} {a : Option Pl} {acc x b : List UInt8} (hpl : pl i = plP x i) (hu : un x = some b) (ht : turnB b = some t) (hbad : t < least ∨ top < t ∨ ∃ q, a = some q ∧ t ≠ q.turn) : rd pl top least (k + 1) i a acc = none := by
 cases hp : plP x i with
 | none => exact rd_none (hpl.trans hp)
 | some p =>
   obtain ⟨m, r, _, _, h4⟩ := plP_back hu hp
   rw [ht] at h4
   have hpt : p.turn = t := by
     by_cases e : p.turn ≤ 1099511627776
     · rw [if_pos e] at h4; exact (Option.some.inj h4).symm
     · rw [if_neg e] at h4; cases h4
   refine rd_not (hpl.trans hp) ?_
   unfold tkD
   rcases hbad with e | e | ⟨q, rfl, e⟩
   · rw [decide_eq_true (show p.turn < least by omega)]; simp
   · rw [decide_eq_true (show top < p.turn by omega)]; simp
   · have : (p.turn == q.turn) = false := by rw [hpt]; simpa using e
     simp [this]
theorem rd_headless {pl : Nat → Option Pl} {top least k i t : Nat} {a : Option Pl} {acc x b : List UInt8} (hpl : pl i = plP x i) (hu : un x = some b) (ht : turnB b = some t) (h0 : hasB (Crc.S b) (Crc.S (headB t i 0)) = false) (h1 : hasB (Crc.S b) (Crc.S (headB t i 1)) = false) : rd pl top least (k + 1) i a acc = none := by
 cases hp : plP x i with
 | none => exact rd_none (hpl.trans hp)
 | some p =>
   obtain ⟨m, r, hm, hb, h4⟩ := plP_back hu hp
   rw [ht] at h4
   have hpt : p.turn = t := by
     by_cases e : p.turn ≤ 1099511627776
     · rw [if_pos e] at h4; exact (Option.some.inj h4).symm
     · rw [if_neg e] at h4; cases h4
   rw [hpt] at hb
   have hm2 : m = 0 ∨ m = 1 := by omega
   rcases hm2 with e | e
   · subst e
     have := hasB_iff.2 ⟨r, hb⟩
     rw [h0] at this; cases this
   · subst e
     have := hasB_iff.2 ⟨r, hb⟩
     rw [h1] at this; cases this
theorem rd_short {pl : Nat → Option Pl} {top least k i t m : Nat} {a : Option Pl} {acc x r : List UInt8} (hpl : pl i = plP x i) (hu : un x = some (headB t i m ++ r)) (ht : t < 18446744073709551616) (hi : i < 18446744073709551616) (hm : m ≤ 1) (h : r.length < 4 ∨ 104 < r.length ∨ (m = 1 ∧ r.length ≠ 104)) : rd pl top least (k + 1) i a acc = none := by
 refine rd_none ?_
 rw [hpl, plP_head hu ht hi hm, if_neg (fun e => ?_)]
 rcases h with e2 | e2 | ⟨e2, e3⟩
 · omega
 · omega
 · have := e.2.2 e2; omega
theorem pl_there {pl : Nat → Option Pl} {i t m : Nat} {x r : List UInt8} (hpl : pl i = plP x i) (hu : un x = some (headB t i m ++ r)) (ht : t < 18446744073709551616) (hi : i < 18446744073709551616) (hm : m ≤ 1) (h1 : 4 ≤ r.length) (h2 : r.length ≤ 104) (h3 : m = 1 → r.length = 104) : pl i = some ⟨t, m == 1, r.take 4, r.drop 4⟩ := by
 rw [hpl, plP_head hu ht hi hm, if_pos ⟨h1, h2, fun e => by have := h3 e; omega⟩]
theorem rplace_1 (t i : Nat) (ht : t ≤ 9223372036854775807) (hi : i ≤ 9223372036854775807) (w : World) :
   Calls Tryz.prog 131 #[.int .i64 (t : Int), .int .i64 (i : Int), .int .u64 1, .string ⟨#[]⟩, .string ⟨#[]⟩] w fun e w' => e = .returned (.string (Crc.S (headB t i 1))) ∧ Below w.heap.size w w' := by
 have h := rplace_any t i 1 ⟨#[]⟩ ⟨#[]⟩ ht hi (by decide) (by decide) (by decide) w
 have e : Crc.S (headB t i 1 ++ (⟨#[]⟩ : ByteArray).data.toList ++ (⟨#[]⟩ : ByteArray).data.toList) = Crc.S (headB t i 1) := by simp
 rw [e] at h
 exact h
theorem rplace_0 (t i : Nat) (ht : t ≤ 9223372036854775807) (hi : i ≤ 9223372036854775807) (w : World) :
   Calls Tryz.prog 131 #[.int .i64 (t : Int), .int .i64 (i : Int), .int .u64 0, .string ⟨#[]⟩, .string ⟨#[]⟩] w fun e w' => e = .returned (.string (Crc.S (headB t i 0))) ∧ Below w.heap.size w w' := by
 have h := rplace_any t i 0 ⟨#[]⟩ ⟨#[]⟩ ht hi (by decide) (by decide) (by decide) w
 have e : Crc.S (headB t i 0 ++ (⟨#[]⟩ : ByteArray).data.toList ++ (⟨#[]⟩ : ByteArray).data.toList) = Crc.S (headB t i 0) := by simp
 rw [e] at h
 exact h
end Pgr
end Go.Proofs.YtkgbemkcnahkoaaGreatDoor
