import Derived.Test.YtkgbemkcnahkoaaGreatDoorZVrto
namespace Go.Proofs.YtkgbemkcnahkoaaGreatDoor
open Go.RowKit
namespace Pgr
open Wal
open Dsk (PD RefIs Only Grow KeepQ upd pad pad_len below_keeps zeros)
open Crc (S S_of S_size S_append)
def recV (at0 : Nat) : Option (List UInt8 × Nat × Nat) → Value
 | none => .tuple #[.string ⟨#[]⟩, .int .i64 0, .int .i64 0]
 | some (s, e, t) => .tuple #[.string (S s), .int .i64 ((e - at0 : Nat) : Int), .int .i64 (t : Int)]
def wantOf : Option Pl → List UInt8
 | none => []
 | some p => p.sum
def nowOf : Option Pl → Nat
 | none => 0
 | some p => p.turn
structure RecI (base w : World) (g : DL) (d : PD) (at0 least gn : Nat) (res : Option (List UInt8 × Nat × Nat)) (i : Nat) (acc : List UInt8) (a : Option Pl) : Prop where
 ge : at0 ≤ i
 first : a = none ↔ i = at0
 len : acc.length ≤ 100 * i
 res : res = rd (plF 0 d.f) g.turn least (gn - i) i a acc
 bel : Below base.heap.size base w
section
variable {M R : Nat} {g : DL} {d : PD} {F : Nat → Prop} {w : World}
set_option maxHeartbeats 16000000 in
set_option maxRecDepth 100000 in
theorem rrecord_any (h : RL M R g d F w) (at0 least : Nat) (hat : at0 ≤ g.n) (hls : least ≤ 1099511627776) :
   Calls Tryz.prog 84 #[.pointer (some ⟨M, 0, none⟩), .int .i64 (at0 : Int), .int .i64 (least : Int)] w fun e w' => e = .returned (recV at0 (rd (plF 0 d.f) g.turn least (g.n - at0) at0 none [])) ∧ Below w.heap.size w w' := by
 obtain ⟨o1, o2, o3, o4, o5⟩ := h.ok
 have hfit := h.fit
 obtain ⟨gn, hgn⟩ : ∃ x, x = g.n := ⟨_, rfl⟩
 obtain ⟨n2, hn2⟩ : ∃ x, x = 2 + g.n := ⟨_, rfl⟩
 have n1 : (n2 : Int) - 2 = (gn : Int) := by omega
 have n1w : IntKind.i64.wrap (gn : Int) = (gn : Int) := by simp only [IntKind.wrap_i64]; omega
 have HG := hidm h
 have HC2 := hidm (fun (u : World) (hb : Below w.heap.size w u) => (show u.cell? ⟨M, 2, none⟩ = some (.int .i64 (n2 : Int)) from by rw [hn2]; exact (h.later hb).c2))
 have HFL := hidm (show ∀ k : Nat, (d.f k).length = 128 from fun k => by
   obtain ⟨Td, sl, h1, _⟩ := h.ex
   exact h1.flen k)
 have HTOP := hidm o2
 have HFIT := hidm (show 2 + gn ≤ d.n ∧ gn ≤ 1000 ∧ at0 ≤ gn from by omega)
 obtain ⟨res, hres⟩ : ∃ res, res = rd (plF 0 d.f) g.turn least (g.n - at0) at0 none [] := ⟨_, rfl⟩
 rw [← hres]
 rw [← hgn] at hres
 have HR0 := hidm hres
 clear h hat o1 o3 o4 o5 hfit hn2 hgn hres
 go_enter Tryz.func84, Tryz.ntmps84
 go_wp2_with fail
 go_loopw [9, 10, 11, 12] (fun ss ww nn ii wx => ∃ (i : Nat) (acc : List UInt8) (a : Option Pl), ss = .string (S acc) ∧ ww = .string (S (wantOf a)) ∧ nn = .int .i64 (nowOf a : Int) ∧ ii = .int .i64 (i : Int) ∧ i ≤ gn ∧ Hid (RecI w wx g d at0 least gn res i acc a)) (fun _ _ _ ii _ => (gn - (intOf ii).toNat))
 case atStart => exact ⟨at0, [], none, rfl, rfl, rfl, rfl, HFIT.out.2.2, hidm ⟨Nat.le_refl _, ⟨fun _ => rfl, fun _ => rfl⟩, by simp, HR0.out, Below.refl _ _⟩⟩
 case round =>
   clear HR0
   rename World => wx
   obtain ⟨i, acc, a, rfl, rfl, rfl, rfl, hi, HI⟩ := hrel
   have c2 := HC2.out wx HI.out.bel
   rcases Nat.lt_or_ge i gn with hlt | hge
   · have g1 : (i : Int) < (gn : Int) := by omega
     have HBX := hidm HI.out.bel
     have HBD := hidm (HI.out.bel.trans ((Below.refl wx.heap.size wx).drew.mono HI.out.bel.size))
     have HD := hidm (HG.out.later HBD.out)
     have HAT := hidm HI.out.ge
     have HI9 := hidm (show i < gn ∧ i ≤ 1000 from by have := HFIT.out; omega)
     obtain ⟨i9, hi9⟩ : ∃ x, x = i + 1 := ⟨_, rfl⟩
     have HII := hidm hi9
     have i1 : (i : Int) + 1 = (i9 : Int) := by omega
     have i1w : IntKind.i64.wrap (i9 : Int) = (i9 : Int) := by have := HI9.out; simp only [IntKind.wrap_i64]; omega
     have w2' : IntKind.i64.wrap 2 = 2 := by decide
     obtain ⟨kk, hkk⟩ : ∃ k, k = 2 + i := ⟨_, rfl⟩
     have HKK := hidm hkk
     have HK2 := hidm (show kk < d.n from by have := HFIT.out; omega)
     have k1 : 2 + (i : Int) = (kk : Int) := by omega
     have k1w : IntKind.i64.wrap (kk : Int) = (kk : Int) := by have := HI9.out; simp only [IntKind.wrap_i64]; omega
     have d1 : (i : Int) - (at0 : Int) = ((i - at0 : Nat) : Int) := by have := HAT.out; omega
     obtain ⟨dd, hdd⟩ : ∃ x, x = i - at0 := ⟨_, rfl⟩
     rw [← hdd] at d1
     have HDD := hidm hdd
     have d1w : IntKind.i64.wrap (dd : Int) = (dd : Int) := by have := HI9.out; simp only [IntKind.wrap_i64]; omega
     have d2 : (dd : Int) + 1 = ((dd + 1 : Nat) : Int) := by omega
     obtain ⟨de, hde⟩ : ∃ x, x = dd + 1 := ⟨_, rfl⟩
     rw [← hde] at d2
     have HDE := hidm hde
     have d2w : IntKind.i64.wrap (de : Int) = (de : Int) := by have := HI9.out; simp only [IntKind.wrap_i64]; omega
     have HSUC := hidm (show gn - i = (gn - i - 1) + 1 from by omega)
     rcases a with _ | q
     · have e0 : i = at0 := HI.out.first.1 rfl
       have x0 : ¬ (at0 : Int) < (i : Int) := by omega
       clear e0 hi9 hkk hdd hde hlt hi
       go_upto_region 7 with fail
       refine wp_region_held_drew (S := fun u => u.cell? ⟨M, 0, none⟩ = some (.pointer (some ⟨R, 0, none⟩)) ∧ u.cell? ⟨M, 1, none⟩ = some (.int .i64 0)) (by kernel_rfl) ⟨HD.out.c0, HD.out.c1⟩ (fun hHeld => ?_)
       refine Man.t1 0 hHeld ?_
       (try simp only [Act.put, Mqa, Mqb, Mqc])
       refine Man.t1 1 hHeld ?_
       (try simp only [Act.put, Mqa, Mqb, Mqc])
       refine Man.t1 2 hHeld ?_
       (try simp only [Act.put, Mqa, Mqb, Mqc])
       refine Man.t1 3 hHeld ?_
       (try simp only [Act.put, Mqa, Mqb, Mqc])
       refine Man.t1 4 hHeld ?_
       (try simp only [Act.put, Mqa, Mqb, Mqc])
       refine Man.t1 5 hHeld ?_
       (try simp only [Act.put, Mqa, Mqb, Mqc])
       refine Man.t1 6 hHeld ?_
       (try simp only [Act.put, Mqa, Mqb, Mqc])
       refine Man.t1 7 hHeld ?_
       (try simp only [Act.put, Mqa, Mqb, Mqc])
       refine Man.t1 8 hHeld ?_
       (try simp only [Act.put, Mqa, Mqb, Mqc])
       refine Man.t1 9 hHeld ?_
       (try simp only [Act.put, Mqa, Mqb, Mqc])
       refine Man.t1 10 hHeld ?_
       (try simp only [Act.put, Mqa, Mqb, Mqc])
       refine Man.one (i := 11) rfl (by kernel_rfl) (fun K hK => ?_)
       go_simp
       with_reducible refine (rl_read HD.out kk HK2.out).mono ?_
       rintro e w1 ⟨rfl, hb1⟩
       have H1 := hidm (HD.out.later hb1)
       have HB1 := hidm (HBD.out.trans (hb1.mono HBD.out.size))
       clear hb1
       refine hK.out _ _ ⟨H1.out.c0, H1.out.c1⟩ (fun hNew => ?_)
       clear hK K hHeld
       have hHeld := hNew
       clear hNew
       skip
       refine Man.t1 12 hHeld ?_
       (try simp only [Act.put, Mqa, Mqb, Mqc])
       refine Man.t1 13 hHeld ?_
       (try simp only [Act.put, Mqa, Mqb, Mqc])
       refine Man.t1 14 hHeld ?_
       (try simp only [Act.put, Mqa, Mqb, Mqc])
       refine Man.t1 15 hHeld ?_
       (try simp only [Act.put, Mqa, Mqb, Mqc])
       refine Man.t1 16 hHeld ?_
       (try simp only [Act.put, Mqa, Mqb, Mqc])
       refine wpAnyH_done (by kernel_rfl) ?_ _
       clear hHeld HD HBD
       obtain ⟨X, hX⟩ : ∃ X, X = S (d.f kk) := ⟨_, rfl⟩
       have hXs : X.size = 128 := by rw [hX, S_size]; exact HFL.out kk
       have HXL := hidm (show X.data.toList = d.f kk from by rw [hX])
       have HPL := hidm (show plF 0 d.f i = plP (d.f kk) i from by unfold plF; rw [HKK.out, Nat.zero_add])
       rw [← hX]
       clear hX
       have US := hidm (fun w => Wal.runseal_any X (by omega) w)
       rw [HXL.out] at US
       rcases hun : un (d.f kk) with _ | b
       · have HUN := hidm hun
         rw [hun] at US
         clear hun
         go_wp2_with fail
         with_reducible refine (US.out _).mono ?_
         rintro e w3 ⟨rfl, hb3⟩
         have HB3 := hidm (HB1.out.trans (hb3.mono HB1.out.size))
         clear hb3
         obtain ⟨z, hz⟩ : ∃ z, z = S ([] : List UInt8) := ⟨_, rfl⟩
         rw [show S ((none : Option (List UInt8)).getD []) = z from hz.symm]
         have UT := hidm (fun w => rturn_any z (by rw [hz]; decide) w)
         have hzt : turnI (turnB z.data.toList) = -1 := by rw [hz]; rfl
         rw [hzt] at UT
         clear hz hzt
         go_wp2_with fail
         with_reducible refine (UT.out _).mono ?_
         rintro e w4 ⟨rfl, hb4⟩
         have HB4 := hidm (HB3.out.trans (hb4.mono HB3.out.size))
         clear hb4
         have HRES := hidm (HI.out.res.trans ((congrArg (fun k => rd (plF 0 d.f) g.turn least k i _ acc) HSUC.out).trans (rd_none (HPL.out.trans (plP_no HUN.out)))))
         clear HI
         go_wp2_with fail
         all_goals go_ret3
         all_goals exact ⟨by rw [HRES.out]; rfl, HB4.out⟩
       · have HUN := hidm hun
         have hbl := un_len hun
         have HBL := hidm hbl
         rw [hun] at US
         have US2 : Hid (∀ w, Calls Tryz.prog 127 #[.string X] w fun e w' => e = .returned (.tuple #[.string (S b), .bool true]) ∧ Below w.heap.size w w') := US
         clear hun US
         go_wp2_with fail
         with_reducible refine (US2.out _).mono ?_
         rintro e w3 ⟨rfl, hb3⟩
         have HB3 := hidm (HB1.out.trans (hb3.mono HB1.out.size))
         clear hb3
         have UT := hidm (fun w => rturn_any (S b) (by rw [S_size]; omega) w)
         have UT2 : Hid (∀ w, Calls Tryz.prog 129 #[.string (S b)] w fun e w' => e = .returned (.int .i64 (turnI (turnB b))) ∧ Below w.heap.size w w') := UT
         clear UT hbl
         rcases htb : turnB b with _ | t0
         · have HTB := hidm htb
           rw [htb] at UT2
           have e1 : turnI none = -1 := rfl
           rw [e1] at UT2
           have x1 : (-1 : Int) < (least : Int) := by omega
           clear htb e1
           go_wp2_with fail
           with_reducible refine (UT2.out _).mono ?_
           rintro e w4 ⟨rfl, hb4⟩
           have HB4 := hidm (HB3.out.trans (hb4.mono HB3.out.size))
           clear hb4
           have HRES := hidm (HI.out.res.trans ((congrArg (fun k => rd (plF 0 d.f) g.turn least k i _ acc) HSUC.out).trans (rd_turnless HPL.out HUN.out HTB.out HTOP.out)))
           clear HI
           go_wp2_with fail
           all_goals go_ret3
           all_goals exact ⟨by rw [HRES.out]; rfl, HB4.out⟩
         · have HTB := hidm htb
           rw [htb] at UT2
           have e1 : turnI (some t0) = (t0 : Int) := rfl
           rw [e1] at UT2
           have HT9 := hidm (turn_le htb)
           have HH0 := hidm (headB_len (t := t0) (i := i) (m := 0) (by have := turn_le htb; omega) (by have := HI9.out; omega) (by decide))
           have HH1 := hidm (headB_len (t := t0) (i := i) (m := 1) (by have := turn_le htb; omega) (by have := HI9.out; omega) (by decide))
           clear htb e1
           go_wp2_with fail
           with_reducible refine (UT2.out _).mono ?_
           rintro e w4 ⟨rfl, hb4⟩
           have HB4 := hidm (HB3.out.trans (hb4.mono HB3.out.size))
           clear hb4
           clear UT2 US2
           have c3 := (HG.out.later HB4.out).c3
           by_cases hl1 : t0 < least
           · have x1 : (t0 : Int) < (least : Int) := by omega
             have HTL := hidm hl1
             clear hl1
             have HRES := hidm (HI.out.res.trans ((congrArg (fun k => rd (plF 0 d.f) g.turn least k i _ acc) HSUC.out).trans (rd_turn HPL.out HUN.out HTB.out (.inl HTL.out))))
             clear HI
             go_wp2_with fail
             all_goals go_ret3
             all_goals exact ⟨by rw [HRES.out]; rfl, HB4.out⟩
           · have x1 : ¬ (t0 : Int) < (least : Int) := by omega
             have HTL := hidm hl1
             clear hl1
             by_cases hl2 : g.turn < t0
             · have x2 : (g.turn : Int) < (t0 : Int) := by omega
               have HTT := hidm hl2
               clear hl2
               have HRES := hidm (HI.out.res.trans ((congrArg (fun k => rd (plF 0 d.f) g.turn least k i _ acc) HSUC.out).trans (rd_turn HPL.out HUN.out HTB.out (.inr (.inl HTT.out)))))
               clear HI
               go_wp2_with fail
               all_goals go_ret3
               all_goals exact ⟨by rw [HRES.out]; rfl, HB4.out⟩
             · have x2 : ¬ (g.turn : Int) < (t0 : Int) := by omega
               have HTT := hidm hl2
               clear hl2
               go_wp2_with fail
               with_reducible refine ((rplace_1 t0 i (by have := HT9.out; omega) (by have := HI9.out; omega) _)).mono ?_
               rintro e w5 ⟨rfl, hb5⟩
               have HB5 := hidm (HB4.out.trans (hb5.mono HB4.out.size))
               clear hb5
               go_wp2_with fail
               with_reducible refine (rhas_any (S b) (S (headB t0 i 1)) (by rw [S_size]; have := HH1.out; omega) _).mono ?_
               rintro e w6 ⟨rfl, hb6⟩
               have HB6 := hidm (HB5.out.trans (hb6.mono HB5.out.size))
               clear hb6
               rcases h1 : hasB (S b) (S (headB t0 i 1)) with _ | _
               · rcases h0 : hasB (S b) (S (headB t0 i 0)) with _ | _
                 · have HHN := hidm (And.intro h0 h1)
                   have hh0 := h0
                   clear h1
                   go_wp2_with fail
                   with_reducible refine ((rplace_0 t0 i (by have := HT9.out; omega) (by have := HI9.out; omega) _)).mono ?_
                   rintro e w7 ⟨rfl, hb7⟩
                   have HB7 := hidm (HB6.out.trans (hb7.mono HB6.out.size))
                   clear hb7
                   go_wp2_with fail
                   with_reducible refine (rhas_any (S b) (S (headB t0 i 0)) (by rw [S_size]; have := HH0.out; omega) _).mono ?_
                   rintro e w8 ⟨rfl, hb8⟩
                   have HB8 := hidm (HB7.out.trans (hb8.mono HB7.out.size))
                   clear hb8
                   rw [hh0]
                   clear hh0 h0
                   have HRES := hidm (HI.out.res.trans ((congrArg (fun k => rd (plF 0 d.f) g.turn least k i _ acc) HSUC.out).trans (rd_headless HPL.out HUN.out HTB.out HHN.out.1 HHN.out.2)))
                   clear HI
                   go_wp2_with fail
                   all_goals go_ret3
                   all_goals exact ⟨by rw [HRES.out]; rfl, HB8.out⟩
                 · have hh0 := h0
                   clear h1
                   obtain ⟨r, hr⟩ := hasB_iff.1 h0
                   have HBR := hidm hr
                   have HUNR := hidm (HUN.out.trans (congrArg some hr))
                   obtain ⟨hl, hhl⟩ : ∃ n, n = (headB t0 i 0).length := ⟨_, rfl⟩
                   have HHL := hidm hhl.symm
                   have HHL2 := hidm (show hl ≤ 31 from by rw [hhl]; exact HH0.out)
                   clear hr hhl
                   go_wp2_with fail
                   with_reducible refine ((rplace_0 t0 i (by have := HT9.out; omega) (by have := HI9.out; omega) _)).mono ?_
                   rintro e w7 ⟨rfl, hb7⟩
                   have HB7 := hidm (HB6.out.trans (hb7.mono HB6.out.size))
                   clear hb7
                   go_wp2_with fail
                   with_reducible refine (rhas_any (S b) (S (headB t0 i 0)) (by rw [S_size]; have := HH0.out; omega) _).mono ?_
                   rintro e w8 ⟨rfl, hb8⟩
                   have HB8 := hidm (HB7.out.trans (hb8.mono HB7.out.size))
                   clear hb8
                   rw [hh0]
                   clear hh0 h0
                   have hbs : (S b).size = hl + r.length := by rw [S_size, HBR.out, List.length_append, HHL.out]
                   have hhs : (S (headB t0 i 0)).size = hl := by rw [S_size, HHL.out]
                   obtain ⟨B, hB⟩ : ∃ B, B = S b := ⟨_, rfl⟩
                   obtain ⟨HD0, hHD0⟩ : ∃ B, B = S (headB t0 i 0) := ⟨_, rfl⟩
                   rw [← hB] at hbs
                   rw [← hHD0] at hhs
                   rw [← hB, ← hHD0]
                   have HBB := hidm hB
                   clear hB hHD0
                   obtain ⟨rl, hrl⟩ : ∃ n, n = r.length := ⟨_, rfl⟩
                   have HRL2 := hidm hrl
                   rw [← hrl] at hbs
                   have hrl9 : rl ≤ 1000 := by have := HBL.out; rw [HBR.out, List.length_append] at this; omega
                   have hl9 : hl ≤ 31 := HHL2.out
                   clear hrl
                   have q1 : (hl : Int) + 4 = ((hl + 4 : Nat) : Int) := by omega
                   obtain ⟨h4, hh4⟩ : ∃ n, n = hl + 4 := ⟨_, rfl⟩
                   rw [← hh4] at q1
                   have q1w : IntKind.i64.wrap (h4 : Int) = (h4 : Int) := by simp only [IntKind.wrap_i64]; omega
                   by_cases hr4 : rl < 4
                   · have r1 : (B.size : Int) < (h4 : Int) := by omega
                     have HRS := hidm (show r.length < 4 from by rw [← HRL2.out]; exact hr4)
                     clear hr4 hh4 hbs
                     have HRES := hidm (HI.out.res.trans ((congrArg (fun k => rd (plF 0 d.f) g.turn least k i _ acc) HSUC.out).trans (rd_short HPL.out (HUNR.out) (by have := HT9.out; omega) (by have := HI9.out; omega) (by decide) (.inl HRS.out))))
                     clear HI
                     go_wp2_with fail
                     all_goals go_ret3
                     all_goals exact ⟨by rw [HRES.out]; rfl, HB8.out⟩
                   · have r1 : ¬ (B.size : Int) < (h4 : Int) := by omega
                     have r2 : ¬ (B.size : Int) < (hl : Int) := by omega
                     have r3 : ¬ (h4 : Int) < (hl : Int) := by omega
                     obtain ⟨mi, hmi⟩ : ∃ x, x = B.extract hl h4 := ⟨_, rfl⟩
                     obtain ⟨pa, hpa⟩ : ∃ x, x = B.extract h4 B.size := ⟨_, rfl⟩
                     have HMI := hidm (show mi = S (r.take 4) from by
                       rw [hmi, hh4, Cod.cut_bytes, HBB.out]
                       show S (((b).drop hl).take 4) = _
                       rw [HBR.out, List.drop_append_of_le_length (by rw [HHL.out]; exact Nat.le_refl _), List.drop_of_length_le (by rw [HHL.out]; exact Nat.le_refl _), List.nil_append])
                     have HPA := hidm (show pa = S (r.drop 4) from by
                       have h9 := Cod.cut_bytes B h4 (B.size - h4)
                       rw [show h4 + (B.size - h4) = B.size by omega] at h9
                       rw [hpa, h9, HBB.out]
                       show S (((b).drop h4).take _) = _
                       rw [HBR.out, hh4, ← List.drop_drop, List.drop_append_of_le_length (by rw [HHL.out]; exact Nat.le_refl _), show List.drop hl (headB t0 i 0) = [] from List.drop_of_length_le (by rw [HHL.out]; exact Nat.le_refl _), List.nil_append, List.take_of_length_le (by rw [S_size, List.length_append, HHL.out, List.length_drop]; omega)])
                     have hps : pa.size = rl - 4 := by rw [HPA.out, S_size, List.length_drop, ← HRL2.out]
                     have hms : mi.size = 4 := by rw [HMI.out, S_size, List.length_take, ← HRL2.out]; omega
                     have hm2 := hmi.symm
                     have hp2 := hpa.symm
                     have HR4 := hidm (show 4 ≤ r.length from by rw [← HRL2.out]; omega)
                     have HPS := hidm (show pa.size = r.length - 4 from by rw [hps, HRL2.out])
                     obtain ⟨ps, hps2⟩ : ∃ n, n = pa.size := ⟨_, rfl⟩
                     have HPS2 := hidm hps2
                     clear hmi hpa hr4 hh4 hbs hps hms
                     by_cases hp1 : 100 < ps
                     · have p1 : (100 : Int) < (ps : Int) := by omega
                       rw [hps2] at p1
                       have HRS := hidm (show 104 < r.length from by have := HPS.out; have := HPS2.out; omega)
                       clear hp1 hps2
                       have HRES := hidm (HI.out.res.trans ((congrArg (fun k => rd (plF 0 d.f) g.turn least k i _ acc) HSUC.out).trans (rd_short HPL.out HUNR.out (by have := HT9.out; omega) (by have := HI9.out; omega) (by decide) (.inr (.inl HRS.out)))))
                       clear HI
                       go_wp2_with fail
                       all_goals go_ret3
                       all_goals exact ⟨by rw [HRES.out]; rfl, HB8.out⟩
                     · have p1 : ¬ (100 : Int) < (ps : Int) := by omega
                       rw [hps2] at p1
                       have HP1 := hidm (show ps ≤ 100 from by omega)
                       clear hp1 hps2
                       have HTH := hidm (pl_there HPL.out HUNR.out (by have := HT9.out; omega) (by have := HI9.out; omega) (by decide) HR4.out (by have := HPS.out; have := HPS2.out; have := HP1.out; omega) (fun e => by cases e))
                       have HTK0 := hidm (show decide ((⟨t0, 0 == 1, r.take 4, r.drop 4⟩ : Pl).turn < least) = false ∧ decide (g.turn < (⟨t0, 0 == 1, r.take 4, r.drop 4⟩ : Pl).turn) = false from ⟨decide_eq_false HTL.out, decide_eq_false HTT.out⟩)
                       have HTK := hidm (show tkD g.turn least none (⟨t0, 0 == 1, r.take 4, r.drop 4⟩ : Pl) = true from by
                         unfold tkD
                         rw [HTK0.out.1, HTK0.out.2]
                         rfl)
                       obtain ⟨ac2, hac2⟩ : ∃ x, x = S acc ++ pa := ⟨_, rfl⟩
                       have HAC := hidm (show ac2 = S (acc ++ r.drop 4) from by rw [hac2, HPA.out, S_append])
                       have hal : acc.length ≤ 100 * i := HI.out.len
                       have z1 : ¬ 9223372036854775807 < (S acc).size + pa.size := by rw [S_size, ← HPS2.out]; have := HP1.out; have := HI9.out; omega
                       have ha2 := hac2.symm
                       have HAL := hidm (show (acc ++ r.drop 4).length ≤ 100 * (i + 1) from by rw [List.length_append, List.length_drop]; have := HPS.out; have := HPS2.out; have := HP1.out; omega)
                       clear hac2 hal
                       have HN2 := hidm (HI.out.res.trans ((congrArg (fun k => rd (plF 0 d.f) g.turn least k i none acc) (show gn - i = (gn - (i + 1)) + 1 by have := HI9.out; omega)).trans (rd_last HTH.out HTK.out rfl)))
                       clear HI
                       have U9 := hidm (fun w => rsum_any ac2 (by rw [HAC.out, S_size]; have := HAL.out; have := HI9.out; omega) w)
                       go_wp2_with fail
                       with_reducible refine (U9.out _).mono ?_
                       rintro e w9 ⟨rfl, hb9⟩
                       have HB9 := hidm (HB8.out.trans (hb9.mono HB8.out.size))
                       clear hb9
                       obtain ⟨su, hsu⟩ : ∃ x, x = S (Crc.four (Crc.more 0 ac2.data.toList)) := ⟨_, rfl⟩
                       rw [← hsu]
                       have HSU := hidm (show su = S (Crc.four (Crc.more 0 (acc ++ r.drop 4))) from by rw [hsu, HAC.out])
                       clear hsu
                       by_cases hs : Crc.four (Crc.more 0 (acc ++ r.drop 4)) = r.take 4
                       · have HS9 := hidm hs
                         have y1 : (su.toList == mi.toList) = true := by rw [HSU.out, HMI.out, hs]; simp
                         have HR9 := hidm (HN2.out.trans (if_pos HS9.out))
                         clear hs HN2
                         go_wp2_with fail
                         go_ret3
                         exact ⟨by rw [HR9.out, HAC.out]; show _ = Ending.returned (.tuple #[.string (S (acc ++ r.drop 4)), .int .i64 ((i + 1 - at0 : Nat) : Int), .int .i64 (t0 : Int)]); rw [show i + 1 - at0 = i - at0 + 1 by have := HAT.out; omega]; rw [← HDD.out, ← HDE.out]; rfl, HB9.out⟩
                       · have HS9 := hidm hs
                         have y1 : (su.toList == mi.toList) = false := Crc.beq_no (by rw [HSU.out, HMI.out]; exact fun e => HS9.out (by have := congrArg (fun z => z.data.toList) e; simpa using this))
                         have HR9 := hidm (HN2.out.trans (if_neg HS9.out))
                         clear hs HN2
                         go_wp2_with fail
                         go_ret3
                         exact ⟨by rw [HR9.out]; rfl, HB9.out⟩
               · have hh1 := h1
                 obtain ⟨r, hr⟩ := hasB_iff.1 h1
                 have HBR := hidm hr
                 have HUNR := hidm (HUN.out.trans (congrArg some hr))
                 obtain ⟨hl, hhl⟩ : ∃ n, n = (headB t0 i 1).length := ⟨_, rfl⟩
                 have HHL := hidm hhl.symm
                 have HHL2 := hidm (show hl ≤ 31 from by rw [hhl]; exact HH1.out)
                 clear hr hhl
                 go_wp2_with fail
                 with_reducible refine ((rplace_0 t0 i (by have := HT9.out; omega) (by have := HI9.out; omega) _)).mono ?_
                 rintro e w7 ⟨rfl, hb7⟩
                 have HB7 := hidm (HB6.out.trans (hb7.mono HB6.out.size))
                 clear hb7
                 go_wp2_with fail
                 with_reducible refine ((rplace_1 t0 i (by have := HT9.out; omega) (by have := HI9.out; omega) _)).mono ?_
                 rintro e w8 ⟨rfl, hb8⟩
                 have HB8 := hidm (HB7.out.trans (hb8.mono HB7.out.size))
                 clear hb8
                 go_wp2_with fail
                 with_reducible refine (rhas_any (S b) (S (headB t0 i 1)) (by rw [S_size]; have := HH1.out; omega) _).mono ?_
                 rintro e w9 ⟨rfl, hb9⟩
                 have HB9 := hidm (HB8.out.trans (hb9.mono HB8.out.size))
                 clear hb9
                 rw [hh1]
                 clear hh1 h1
                 have hbs : (S b).size = hl + r.length := by rw [S_size, HBR.out, List.length_append, HHL.out]
                 have hhs : (S (headB t0 i 1)).size = hl := by rw [S_size, HHL.out]
                 obtain ⟨B, hB⟩ : ∃ B, B = S b := ⟨_, rfl⟩
                 obtain ⟨HD0, hHD0⟩ : ∃ B, B = S (headB t0 i 1) := ⟨_, rfl⟩
                 rw [← hB] at hbs
                 rw [← hHD0] at hhs
                 rw [← hB, ← hHD0]
                 have HBB := hidm hB
                 clear hB hHD0
                 obtain ⟨rl, hrl⟩ : ∃ n, n = r.length := ⟨_, rfl⟩
                 have HRL2 := hidm hrl
                 rw [← hrl] at hbs
                 have hrl9 : rl ≤ 1000 := by have := HBL.out; rw [HBR.out, List.length_append] at this; omega
                 have hl9 : hl ≤ 31 := HHL2.out
                 clear hrl
                 have q1 : (hl : Int) + 4 = ((hl + 4 : Nat) : Int) := by omega
                 obtain ⟨h4, hh4⟩ : ∃ n, n = hl + 4 := ⟨_, rfl⟩
                 rw [← hh4] at q1
                 have q1w : IntKind.i64.wrap (h4 : Int) = (h4 : Int) := by simp only [IntKind.wrap_i64]; omega
                 by_cases hr4 : rl < 4
                 · have r1 : (B.size : Int) < (h4 : Int) := by omega
                   have HRS := hidm (show r.length < 4 from by rw [← HRL2.out]; exact hr4)
                   clear hr4 hh4 hbs
                   have HRES := hidm (HI.out.res.trans ((congrArg (fun k => rd (plF 0 d.f) g.turn least k i _ acc) HSUC.out).trans (rd_short HPL.out (HUNR.out) (by have := HT9.out; omega) (by have := HI9.out; omega) (by decide) (.inl HRS.out))))
                   clear HI
                   go_wp2_with fail
                   all_goals go_ret3
                   all_goals exact ⟨by rw [HRES.out]; rfl, HB9.out⟩
                 · have r1 : ¬ (B.size : Int) < (h4 : Int) := by omega
                   have r2 : ¬ (B.size : Int) < (hl : Int) := by omega
                   have r3 : ¬ (h4 : Int) < (hl : Int) := by omega
                   obtain ⟨mi, hmi⟩ : ∃ x, x = B.extract hl h4 := ⟨_, rfl⟩
                   obtain ⟨pa, hpa⟩ : ∃ x, x = B.extract h4 B.size := ⟨_, rfl⟩
                   have HMI := hidm (show mi = S (r.take 4) from by
                     rw [hmi, hh4, Cod.cut_bytes, HBB.out]
                     show S (((b).drop hl).take 4) = _
                     rw [HBR.out, List.drop_append_of_le_length (by rw [HHL.out]; exact Nat.le_refl _), List.drop_of_length_le (by rw [HHL.out]; exact Nat.le_refl _), List.nil_append])
                   have HPA := hidm (show pa = S (r.drop 4) from by
                     have h9 := Cod.cut_bytes B h4 (B.size - h4)
                     rw [show h4 + (B.size - h4) = B.size by omega] at h9
                     rw [hpa, h9, HBB.out]
                     show S (((b).drop h4).take _) = _
                     rw [HBR.out, hh4, ← List.drop_drop, List.drop_append_of_le_length (by rw [HHL.out]; exact Nat.le_refl _), show List.drop hl (headB t0 i 1) = [] from List.drop_of_length_le (by rw [HHL.out]; exact Nat.le_refl _), List.nil_append, List.take_of_length_le (by rw [S_size, List.length_append, HHL.out, List.length_drop]; omega)])
                   have hps : pa.size = rl - 4 := by rw [HPA.out, S_size, List.length_drop, ← HRL2.out]
                   have hms : mi.size = 4 := by rw [HMI.out, S_size, List.length_take, ← HRL2.out]; omega
                   have hm2 := hmi.symm
                   have hp2 := hpa.symm
                   have HR4 := hidm (show 4 ≤ r.length from by rw [← HRL2.out]; omega)
                   have HPS := hidm (show pa.size = r.length - 4 from by rw [hps, HRL2.out])
                   obtain ⟨ps, hps2⟩ : ∃ n, n = pa.size := ⟨_, rfl⟩
                   have HPS2 := hidm hps2
                   clear hmi hpa hr4 hh4 hbs hps hms
                   by_cases hp1 : 100 < ps
                   · have p1 : (100 : Int) < (ps : Int) := by omega
                     rw [hps2] at p1
                     have HRS := hidm (show 104 < r.length from by have := HPS.out; have := HPS2.out; omega)
                     clear hp1 hps2
                     have HRES := hidm (HI.out.res.trans ((congrArg (fun k => rd (plF 0 d.f) g.turn least k i _ acc) HSUC.out).trans (rd_short HPL.out HUNR.out (by have := HT9.out; omega) (by have := HI9.out; omega) (by decide) (.inr (.inl HRS.out)))))
                     clear HI
                     go_wp2_with fail
                     all_goals go_ret3
                     all_goals exact ⟨by rw [HRES.out]; rfl, HB9.out⟩
                   · have p1 : ¬ (100 : Int) < (ps : Int) := by omega
                     by_cases hp10 : ps = 100
                     · have p10 : ((ps : Int) != 100) = false := by rw [hp10]; rfl
                       rw [hps2] at p1 p10
                       have HP1 := hidm (show ps ≤ 100 from by omega)
                       have HP10 := hidm hp10
                       clear hp10 hp1 hps2
                       have HTH := hidm (pl_there HPL.out HUNR.out (by have := HT9.out; omega) (by have := HI9.out; omega) (by decide) HR4.out (by have := HPS.out; have := HPS2.out; have := HP1.out; omega) (fun _ => by have := HPS.out; have := HPS2.out; have := HP10.out; omega))
                       have HTK0 := hidm (show decide ((⟨t0, 1 == 1, r.take 4, r.drop 4⟩ : Pl).turn < least) = false ∧ decide (g.turn < (⟨t0, 1 == 1, r.take 4, r.drop 4⟩ : Pl).turn) = false from ⟨decide_eq_false HTL.out, decide_eq_false HTT.out⟩)
                       have HTK := hidm (show tkD g.turn least none (⟨t0, 1 == 1, r.take 4, r.drop 4⟩ : Pl) = true from by
                         unfold tkD
                         rw [HTK0.out.1, HTK0.out.2]
                         rfl)
                       obtain ⟨ac2, hac2⟩ : ∃ x, x = S acc ++ pa := ⟨_, rfl⟩
                       have HAC := hidm (show ac2 = S (acc ++ r.drop 4) from by rw [hac2, HPA.out, S_append])
                       have hal : acc.length ≤ 100 * i := HI.out.len
                       have z1 : ¬ 9223372036854775807 < (S acc).size + pa.size := by rw [S_size, ← HPS2.out]; have := HP1.out; have := HI9.out; omega
                       have ha2 := hac2.symm
                       have HAL := hidm (show (acc ++ r.drop 4).length ≤ 100 * (i + 1) from by rw [List.length_append, List.length_drop]; have := HPS.out; have := HPS2.out; have := HP1.out; omega)
                       clear hac2 hal
                       have HN2 := hidm (HI.out.res.trans ((congrArg (fun k => rd (plF 0 d.f) g.turn least k i none acc) (show gn - i = (gn - (i + 1)) + 1 by have := HI9.out; omega)).trans (rd_more HTH.out HTK.out rfl)))
                       clear HI
                       go_wp2_with fail
                       go_roundw
                       case rel => exact ⟨i9, acc ++ r.drop 4, some ⟨t0, 1 == 1, r.take 4, r.drop 4⟩, by rw [HAC.out], by rw [HMI.out]; rfl, rfl, rfl, by have := HI9.out; have := HII.out; omega, hidm ⟨by have := HII.out; have := HAT.out; omega, ⟨(fun e => by cases e), (fun e => by have := HII.out; have := HAT.out; omega)⟩, by rw [HII.out]; exact HAL.out, by rw [HII.out]; exact HN2.out, HB9.out⟩⟩
                       case measure => have := HII.out; have := HI9.out; simp [intOf]; omega
                     · have p10 : ((ps : Int) != 100) = true := by simp; omega
                       rw [hps2] at p1 p10
                       have HRS := hidm (show r.length ≠ 104 from by have := HPS.out; have := HPS2.out; omega)
                       clear hp10 hp1 hps2
                       have HRES := hidm (HI.out.res.trans ((congrArg (fun k => rd (plF 0 d.f) g.turn least k i _ acc) HSUC.out).trans (rd_short HPL.out HUNR.out (by have := HT9.out; omega) (by have := HI9.out; omega) (by decide) (.inr (.inr ⟨rfl, HRS.out⟩)))))
                       clear HI
                       go_wp2_with fail
                       all_goals go_ret3
                       all_goals exact ⟨by rw [HRES.out]; rfl, HB9.out⟩
     · have e0 : i ≠ at0 := fun e => by have := HI.out.first.2 e; cases this
       have x0 : (at0 : Int) < (i : Int) := by have := HAT.out; omega
       obtain ⟨qt, hqt⟩ : ∃ x, x = nowOf (some q) := ⟨_, rfl⟩
       rw [← hqt]
       have HQT := hidm (show qt = q.turn from hqt)
       obtain ⟨wn, hwn⟩ : ∃ x, x = S (wantOf (some q)) := ⟨_, rfl⟩
       rw [← hwn]
       have HWN := hidm (show wn = S q.sum from hwn)
       clear e0 hi9 hkk hdd hde hlt hi hqt hwn
       go_upto_region 7 with fail
       refine wp_region_held_drew (S := fun u => u.cell? ⟨M, 0, none⟩ = some (.pointer (some ⟨R, 0, none⟩)) ∧ u.cell? ⟨M, 1, none⟩ = some (.int .i64 0)) (by kernel_rfl) ⟨HD.out.c0, HD.out.c1⟩ (fun hHeld => ?_)
       refine Man.t1 0 hHeld ?_
       (try simp only [Act.put, Mqa, Mqb, Mqc])
       refine Man.t1 1 hHeld ?_
       (try simp only [Act.put, Mqa, Mqb, Mqc])
       refine Man.t1 2 hHeld ?_
       (try simp only [Act.put, Mqa, Mqb, Mqc])
       refine Man.t1 3 hHeld ?_
       (try simp only [Act.put, Mqa, Mqb, Mqc])
       refine Man.t1 4 hHeld ?_
       (try simp only [Act.put, Mqa, Mqb, Mqc])
       refine Man.t1 5 hHeld ?_
       (try simp only [Act.put, Mqa, Mqb, Mqc])
       refine Man.t1 6 hHeld ?_
       (try simp only [Act.put, Mqa, Mqb, Mqc])
       refine Man.t1 7 hHeld ?_
       (try simp only [Act.put, Mqa, Mqb, Mqc])
       refine Man.t1 8 hHeld ?_
       (try simp only [Act.put, Mqa, Mqb, Mqc])
       refine Man.t1 9 hHeld ?_
       (try simp only [Act.put, Mqa, Mqb, Mqc])
       refine Man.t1 10 hHeld ?_
       (try simp only [Act.put, Mqa, Mqb, Mqc])
       refine Man.one (i := 11) rfl (by kernel_rfl) (fun K hK => ?_)
       go_simp
       with_reducible refine (rl_read HD.out kk HK2.out).mono ?_
       rintro e w1 ⟨rfl, hb1⟩
       have H1 := hidm (HD.out.later hb1)
       have HB1 := hidm (HBD.out.trans (hb1.mono HBD.out.size))
       clear hb1
       refine hK.out _ _ ⟨H1.out.c0, H1.out.c1⟩ (fun hNew => ?_)
       clear hK K hHeld
       have hHeld := hNew
       clear hNew
       skip
       refine Man.t1 12 hHeld ?_
       (try simp only [Act.put, Mqa, Mqb, Mqc])
       refine Man.t1 13 hHeld ?_
       (try simp only [Act.put, Mqa, Mqb, Mqc])
       refine Man.t1 14 hHeld ?_
       (try simp only [Act.put, Mqa, Mqb, Mqc])
       refine Man.t1 15 hHeld ?_
       (try simp only [Act.put, Mqa, Mqb, Mqc])
       refine Man.t1 16 hHeld ?_
       (try simp only [Act.put, Mqa, Mqb, Mqc])
       refine wpAnyH_done (by kernel_rfl) ?_ _
       clear hHeld HD HBD
       obtain ⟨X, hX⟩ : ∃ X, X = S (d.f kk) := ⟨_, rfl⟩
       have hXs : X.size = 128 := by rw [hX, S_size]; exact HFL.out kk
       have HXL := hidm (show X.data.toList = d.f kk from by rw [hX])
       have HPL := hidm (show plF 0 d.f i = plP (d.f kk) i from by unfold plF; rw [HKK.out, Nat.zero_add])
       rw [← hX]
       clear hX
       have US := hidm (fun w => Wal.runseal_any X (by omega) w)
       rw [HXL.out] at US
       rcases hun : un (d.f kk) with _ | b
       · have HUN := hidm hun
         rw [hun] at US
         clear hun
         go_wp2_with fail
         with_reducible refine (US.out _).mono ?_
         rintro e w3 ⟨rfl, hb3⟩
         have HB3 := hidm (HB1.out.trans (hb3.mono HB1.out.size))
         clear hb3
         obtain ⟨z, hz⟩ : ∃ z, z = S ([] : List UInt8) := ⟨_, rfl⟩
         rw [show S ((none : Option (List UInt8)).getD []) = z from hz.symm]
         have UT := hidm (fun w => rturn_any z (by rw [hz]; decide) w)
         have hzt : turnI (turnB z.data.toList) = -1 := by rw [hz]; rfl
         rw [hzt] at UT
         clear hz hzt
         go_wp2_with fail
         with_reducible refine (UT.out _).mono ?_
         rintro e w4 ⟨rfl, hb4⟩
         have HB4 := hidm (HB3.out.trans (hb4.mono HB3.out.size))
         clear hb4
         have HRES := hidm (HI.out.res.trans ((congrArg (fun k => rd (plF 0 d.f) g.turn least k i _ acc) HSUC.out).trans (rd_none (HPL.out.trans (plP_no HUN.out)))))
         clear HI
         go_wp2_with fail
         all_goals go_ret3
         all_goals exact ⟨by rw [HRES.out]; rfl, HB4.out⟩
       · have HUN := hidm hun
         have hbl := un_len hun
         have HBL := hidm hbl
         rw [hun] at US
         have US2 : Hid (∀ w, Calls Tryz.prog 127 #[.string X] w fun e w' => e = .returned (.tuple #[.string (S b), .bool true]) ∧ Below w.heap.size w w') := US
         clear hun US
         go_wp2_with fail
         with_reducible refine (US2.out _).mono ?_
         rintro e w3 ⟨rfl, hb3⟩
         have HB3 := hidm (HB1.out.trans (hb3.mono HB1.out.size))
         clear hb3
         have UT := hidm (fun w => rturn_any (S b) (by rw [S_size]; omega) w)
         have UT2 : Hid (∀ w, Calls Tryz.prog 129 #[.string (S b)] w fun e w' => e = .returned (.int .i64 (turnI (turnB b))) ∧ Below w.heap.size w w') := UT
         clear UT hbl
         rcases htb : turnB b with _ | t0
         · have HTB := hidm htb
           rw [htb] at UT2
           have e1 : turnI none = -1 := rfl
           rw [e1] at UT2
           have x1 : (-1 : Int) < (least : Int) := by omega
           clear htb e1
           go_wp2_with fail
           with_reducible refine (UT2.out _).mono ?_
           rintro e w4 ⟨rfl, hb4⟩
           have HB4 := hidm (HB3.out.trans (hb4.mono HB3.out.size))
           clear hb4
           have HRES := hidm (HI.out.res.trans ((congrArg (fun k => rd (plF 0 d.f) g.turn least k i _ acc) HSUC.out).trans (rd_turnless HPL.out HUN.out HTB.out HTOP.out)))
           clear HI
           go_wp2_with fail
           all_goals go_ret3
           all_goals exact ⟨by rw [HRES.out]; rfl, HB4.out⟩
         · have HTB := hidm htb
           rw [htb] at UT2
           have e1 : turnI (some t0) = (t0 : Int) := rfl
           rw [e1] at UT2
           have HT9 := hidm (turn_le htb)
           have HH0 := hidm (headB_len (t := t0) (i := i) (m := 0) (by have := turn_le htb; omega) (by have := HI9.out; omega) (by decide))
           have HH1 := hidm (headB_len (t := t0) (i := i) (m := 1) (by have := turn_le htb; omega) (by have := HI9.out; omega) (by decide))
           clear htb e1
           go_wp2_with fail
           with_reducible refine (UT2.out _).mono ?_
           rintro e w4 ⟨rfl, hb4⟩
           have HB4 := hidm (HB3.out.trans (hb4.mono HB3.out.size))
           clear hb4
           clear UT2 US2
           have c3 := (HG.out.later HB4.out).c3
           by_cases hl1 : t0 < least
           · have x1 : (t0 : Int) < (least : Int) := by omega
             have HTL := hidm hl1
             clear hl1
             have HRES := hidm (HI.out.res.trans ((congrArg (fun k => rd (plF 0 d.f) g.turn least k i _ acc) HSUC.out).trans (rd_turn HPL.out HUN.out HTB.out (.inl HTL.out))))
             clear HI
             go_wp2_with fail
             all_goals go_ret3
             all_goals exact ⟨by rw [HRES.out]; rfl, HB4.out⟩
           · have x1 : ¬ (t0 : Int) < (least : Int) := by omega
             have HTL := hidm hl1
             clear hl1
             by_cases hl2 : g.turn < t0
             · have x2 : (g.turn : Int) < (t0 : Int) := by omega
               have HTT := hidm hl2
               clear hl2
               have HRES := hidm (HI.out.res.trans ((congrArg (fun k => rd (plF 0 d.f) g.turn least k i _ acc) HSUC.out).trans (rd_turn HPL.out HUN.out HTB.out (.inr (.inl HTT.out)))))
               clear HI
               go_wp2_with fail
               all_goals go_ret3
               all_goals exact ⟨by rw [HRES.out]; rfl, HB4.out⟩
             · have x2 : ¬ (g.turn : Int) < (t0 : Int) := by omega
               have HTT := hidm hl2
               clear hl2
               by_cases hl3 : t0 = qt
               · have HTQ := hidm (show t0 = q.turn from hl3.trans HQT.out)
                 subst hl3
                 go_wp2_with fail
                 with_reducible refine ((rplace_1 t0 i (by have := HT9.out; omega) (by have := HI9.out; omega) _)).mono ?_
                 rintro e w5 ⟨rfl, hb5⟩
                 have HB5 := hidm (HB4.out.trans (hb5.mono HB4.out.size))
                 clear hb5
                 go_wp2_with fail
                 with_reducible refine (rhas_any (S b) (S (headB t0 i 1)) (by rw [S_size]; have := HH1.out; omega) _).mono ?_
                 rintro e w6 ⟨rfl, hb6⟩
                 have HB6 := hidm (HB5.out.trans (hb6.mono HB5.out.size))
                 clear hb6
                 rcases h1 : hasB (S b) (S (headB t0 i 1)) with _ | _
                 · rcases h0 : hasB (S b) (S (headB t0 i 0)) with _ | _
                   · have HHN := hidm (And.intro h0 h1)
                     have hh0 := h0
                     clear h1
                     go_wp2_with fail
                     with_reducible refine ((rplace_0 t0 i (by have := HT9.out; omega) (by have := HI9.out; omega) _)).mono ?_
                     rintro e w7 ⟨rfl, hb7⟩
                     have HB7 := hidm (HB6.out.trans (hb7.mono HB6.out.size))
                     clear hb7
                     go_wp2_with fail
                     with_reducible refine (rhas_any (S b) (S (headB t0 i 0)) (by rw [S_size]; have := HH0.out; omega) _).mono ?_
                     rintro e w8 ⟨rfl, hb8⟩
                     have HB8 := hidm (HB7.out.trans (hb8.mono HB7.out.size))
                     clear hb8
                     rw [hh0]
                     clear hh0 h0
                     have HRES := hidm (HI.out.res.trans ((congrArg (fun k => rd (plF 0 d.f) g.turn least k i _ acc) HSUC.out).trans (rd_headless HPL.out HUN.out HTB.out HHN.out.1 HHN.out.2)))
                     clear HI
                     go_wp2_with fail
                     all_goals go_ret3
                     all_goals exact ⟨by rw [HRES.out]; rfl, HB8.out⟩
                   · have hh0 := h0
                     clear h1
                     obtain ⟨r, hr⟩ := hasB_iff.1 h0
                     have HBR := hidm hr
                     have HUNR := hidm (HUN.out.trans (congrArg some hr))
                     obtain ⟨hl, hhl⟩ : ∃ n, n = (headB t0 i 0).length := ⟨_, rfl⟩
                     have HHL := hidm hhl.symm
                     have HHL2 := hidm (show hl ≤ 31 from by rw [hhl]; exact HH0.out)
                     clear hr hhl
                     go_wp2_with fail
                     with_reducible refine ((rplace_0 t0 i (by have := HT9.out; omega) (by have := HI9.out; omega) _)).mono ?_
                     rintro e w7 ⟨rfl, hb7⟩
                     have HB7 := hidm (HB6.out.trans (hb7.mono HB6.out.size))
                     clear hb7
                     go_wp2_with fail
                     with_reducible refine (rhas_any (S b) (S (headB t0 i 0)) (by rw [S_size]; have := HH0.out; omega) _).mono ?_
                     rintro e w8 ⟨rfl, hb8⟩
                     have HB8 := hidm (HB7.out.trans (hb8.mono HB7.out.size))
                     clear hb8
                     rw [hh0]
                     clear hh0 h0
                     have hbs : (S b).size = hl + r.length := by rw [S_size, HBR.out, List.length_append, HHL.out]
                     have hhs : (S (headB t0 i 0)).size = hl := by rw [S_size, HHL.out]
                     obtain ⟨B, hB⟩ : ∃ B, B = S b := ⟨_, rfl⟩
                     obtain ⟨HD0, hHD0⟩ : ∃ B, B = S (headB t0 i 0) := ⟨_, rfl⟩
                     rw [← hB] at hbs
                     rw [← hHD0] at hhs
                     rw [← hB, ← hHD0]
                     have HBB := hidm hB
                     clear hB hHD0
                     obtain ⟨rl, hrl⟩ : ∃ n, n = r.length := ⟨_, rfl⟩
                     have HRL2 := hidm hrl
                     rw [← hrl] at hbs
                     have hrl9 : rl ≤ 1000 := by have := HBL.out; rw [HBR.out, List.length_append] at this; omega
                     have hl9 : hl ≤ 31 := HHL2.out
                     clear hrl
                     have q1 : (hl : Int) + 4 = ((hl + 4 : Nat) : Int) := by omega
                     obtain ⟨h4, hh4⟩ : ∃ n, n = hl + 4 := ⟨_, rfl⟩
                     rw [← hh4] at q1
                     have q1w : IntKind.i64.wrap (h4 : Int) = (h4 : Int) := by simp only [IntKind.wrap_i64]; omega
                     by_cases hr4 : rl < 4
                     · have r1 : (B.size : Int) < (h4 : Int) := by omega
                       have HRS := hidm (show r.length < 4 from by rw [← HRL2.out]; exact hr4)
                       clear hr4 hh4 hbs
                       have HRES := hidm (HI.out.res.trans ((congrArg (fun k => rd (plF 0 d.f) g.turn least k i _ acc) HSUC.out).trans (rd_short HPL.out (HUNR.out) (by have := HT9.out; omega) (by have := HI9.out; omega) (by decide) (.inl HRS.out))))
                       clear HI
                       go_wp2_with fail
                       all_goals go_ret3
                       all_goals exact ⟨by rw [HRES.out]; rfl, HB8.out⟩
                     · have r1 : ¬ (B.size : Int) < (h4 : Int) := by omega
                       have r2 : ¬ (B.size : Int) < (hl : Int) := by omega
                       have r3 : ¬ (h4 : Int) < (hl : Int) := by omega
                       obtain ⟨mi, hmi⟩ : ∃ x, x = B.extract hl h4 := ⟨_, rfl⟩
                       obtain ⟨pa, hpa⟩ : ∃ x, x = B.extract h4 B.size := ⟨_, rfl⟩
                       have HMI := hidm (show mi = S (r.take 4) from by
                         rw [hmi, hh4, Cod.cut_bytes, HBB.out]
                         show S (((b).drop hl).take 4) = _
                         rw [HBR.out, List.drop_append_of_le_length (by rw [HHL.out]; exact Nat.le_refl _), List.drop_of_length_le (by rw [HHL.out]; exact Nat.le_refl _), List.nil_append])
                       have HPA := hidm (show pa = S (r.drop 4) from by
                         have h9 := Cod.cut_bytes B h4 (B.size - h4)
                         rw [show h4 + (B.size - h4) = B.size by omega] at h9
                         rw [hpa, h9, HBB.out]
                         show S (((b).drop h4).take _) = _
                         rw [HBR.out, hh4, ← List.drop_drop, List.drop_append_of_le_length (by rw [HHL.out]; exact Nat.le_refl _), show List.drop hl (headB t0 i 0) = [] from List.drop_of_length_le (by rw [HHL.out]; exact Nat.le_refl _), List.nil_append, List.take_of_length_le (by rw [S_size, List.length_append, HHL.out, List.length_drop]; omega)])
                       have hps : pa.size = rl - 4 := by rw [HPA.out, S_size, List.length_drop, ← HRL2.out]
                       have hms : mi.size = 4 := by rw [HMI.out, S_size, List.length_take, ← HRL2.out]; omega
                       have hm2 := hmi.symm
                       have hp2 := hpa.symm
                       have HR4 := hidm (show 4 ≤ r.length from by rw [← HRL2.out]; omega)
                       have HPS := hidm (show pa.size = r.length - 4 from by rw [hps, HRL2.out])
                       obtain ⟨ps, hps2⟩ : ∃ n, n = pa.size := ⟨_, rfl⟩
                       have HPS2 := hidm hps2
                       clear hmi hpa hr4 hh4 hbs hps hms
                       by_cases hp1 : 100 < ps
                       · have p1 : (100 : Int) < (ps : Int) := by omega
                         rw [hps2] at p1
                         have HRS := hidm (show 104 < r.length from by have := HPS.out; have := HPS2.out; omega)
                         clear hp1 hps2
                         have HRES := hidm (HI.out.res.trans ((congrArg (fun k => rd (plF 0 d.f) g.turn least k i _ acc) HSUC.out).trans (rd_short HPL.out HUNR.out (by have := HT9.out; omega) (by have := HI9.out; omega) (by decide) (.inr (.inl HRS.out)))))
                         clear HI
                         go_wp2_with fail
                         all_goals go_ret3
                         all_goals exact ⟨by rw [HRES.out]; rfl, HB8.out⟩
                       · have p1 : ¬ (100 : Int) < (ps : Int) := by omega
                         rw [hps2] at p1
                         have HP1 := hidm (show ps ≤ 100 from by omega)
                         clear hp1 hps2
                         have HTH := hidm (pl_there HPL.out HUNR.out (by have := HT9.out; omega) (by have := HI9.out; omega) (by decide) HR4.out (by have := HPS.out; have := HPS2.out; have := HP1.out; omega) (fun e => by cases e))
                         have HTK0 := hidm (show decide ((⟨t0, 0 == 1, r.take 4, r.drop 4⟩ : Pl).turn < least) = false ∧ decide (g.turn < (⟨t0, 0 == 1, r.take 4, r.drop 4⟩ : Pl).turn) = false from ⟨decide_eq_false HTL.out, decide_eq_false HTT.out⟩)
                         by_cases hmq : r.take 4 = q.sum
                         · have HMQ := hidm hmq
                           have s1 : (mi.toList == wn.toList) = true := by rw [HMI.out, HWN.out, hmq]; simp
                           clear hmq
                           by_cases hpe : r.drop 4 = []
                           · have p0 : (pa.toList == []) = true := by rw [HPA.out, hpe, ByteArray.toList_eq]; rfl
                             have HPE := hidm hpe
                             clear hpe
                             have HTK := hidm (show tkD g.turn least (some q) (⟨t0, 0 == 1, r.take 4, r.drop 4⟩ : Pl) = false from by
                               unfold tkD
                               simp [HPE.out])
                             have HRES := hidm (HI.out.res.trans ((congrArg (fun k => rd (plF 0 d.f) g.turn least k i _ acc) HSUC.out).trans (rd_not HTH.out HTK.out)))
                             clear HI
                             go_wp2_with fail
                             all_goals go_ret3
                             all_goals exact ⟨by rw [HRES.out]; rfl, HB8.out⟩
                           · have p0 : (pa.toList == []) = false := by
                               rw [HPA.out, ByteArray.toList_eq]
                               simpa using hpe
                             have HPE := hidm hpe
                             clear hpe
                             have HTK := hidm (show tkD g.turn least (some q) (⟨t0, 0 == 1, r.take 4, r.drop 4⟩ : Pl) = true from by
                               unfold tkD
                               rw [HTK0.out.1, HTK0.out.2]
                               have e8 : ((⟨t0, 0 == 1, r.take 4, r.drop 4⟩ : Pl).turn == q.turn) = true := by simpa using HTQ.out
                               have e9 : ((⟨t0, 0 == 1, r.take 4, r.drop 4⟩ : Pl).sum == q.sum) = true := by simpa using HMQ.out
                               have e7 : ((⟨t0, 0 == 1, r.take 4, r.drop 4⟩ : Pl).part == []) = false := by simpa using HPE.out
                               simp only [e8, e9, e7]
                               rfl)
                             obtain ⟨ac2, hac2⟩ : ∃ x, x = S acc ++ pa := ⟨_, rfl⟩
                             have HAC := hidm (show ac2 = S (acc ++ r.drop 4) from by rw [hac2, HPA.out, S_append])
                             have hal : acc.length ≤ 100 * i := HI.out.len
                             have z1 : ¬ 9223372036854775807 < (S acc).size + pa.size := by rw [S_size, ← HPS2.out]; have := HP1.out; have := HI9.out; omega
                             have ha2 := hac2.symm
                             have HAL := hidm (show (acc ++ r.drop 4).length ≤ 100 * (i + 1) from by rw [List.length_append, List.length_drop]; have := HPS.out; have := HPS2.out; have := HP1.out; omega)
                             clear hac2 hal
                             have HN2 := hidm (HI.out.res.trans ((congrArg (fun k => rd (plF 0 d.f) g.turn least k i (some q) acc) (show gn - i = (gn - (i + 1)) + 1 by have := HI9.out; omega)).trans (rd_last HTH.out HTK.out rfl)))
                             clear HI
                             have U9 := hidm (fun w => rsum_any ac2 (by rw [HAC.out, S_size]; have := HAL.out; have := HI9.out; omega) w)
                             go_wp2_with fail
                             with_reducible refine (U9.out _).mono ?_
                             rintro e w9 ⟨rfl, hb9⟩
                             have HB9 := hidm (HB8.out.trans (hb9.mono HB8.out.size))
                             clear hb9
                             obtain ⟨su, hsu⟩ : ∃ x, x = S (Crc.four (Crc.more 0 ac2.data.toList)) := ⟨_, rfl⟩
                             rw [← hsu]
                             have HSU := hidm (show su = S (Crc.four (Crc.more 0 (acc ++ r.drop 4))) from by rw [hsu, HAC.out])
                             clear hsu
                             by_cases hs : Crc.four (Crc.more 0 (acc ++ r.drop 4)) = r.take 4
                             · have HS9 := hidm hs
                               have y1 : (su.toList == mi.toList) = true := by rw [HSU.out, HMI.out, hs]; simp
                               have HR9 := hidm (HN2.out.trans (if_pos HS9.out))
                               clear hs HN2
                               go_wp2_with fail
                               go_ret3
                               exact ⟨by rw [HR9.out, HAC.out]; show _ = Ending.returned (.tuple #[.string (S (acc ++ r.drop 4)), .int .i64 ((i + 1 - at0 : Nat) : Int), .int .i64 (t0 : Int)]); rw [show i + 1 - at0 = i - at0 + 1 by have := HAT.out; omega]; rw [← HDD.out, ← HDE.out]; rfl, HB9.out⟩
                             · have HS9 := hidm hs
                               have y1 : (su.toList == mi.toList) = false := Crc.beq_no (by rw [HSU.out, HMI.out]; exact fun e => HS9.out (by have := congrArg (fun z => z.data.toList) e; simpa using this))
                               have HR9 := hidm (HN2.out.trans (if_neg HS9.out))
                               clear hs HN2
                               go_wp2_with fail
                               go_ret3
                               exact ⟨by rw [HR9.out]; rfl, HB9.out⟩
                         · have HMQ := hidm hmq
                           have s1 : (mi.toList == wn.toList) = false := Crc.beq_no (by rw [HMI.out, HWN.out]; exact fun e => HMQ.out (by have := congrArg (fun z => z.data.toList) e; simpa using this))
                           clear hmq
                           have HTK := hidm (show tkD g.turn least (some q) (⟨t0, 0 == 1, r.take 4, r.drop 4⟩ : Pl) = false from by
                             unfold tkD
                             have e9 : ((⟨t0, 0 == 1, r.take 4, r.drop 4⟩ : Pl).sum == q.sum) = false := by simpa using HMQ.out
                             simp [e9])
                           have HRES := hidm (HI.out.res.trans ((congrArg (fun k => rd (plF 0 d.f) g.turn least k i _ acc) HSUC.out).trans (rd_not HTH.out HTK.out)))
                           clear HI
                           go_wp2_with fail
                           all_goals go_ret3
                           all_goals exact ⟨by rw [HRES.out]; rfl, HB8.out⟩
                 · have hh1 := h1
                   obtain ⟨r, hr⟩ := hasB_iff.1 h1
                   have HBR := hidm hr
                   have HUNR := hidm (HUN.out.trans (congrArg some hr))
                   obtain ⟨hl, hhl⟩ : ∃ n, n = (headB t0 i 1).length := ⟨_, rfl⟩
                   have HHL := hidm hhl.symm
                   have HHL2 := hidm (show hl ≤ 31 from by rw [hhl]; exact HH1.out)
                   clear hr hhl
                   go_wp2_with fail
                   with_reducible refine ((rplace_0 t0 i (by have := HT9.out; omega) (by have := HI9.out; omega) _)).mono ?_
                   rintro e w7 ⟨rfl, hb7⟩
                   have HB7 := hidm (HB6.out.trans (hb7.mono HB6.out.size))
                   clear hb7
                   go_wp2_with fail
                   with_reducible refine ((rplace_1 t0 i (by have := HT9.out; omega) (by have := HI9.out; omega) _)).mono ?_
                   rintro e w8 ⟨rfl, hb8⟩
                   have HB8 := hidm (HB7.out.trans (hb8.mono HB7.out.size))
                   clear hb8
                   go_wp2_with fail
                   with_reducible refine (rhas_any (S b) (S (headB t0 i 1)) (by rw [S_size]; have := HH1.out; omega) _).mono ?_
                   rintro e w9 ⟨rfl, hb9⟩
                   have HB9 := hidm (HB8.out.trans (hb9.mono HB8.out.size))
                   clear hb9
                   rw [hh1]
                   clear hh1 h1
                   have hbs : (S b).size = hl + r.length := by rw [S_size, HBR.out, List.length_append, HHL.out]
                   have hhs : (S (headB t0 i 1)).size = hl := by rw [S_size, HHL.out]
                   obtain ⟨B, hB⟩ : ∃ B, B = S b := ⟨_, rfl⟩
                   obtain ⟨HD0, hHD0⟩ : ∃ B, B = S (headB t0 i 1) := ⟨_, rfl⟩
                   rw [← hB] at hbs
                   rw [← hHD0] at hhs
                   rw [← hB, ← hHD0]
                   have HBB := hidm hB
                   clear hB hHD0
                   obtain ⟨rl, hrl⟩ : ∃ n, n = r.length := ⟨_, rfl⟩
                   have HRL2 := hidm hrl
                   rw [← hrl] at hbs
                   have hrl9 : rl ≤ 1000 := by have := HBL.out; rw [HBR.out, List.length_append] at this; omega
                   have hl9 : hl ≤ 31 := HHL2.out
                   clear hrl
                   have q1 : (hl : Int) + 4 = ((hl + 4 : Nat) : Int) := by omega
                   obtain ⟨h4, hh4⟩ : ∃ n, n = hl + 4 := ⟨_, rfl⟩
                   rw [← hh4] at q1
                   have q1w : IntKind.i64.wrap (h4 : Int) = (h4 : Int) := by simp only [IntKind.wrap_i64]; omega
                   by_cases hr4 : rl < 4
                   · have r1 : (B.size : Int) < (h4 : Int) := by omega
                     have HRS := hidm (show r.length < 4 from by rw [← HRL2.out]; exact hr4)
                     clear hr4 hh4 hbs
                     have HRES := hidm (HI.out.res.trans ((congrArg (fun k => rd (plF 0 d.f) g.turn least k i _ acc) HSUC.out).trans (rd_short HPL.out (HUNR.out) (by have := HT9.out; omega) (by have := HI9.out; omega) (by decide) (.inl HRS.out))))
                     clear HI
                     go_wp2_with fail
                     all_goals go_ret3
                     all_goals exact ⟨by rw [HRES.out]; rfl, HB9.out⟩
                   · have r1 : ¬ (B.size : Int) < (h4 : Int) := by omega
                     have r2 : ¬ (B.size : Int) < (hl : Int) := by omega
                     have r3 : ¬ (h4 : Int) < (hl : Int) := by omega
                     obtain ⟨mi, hmi⟩ : ∃ x, x = B.extract hl h4 := ⟨_, rfl⟩
                     obtain ⟨pa, hpa⟩ : ∃ x, x = B.extract h4 B.size := ⟨_, rfl⟩
                     have HMI := hidm (show mi = S (r.take 4) from by
                       rw [hmi, hh4, Cod.cut_bytes, HBB.out]
                       show S (((b).drop hl).take 4) = _
                       rw [HBR.out, List.drop_append_of_le_length (by rw [HHL.out]; exact Nat.le_refl _), List.drop_of_length_le (by rw [HHL.out]; exact Nat.le_refl _), List.nil_append])
                     have HPA := hidm (show pa = S (r.drop 4) from by
                       have h9 := Cod.cut_bytes B h4 (B.size - h4)
                       rw [show h4 + (B.size - h4) = B.size by omega] at h9
                       rw [hpa, h9, HBB.out]
                       show S (((b).drop h4).take _) = _
                       rw [HBR.out, hh4, ← List.drop_drop, List.drop_append_of_le_length (by rw [HHL.out]; exact Nat.le_refl _), show List.drop hl (headB t0 i 1) = [] from List.drop_of_length_le (by rw [HHL.out]; exact Nat.le_refl _), List.nil_append, List.take_of_length_le (by rw [S_size, List.length_append, HHL.out, List.length_drop]; omega)])
                     have hps : pa.size = rl - 4 := by rw [HPA.out, S_size, List.length_drop, ← HRL2.out]
                     have hms : mi.size = 4 := by rw [HMI.out, S_size, List.length_take, ← HRL2.out]; omega
                     have hm2 := hmi.symm
                     have hp2 := hpa.symm
                     have HR4 := hidm (show 4 ≤ r.length from by rw [← HRL2.out]; omega)
                     have HPS := hidm (show pa.size = r.length - 4 from by rw [hps, HRL2.out])
                     obtain ⟨ps, hps2⟩ : ∃ n, n = pa.size := ⟨_, rfl⟩
                     have HPS2 := hidm hps2
                     clear hmi hpa hr4 hh4 hbs hps hms
                     by_cases hp1 : 100 < ps
                     · have p1 : (100 : Int) < (ps : Int) := by omega
                       rw [hps2] at p1
                       have HRS := hidm (show 104 < r.length from by have := HPS.out; have := HPS2.out; omega)
                       clear hp1 hps2
                       have HRES := hidm (HI.out.res.trans ((congrArg (fun k => rd (plF 0 d.f) g.turn least k i _ acc) HSUC.out).trans (rd_short HPL.out HUNR.out (by have := HT9.out; omega) (by have := HI9.out; omega) (by decide) (.inr (.inl HRS.out)))))
                       clear HI
                       go_wp2_with fail
                       all_goals go_ret3
                       all_goals exact ⟨by rw [HRES.out]; rfl, HB9.out⟩
                     · have p1 : ¬ (100 : Int) < (ps : Int) := by omega
                       by_cases hp10 : ps = 100
                       · have p10 : ((ps : Int) != 100) = false := by rw [hp10]; rfl
                         rw [hps2] at p1 p10
                         have HP1 := hidm (show ps ≤ 100 from by omega)
                         have HP10 := hidm hp10
                         clear hp10 hp1 hps2
                         have HTH := hidm (pl_there HPL.out HUNR.out (by have := HT9.out; omega) (by have := HI9.out; omega) (by decide) HR4.out (by have := HPS.out; have := HPS2.out; have := HP1.out; omega) (fun _ => by have := HPS.out; have := HPS2.out; have := HP10.out; omega))
                         have HTK0 := hidm (show decide ((⟨t0, 1 == 1, r.take 4, r.drop 4⟩ : Pl).turn < least) = false ∧ decide (g.turn < (⟨t0, 1 == 1, r.take 4, r.drop 4⟩ : Pl).turn) = false from ⟨decide_eq_false HTL.out, decide_eq_false HTT.out⟩)
                         by_cases hmq : r.take 4 = q.sum
                         · have HMQ := hidm hmq
                           have s1 : (mi.toList == wn.toList) = true := by rw [HMI.out, HWN.out, hmq]; simp
                           clear hmq
                           have HTK := hidm (show tkD g.turn least (some q) (⟨t0, 1 == 1, r.take 4, r.drop 4⟩ : Pl) = true from by
                             unfold tkD
                             rw [HTK0.out.1, HTK0.out.2]
                             have e8 : ((⟨t0, 1 == 1, r.take 4, r.drop 4⟩ : Pl).turn == q.turn) = true := by simpa using HTQ.out
                             have e9 : ((⟨t0, 1 == 1, r.take 4, r.drop 4⟩ : Pl).sum == q.sum) = true := by simpa using HMQ.out
                             simp only [e8, e9]
                             rfl)
                           obtain ⟨ac2, hac2⟩ : ∃ x, x = S acc ++ pa := ⟨_, rfl⟩
                           have HAC := hidm (show ac2 = S (acc ++ r.drop 4) from by rw [hac2, HPA.out, S_append])
                           have hal : acc.length ≤ 100 * i := HI.out.len
                           have z1 : ¬ 9223372036854775807 < (S acc).size + pa.size := by rw [S_size, ← HPS2.out]; have := HP1.out; have := HI9.out; omega
                           have ha2 := hac2.symm
                           have HAL := hidm (show (acc ++ r.drop 4).length ≤ 100 * (i + 1) from by rw [List.length_append, List.length_drop]; have := HPS.out; have := HPS2.out; have := HP1.out; omega)
                           clear hac2 hal
                           have HN2 := hidm (HI.out.res.trans ((congrArg (fun k => rd (plF 0 d.f) g.turn least k i (some q) acc) (show gn - i = (gn - (i + 1)) + 1 by have := HI9.out; omega)).trans (rd_more HTH.out HTK.out rfl)))
                           clear HI
                           go_wp2_with fail
                           go_roundw
                           case rel => exact ⟨i9, acc ++ r.drop 4, some ⟨t0, 1 == 1, r.take 4, r.drop 4⟩, by rw [HAC.out], by rw [HMI.out]; rfl, rfl, rfl, by have := HI9.out; have := HII.out; omega, hidm ⟨by have := HII.out; have := HAT.out; omega, ⟨(fun e => by cases e), (fun e => by have := HII.out; have := HAT.out; omega)⟩, by rw [HII.out]; exact HAL.out, by rw [HII.out]; exact HN2.out, HB9.out⟩⟩
                           case measure => have := HII.out; have := HI9.out; simp [intOf]; omega
                         · have HMQ := hidm hmq
                           have s1 : (mi.toList == wn.toList) = false := Crc.beq_no (by rw [HMI.out, HWN.out]; exact fun e => HMQ.out (by have := congrArg (fun z => z.data.toList) e; simpa using this))
                           clear hmq
                           have HTK := hidm (show tkD g.turn least (some q) (⟨t0, 1 == 1, r.take 4, r.drop 4⟩ : Pl) = false from by
                             unfold tkD
                             have e9 : ((⟨t0, 1 == 1, r.take 4, r.drop 4⟩ : Pl).sum == q.sum) = false := by simpa using HMQ.out
                             simp [e9])
                           have HRES := hidm (HI.out.res.trans ((congrArg (fun k => rd (plF 0 d.f) g.turn least k i _ acc) HSUC.out).trans (rd_not HTH.out HTK.out)))
                           clear HI
                           go_wp2_with fail
                           all_goals go_ret3
                           all_goals exact ⟨by rw [HRES.out]; rfl, HB9.out⟩
                       · have p10 : ((ps : Int) != 100) = true := by simp; omega
                         rw [hps2] at p1 p10
                         have HRS := hidm (show r.length ≠ 104 from by have := HPS.out; have := HPS2.out; omega)
                         clear hp10 hp1 hps2
                         have HRES := hidm (HI.out.res.trans ((congrArg (fun k => rd (plF 0 d.f) g.turn least k i _ acc) HSUC.out).trans (rd_short HPL.out HUNR.out (by have := HT9.out; omega) (by have := HI9.out; omega) (by decide) (.inr (.inr ⟨rfl, HRS.out⟩)))))
                         clear HI
                         go_wp2_with fail
                         all_goals go_ret3
                         all_goals exact ⟨by rw [HRES.out]; rfl, HB9.out⟩
               · have HTQ := hidm (show t0 ≠ q.turn from fun e => hl3 (e.trans HQT.out.symm))
                 have x3 : ((t0 : Int) != (qt : Int)) = true := by simp; omega
                 have x3b : ¬ (t0 : Int) = (qt : Int) := by omega
                 clear hl3
                 have HRES := hidm (HI.out.res.trans ((congrArg (fun k => rd (plF 0 d.f) g.turn least k i _ acc) HSUC.out).trans (rd_turn HPL.out HUN.out HTB.out (.inr (.inr ⟨q, rfl, HTQ.out⟩)))))
                 clear HI
                 go_wp2_with fail
                 all_goals go_ret3
                 all_goals exact ⟨by rw [HRES.out]; rfl, HB4.out⟩
   · obtain rfl : i = gn := by omega
     have g1 : ¬ (i : Int) < (i : Int) := by omega
     have HB0 := hidm HI.out.bel
     have HRES := hidm (show res = none from by rw [HI.out.res, Nat.sub_self]; rfl)
     clear HI
     go_wp2_with fail
     go_ret3
     exact ⟨by rw [HRES.out]; rfl, HB0.out⟩
end
end Pgr
end Go.Proofs.YtkgbemkcnahkoaaGreatDoor
