import Derived.Test.YtkgbemkcnahkoaaGreatDoorZVwto
import Derived.Lib.AppendZeros
namespace Go.Proofs.YtkgbemkcnahkoaaGreatDoor
open Go.RowKit
namespace Pgr
open Wal
open Dsk (PD RefIs Only Grow KeepQ upd pad pad_len below_keeps zeros)
open Crc (S S_of S_size)
set_option maxHeartbeats 2000000 in
set_option maxRecDepth 100000 in
theorem rbare_any (s : ByteArray) (hs : s.size ≤ 1000000) (w : World) :
   Calls Tryz.prog 140 #[.string s] w fun e w' => e = .returned (.string (S (bare s.data.toList))) ∧ w = w' := by
 obtain ⟨sz, hsz⟩ : ∃ x, x = s.size := ⟨_, rfl⟩
 have HS := hidm hsz
 have HSL := hidm (show s.data.toList.length = sz from by rw [hsz, Dsk.len_eq])
 have HSZ := hidm (show sz ≤ 1000000 from by omega)
 clear hs
 go_enter Tryz.func140, Tryz.ntmps140
 go_wp2_with fail
 go_loopw [3] (fun nn wr => ∃ n : Nat, nn = .int .i64 (n : Int) ∧ n ≤ sz ∧ Hid (∀ j (h : j < s.data.toList.length), n ≤ j → s.data.toList[j] = 0) ∧ Hid (w = wr)) (fun nn _ => (intOf nn).toNat)
 case atStart => exact ⟨sz, by rw [hsz], Nat.le_refl _, hidm (fun j h hj => by have := HSL.out; omega), hidm rfl⟩
 case round =>
   rename World => wr
   obtain ⟨n, rfl, hn, HZ, HW⟩ := hrel
   obtain ⟨ns, hns⟩ : ∃ x, x = s.extract 0 n := ⟨_, rfl⟩
   rcases n with _ | m
   · have HR := hidm (show ByteArray.empty = S (bare s.data.toList) from by
       rw [bare_cut (Nat.zero_le _) HZ.out (fun h => absurd h (Nat.lt_irrefl _))]
       rfl)
     clear hns hsz
     go_wp2_with fail
     go_ret
     exact ⟨congrArg (fun q => Ending.returned (.string q)) HR.out, HW.out⟩
   · have g1 : (0 : Int) < ((m + 1 : Nat) : Int) := by omega
     have m1 : ((m + 1 : Nat) : Int) - 1 = (m : Int) := by omega
     have m1w : IntKind.i64.wrap (m : Int) = (m : Int) := by have := HSZ.out; simp only [IntKind.wrap_i64]; omega
     have hml : m < s.size := by omega
     have hml2 : ¬ s.size ≤ m := by omega
     have hnl : ¬ s.size < m + 1 := by omega
     have HML := hidm (show m < s.data.toList.length from by rw [HSL.out]; omega)
     have HGET := hidm (show s[m] = s.data.toList[m]'HML.out from rfl)
     have HMS := hidm (show m + 1 ≤ sz ∧ m ≤ sz from by omega)
     obtain ⟨n9, hn9⟩ : ∃ x, x = m + 1 := ⟨_, rfl⟩
     have HN9 := hidm hn9
     rw [← hn9] at g1 m1 hnl ⊢
     by_cases hz : s[m] = 0
     · have z1 : ((s[m].toNat : Int) == 0) = true := by rw [hz]; rfl
       have HZ0 := hidm hz
       clear hz hn9 hsz
       go_wp2_with fail
       go_roundw
       case rel => exact ⟨m, rfl, HMS.out.2, hidm (fun j h hj => by
         rcases Nat.lt_or_ge m j with e | e
         · exact HZ.out j h (by have := HN9.out; omega)
         · have : j = m := by omega
           subst this
           rw [← HGET.out]; exact HZ0.out), HW⟩
       case measure => have := HN9.out; simp [intOf]; omega
     · have z1 : ((s[m].toNat : Int) == 0) = false := by
         rw [beq_eq_false_iff_ne]
         intro e
         apply hz
         apply UInt8.toNat_inj.1
         show s[m].toNat = 0
         omega
       have HR := hidm (show s.extract 0 n9 = S (bare s.data.toList) from by
         rw [bare_cut (n := n9) (by rw [HSL.out, HN9.out]; exact HMS.out.1) (by rw [HN9.out]; exact HZ.out) (fun h => by
           have e9 : n9 - 1 = m := by rw [HN9.out]; rfl
           have : s.data.toList[n9 - 1]'(by rw [e9]; exact HML.out) = s.data.toList[m]'HML.out := by congr 1
           rw [this, ← HGET.out]; exact hz)]
         have := Cod.cut_bytes s 0 n9
         rw [Nat.zero_add] at this
         exact this)
       clear hz hn9 hsz
       go_wp2_with fail
       go_ret
       exact ⟨congrArg (fun q => Ending.returned (.string q)) HR.out, HW.out⟩
theorem pow_succ_int (i : Nat) : (2 : Int) * ((2 ^ i : Nat) : Int) = ((2 ^ (i + 1) : Nat) : Int) := by
 rw [Nat.pow_succ]; omega
set_option maxHeartbeats 2000000 in
set_option maxRecDepth 100000 in
theorem rbit_any (k : Nat) (hk : k ≤ 100000) (w : World) :
   Calls Tryz.prog 64 #[.int .i64 (k : Int)] w fun e w' => e = .returned (.int .i64 ((2 ^ (k % 8) : Nat) : Int)) ∧ w = w' := by
 obtain ⟨r, hr⟩ : ∃ r, r = k % 8 := ⟨_, rfl⟩
 have hr8 : r < 8 := by omega
 have k1 : ((k : Int).tmod 8) = (r : Int) := by rw [Int.tmod_eq_emod_of_nonneg (by omega)]; omega
 have k1w : IntKind.i64.wrap (r : Int) = (r : Int) := by simp only [IntKind.wrap_i64]; omega
 rw [← hr]
 have HR8 := hidm hr8
 obtain ⟨p9, hp9⟩ : ∃ p, p = 2 ^ r := ⟨_, rfl⟩
 rw [← hp9]
 have HP9 := hidm hp9
 clear hr hr8 hk hp9
 go_enter Tryz.func64, Tryz.ntmps64
 go_wp2_with fail
 go_loopw [3, 4] (fun bb ii wr => ∃ i : Nat, bb = .int .i64 ((2 ^ i : Nat) : Int) ∧ ii = .int .i64 (i : Int) ∧ i ≤ r ∧ Hid (w = wr)) (fun _ ii _ => (r - (intOf ii).toNat))
 case atStart => exact ⟨0, rfl, rfl, Nat.zero_le _, hidm rfl⟩
 case round =>
   rename World => wr
   obtain ⟨i, rfl, rfl, hi, HW⟩ := hrel
   rcases Nat.lt_or_ge i r with hlt | hge
   · have g1 : (i : Int) < (r : Int) := by omega
     obtain ⟨x, hx⟩ : ∃ x, x = 2 ^ i := ⟨_, rfl⟩
     obtain ⟨y, hy⟩ : ∃ y, y = 2 ^ (i + 1) := ⟨_, rfl⟩
     have b1 : (2 : Int) * (x : Int) = (y : Int) := by rw [hx, hy]; exact pow_succ_int i
     have hy9 : y ≤ 128 := by rw [hy]; exact Nat.le_trans (Nat.pow_le_pow_right (by decide) (show i + 1 ≤ 7 by have := HR8.out; omega)) (by decide)
     have b1w : IntKind.i64.wrap (y : Int) = (y : Int) := by simp only [IntKind.wrap_i64]; omega
     obtain ⟨j, hj⟩ : ∃ j, j = i + 1 := ⟨_, rfl⟩
     have i1 : (i : Int) + 1 = (j : Int) := by omega
     have i1w : IntKind.i64.wrap (j : Int) = (j : Int) := by have := HR8.out; simp only [IntKind.wrap_i64]; omega
     have HJ := hidm hj
     have HY := hidm (show y = 2 ^ j from by rw [hy, hj])
     have HJR := hidm (show j ≤ r from by omega)
     rw [← hx]
     clear hx hy hj hy9 hlt hi
     go_wp2_with fail
     go_roundw
     case rel => exact ⟨j, by rw [← HY.out], rfl, HJR.out, HW⟩
     case measure => have := HJ.out; have := HJR.out; simp [intOf]; omega
   · obtain rfl : i = r := by omega
     have g1 : ¬ (i : Int) < (i : Int) := by omega
     obtain ⟨x, hx⟩ : ∃ x, x = 2 ^ i := ⟨_, rfl⟩
     rw [← hx]
     have HX := hidm hx
     clear hx
     go_wp2_with fail
     go_ret
     exact ⟨by rw [show p9 = x from HP9.out.trans HX.out.symm]; rfl, HW.out⟩
section
variable {X M R : Nat} {v : DV} {g : DL} {d : PD} {F : Nat → Prop} {w : World}
theorem rp_read (h : RP X M R v g d F w) (k : Nat) (hk : k < d.n) :
   Calls Tryz.prog 66 #[.pointer (some ⟨R, 0, none⟩), .int .i64 (k : Int)] w fun e w' => e = .returned (.tuple #[.string (S (d.f k)), .int .i64 0]) ∧ Below w.heap.size w w' := by
 obtain ⟨Fl, sl, h1, _⟩ := h.ex
 exact rl_read h1 k hk
set_option maxHeartbeats 2000000 in
set_option maxRecDepth 100000 in
theorem rplen_any (h : RP X M R v g d F w) :
   Calls Tryz.prog 28 #[.pointer (some ⟨X, 0, none⟩)] w fun e w' => e = .returned (.int .i64 (v.N : Int)) ∧ Below w.heap.size w w' := by
 have HDR := hidm ((Below.refl w.heap.size w).drew)
 have hd := h.later HDR.out
 obtain ⟨gb, lc, q0⟩ := hd.disk
 have c0 := hd.c0
 have c2 := hd.c2
 have hf := h.fit
 have hsz := h.sz
 obtain ⟨dn, hdn⟩ : ∃ x, x = d.n := ⟨_, rfl⟩
 obtain ⟨lg, hlg⟩ : ∃ x, x = 2 + v.n := ⟨_, rfl⟩
 obtain ⟨N, hN⟩ : ∃ x, x = v.N := ⟨_, rfl⟩
 rw [← hlg] at c2
 rw [← hdn] at q0
 rw [← hN]
 have n1 : (dn : Int) - (lg : Int) = (N : Int) := by omega
 have n1w : IntKind.i64.wrap (N : Int) = (N : Int) := by simp only [IntKind.wrap_i64]; omega
 clear hd h hf hsz hdn hlg hN
 go_enter Tryz.func28, Tryz.ntmps28
 go_upto_region 1 with fail
 refine wp_region_held_drew (S := fun u => u.cell? ⟨X, 0, none⟩ = some (.pointer (some ⟨R, 0, none⟩)) ∧ u.cell? ⟨R, 0, none⟩ = some (.slice (some ⟨gb, 0, none⟩) dn lc) ∧ u.cell? ⟨X, 2, none⟩ = some (.int .i64 (lg : Int))) (by kernel_rfl) ⟨c0, q0, c2⟩ (fun hHeld => ?_)
 clear c0 q0 c2
 refine Man.t1 0 hHeld ?_
 (try simp only [Act.put, Mqa, Mqb, Mqc])
 refine Man.t1 1 hHeld ?_
 (try simp only [Act.put, Mqa, Mqb, Mqc])
 refine Man.t1 2 hHeld ?_
 (try simp only [Act.put, Mqa, Mqb, Mqc])
 refine Man.t1 3 hHeld ?_
 (try simp only [Act.put, Mqa, Mqb, Mqc])
 refine Man.t1 4 hHeld ?_
 (try simp only [Act.put, Mqa, Mqb, Mqc])
 refine Man.t1 5 hHeld ?_
 (try simp only [Act.put, Mqa, Mqb, Mqc])
 refine Man.t1 6 hHeld ?_
 (try simp only [Act.put, Mqa, Mqb, Mqc])
 refine Man.t1 7 hHeld ?_
 (try simp only [Act.put, Mqa, Mqb, Mqc])
 refine Man.t1 8 hHeld ?_
 (try simp only [Act.put, Mqa, Mqb, Mqc])
 refine Man.t1 9 hHeld ?_
 (try simp only [Act.put, Mqa, Mqb, Mqc])
 refine Man.t1 10 hHeld ?_
 (try simp only [Act.put, Mqa, Mqb, Mqc])
 refine Man.t1 11 hHeld ?_
 (try simp only [Act.put, Mqa, Mqb, Mqc])
 refine Man.t1 12 hHeld ?_
 (try simp only [Act.put, Mqa, Mqb, Mqc])
 refine Man.t1 13 hHeld ?_
 (try simp only [Act.put, Mqa, Mqb, Mqc])
 refine wpAnyH_done (by kernel_rfl) ?_ _
 clear hHeld
 go_wp2_with fail
 go_ret
 exact ⟨rfl, HDR.out⟩
theorem look_none {k : Nat} : ∀ {ch : Ch}, (∀ j (h : j < ch.length), ch[j].1 ≠ k) → look ch k = none
 | [], _ => rfl
 | p :: ch, h => by
   have h0 := h 0 (Nat.zero_lt_succ _)
   unfold look
   rw [if_neg (by simpa using h0)]
   exact look_none (fun j hj => by
     have := h (j + 1) (by simpa using hj)
     simpa using this)
set_option maxHeartbeats 2000000 in
set_option maxRecDepth 100000 in
theorem rpread_off (h : RP X M R v g d F w) (k : Int) (hk : off v.N k) :
   Calls Tryz.prog 58 #[.pointer (some ⟨X, 0, none⟩), .int .i64 k] w fun e w' => e = .returned (.tuple #[.string ⟨#[]⟩, .int .i64 2]) ∧ Below w.heap.size w w' := by
 have U := hidm (rplen_any h)
 obtain ⟨N, hN⟩ : ∃ x, x = v.N := ⟨_, rfl⟩
 rw [← hN] at U hk
 clear h hN
 go_enter Tryz.func58, Tryz.ntmps58
 by_cases h0 : k < 0
 · go_wp2_with fail
   go_ret2
   exact ⟨rfl, Below.refl _ _⟩
 · have hk2 : (N : Int) ≤ k := by rcases hk with e | e <;> omega
   clear hk
   go_wp2_with fail
   refine U.out.mono ?_
   rintro e w1 ⟨rfl, hb⟩
   have HB := hidm hb
   clear hb
   go_wp2_with fail
   go_ret2
   exact ⟨rfl, HB.out⟩
set_option maxHeartbeats 4000000 in
set_option maxRecDepth 100000 in
theorem rpread_in (h : RP X M R v g d F w) (k : Nat) (hk : k < v.N) :
   Calls Tryz.prog 58 #[.pointer (some ⟨X, 0, none⟩), .int .i64 (k : Int)] w fun e w' => e = .returned (.tuple #[.string (S (v.see d k)), .int .i64 0]) ∧ Below w.heap.size w w' := by
 have U := hidm (rplen_any h)
 have HG := hidm h
 have hsz := h.sz
 have HF := hidm h.fit
 obtain ⟨N, hN⟩ : ∃ x, x = v.N := ⟨_, rfl⟩
 rw [← hN] at U hk
 have HK := hidm hk
 have HN := hidm hN
 have g0 : ¬ (k : Int) < 0 := by omega
 have g1 : ¬ (N : Int) ≤ (k : Int) := by omega
 obtain ⟨n, hn⟩ : ∃ x, x = v.ch.length := ⟨_, rfl⟩
 have hn24 : n ≤ 1024 := by have := h.ok.count; omega
 have HNN := hidm hn
 have HN24 := hidm (show n ≤ 1024 ∧ N ≤ 1024 ∧ v.n ≤ 998 from by omega)
 have HRI := hidm h.ok.rise
 clear h hN hk hn hsz hn24
 go_enter Tryz.func58, Tryz.ntmps58
 go_wp2_with fail
 refine U.out.mono ?_
 rintro e w1 ⟨rfl, hb⟩
 have HB := hidm hb
 clear hb U
 go_wp2_with fail
 go_loopw [6] (fun ii wr => ∃ i : Nat, ii = .int .i64 (i : Int) ∧ i ≤ n ∧ Hid (∀ j (h : j < v.ch.length), j < i → v.ch[j].1 ≠ k) ∧ Hid (w1 = wr)) (fun ii _ => (n - (intOf ii).toNat))
 case atStart => exact ⟨0, rfl, Nat.zero_le _, hidm (fun j h hj => absurd hj (Nat.not_lt_zero _)), hidm rfl⟩
 case round =>
   rename World => wr
   obtain ⟨i, rfl, hi, HL, HW⟩ := hrel
   have hw := HW.out
   subst hw
   obtain ⟨ao, cap, c3, hp, hl, hm, -⟩ := (HG.out.later HB.out).c3
   rw [← HNN.out] at c3 hp hl
   have HP := hidm hp
   rcases Nat.lt_or_ge i n with hlt | hge
   · have f1 : (i : Int) < (n : Int) := by omega
     have hic : i < v.ch.length := by rw [← HNN.out]; exact hlt
     obtain ⟨gb, cap0, e0, _, _, p0, p1⟩ := hp.at i hic
     rw [← HNN.out] at e0
     simp only [Value.slice.injEq] at e0
     obtain ⟨rfl, -, -⟩ := e0
     rw [show 2 * i = i * 2 by omega] at p0 p1
     obtain ⟨q, hq⟩ : ∃ q, q = v.ch[i].1 := ⟨_, rfl⟩
     obtain ⟨s, hs⟩ : ∃ s, s = v.ch[i].2 := ⟨_, rfl⟩
     rw [← hq] at p0
     rw [← hs] at p1
     have HQ := hidm hq
     have HME := hidm (show (q, s) ∈ v.ch from by rw [hq, hs]; exact List.getElem_mem hic)
     obtain ⟨j, hj⟩ : ∃ j, j = i + 1 := ⟨_, rfl⟩
     have i1 : (i : Int) + 1 = (j : Int) := by omega
     have i1w : IntKind.i64.wrap (j : Int) = (j : Int) := by have := HN24.out; simp only [IntKind.wrap_i64]; omega
     have HJ := hidm hj
     have HJN := hidm (show j ≤ n from by omega)
     clear hj hq hs hp
     by_cases hqk : q = k
     · have z1 : ((q : Int) == (k : Int)) = true := by rw [hqk]; simp
       have HV := hidm (show v.see d k = s from by
         unfold DV.see over
         rw [mem_look HRI.out (by rw [← hqk]; exact HME.out)]
         rfl)
       subst hqk
       go_wp2_with fail
       go_ret2
       exact ⟨by rw [HV.out]; rfl, HB.out⟩
     · have z1 : ((q : Int) == (k : Int)) = false := by rw [beq_eq_false_iff_ne]; omega
       have z2 : ¬ (q : Int) = (k : Int) := by omega
       have HQK := hidm hqk
       clear hqk
       go_wp2_with fail
       go_roundw
       case rel => exact ⟨j, rfl, HJN.out, hidm (fun a ha hai => by
         rcases Nat.lt_or_ge a i with e | e
         · exact HL.out a ha e
         · have : a = i := by have := HJ.out; omega
           subst this
           rw [← HQ.out]; exact HQK.out), hidm trivial⟩
       case measure => have := HJ.out; simp [intOf]; omega
   · obtain rfl : i = n := by omega
     have f1 : ¬ (i : Int) < (i : Int) := by omega
     have HV := hidm (show v.see d k = d.f (2 + v.n + k : Nat) from by
       unfold DV.see over
       rw [look_none (fun a ha => HL.out a ha (by rw [HNN.out]; exact ha))]
       rfl)
     obtain ⟨lg, hlg⟩ : ∃ x, x = 2 + v.n := ⟨_, rfl⟩
     obtain ⟨kk, hkk⟩ : ∃ x, x = 2 + v.n + k := ⟨_, rfl⟩
     have k1 : (lg : Int) + (k : Int) = (kk : Int) := by omega
     have k1w : IntKind.i64.wrap (kk : Int) = (kk : Int) := by have := HN24.out; have := HK.out; simp only [IntKind.wrap_i64]; omega
     have HK2 := hidm (show kk < d.n from by have := HF.out; have := HK.out; have := HN.out; omega)
     rw [← hkk] at HV
     have HDR := hidm ((Below.refl w1.heap.size w1).drew)
     have HBD := hidm (HB.out.trans (HDR.out.mono HB.out.size))
     have HD := hidm (HG.out.later HBD.out)
     have c0 := HD.out.c0
     have c2 := HD.out.c2
     rw [← hlg] at c2
     have HLG := hidm hlg
     clear hkk hlg hp
     go_upto_region 8 with fail
     clear c3
     refine wp_region_held_drew (S := fun u => u.cell? ⟨X, 0, none⟩ = some (.pointer (some ⟨R, 0, none⟩)) ∧ u.cell? ⟨X, 2, none⟩ = some (.int .i64 (lg : Int))) (by kernel_rfl) ⟨c0, c2⟩ (fun hHeld => ?_)
     clear c0 c2
     refine Man.t1 0 hHeld ?_
     (try simp only [Act.put, Mqa, Mqb, Mqc])
     refine Man.t1 1 hHeld ?_
     (try simp only [Act.put, Mqa, Mqb, Mqc])
     refine Man.t1 2 hHeld ?_
     (try simp only [Act.put, Mqa, Mqb, Mqc])
     refine Man.t1 3 hHeld ?_
     (try simp only [Act.put, Mqa, Mqb, Mqc])
     refine Man.t1 4 hHeld ?_
     (try simp only [Act.put, Mqa, Mqb, Mqc])
     refine Man.t1 5 hHeld ?_
     (try simp only [Act.put, Mqa, Mqb, Mqc])
     refine Man.t1 6 hHeld ?_
     (try simp only [Act.put, Mqa, Mqb, Mqc])
     refine Man.t1 7 hHeld ?_
     (try simp only [Act.put, Mqa, Mqb, Mqc])
     refine Man.t1 8 hHeld ?_
     (try simp only [Act.put, Mqa, Mqb, Mqc])
     refine Man.t1 9 hHeld ?_
     (try simp only [Act.put, Mqa, Mqb, Mqc])
     refine Man.one (i := 10) rfl (by kernel_rfl) (fun K hK => ?_)
     go_simp
     with_reducible refine (rp_read HD.out kk HK2.out).mono ?_
     rintro e w3 ⟨rfl, hb3⟩
     have H3 := hidm (HD.out.later hb3)
     have HB3 := hidm (HBD.out.trans (hb3.mono HBD.out.size))
     clear hb3
     refine hK.out _ _ ⟨H3.out.c0, by rw [HLG.out]; exact H3.out.c2⟩ (fun hNew => ?_)
     clear hK K hHeld
     have hHeld := hNew
     clear hNew
     skip
     refine Man.t1 11 hHeld ?_
     (try simp only [Act.put, Mqa, Mqb, Mqc])
     refine Man.t1 12 hHeld ?_
     (try simp only [Act.put, Mqa, Mqb, Mqc])
     refine Man.t1 13 hHeld ?_
     (try simp only [Act.put, Mqa, Mqb, Mqc])
     refine Man.t1 14 hHeld ?_
     (try simp only [Act.put, Mqa, Mqb, Mqc])
     refine wpAnyH_done (by kernel_rfl) ?_ _
     clear hHeld
     go_wp2_with fail
     go_ret2
     exact ⟨by rw [HV.out]; rfl, HB3.out⟩
set_option maxHeartbeats 2000000 in
set_option maxRecDepth 100000 in
theorem rpisfree_off (h : RP X M R v g d F w) (k : Int) (hk : off v.N k) :
   Calls Tryz.prog 30 #[.pointer (some ⟨X, 0, none⟩), .int .i64 k] w fun e w' => e = .returned (.bool false) ∧ Below w.heap.size w w' := by
 have U := hidm (rplen_any h)
 obtain ⟨N, hN⟩ : ∃ x, x = v.N := ⟨_, rfl⟩
 rw [← hN] at U hk
 clear h hN
 go_enter Tryz.func30, Tryz.ntmps30
 by_cases h0 : k < 1
 · go_wp2_with fail
   go_ret
   exact ⟨rfl, Below.refl _ _⟩
 · have hk2 : (N : Int) ≤ k := by rcases hk with e | e <;> omega
   clear hk
   go_wp2_with fail
   refine U.out.mono ?_
   rintro e w1 ⟨rfl, hb⟩
   have HB := hidm hb
   clear hb
   go_wp2_with fail
   go_ret
   exact ⟨rfl, HB.out⟩
set_option maxHeartbeats 4000000 in
set_option maxRecDepth 100000 in
theorem rpisfree_in (h : RP X M R v g d F w) (k : Nat) (hk : k < v.N) :
   Calls Tryz.prog 30 #[.pointer (some ⟨X, 0, none⟩), .int .i64 (k : Int)] w fun e w' => e = .returned (.bool (!useB (v.see d 0) k)) ∧ Below w.heap.size w w' := by
 rcases Nat.eq_zero_or_pos k with rfl | h0
 · have e0 : (!useB (v.see d 0) 0) = false := rfl
   rw [e0]
   clear h hk
   go_enter Tryz.func30, Tryz.ntmps30
   go_wp2_with fail
   go_ret
   exact ⟨rfl, Below.refl _ _⟩
 · have U := hidm (rplen_any h)
   have HG := hidm h
   have hsz := h.sz
   have hsl := h.see_len 0
   have HRD := hidm (fun (u : World) (hb : Below w.heap.size w u) => rpread_in (h.later hb) 0 (by omega))
   obtain ⟨m, hm⟩ : ∃ m, m = v.see d 0 := ⟨_, rfl⟩
   rw [← hm] at hsl HRD ⊢
   obtain ⟨N, hN⟩ : ∃ x, x = v.N := ⟨_, rfl⟩
   rw [← hN] at U hk
   have g0 : ¬ (k : Int) < 1 := by omega
   have g1 : ¬ (N : Int) ≤ (k : Int) := by omega
   obtain ⟨q, hq⟩ : ∃ q, q = k / 8 := ⟨_, rfl⟩
   have k1 : ((k : Int).tdiv 8) = (q : Int) := by rw [Int.tdiv_eq_ediv_of_nonneg (by omega)]; omega
   have k1w : IntKind.i64.wrap (q : Int) = (q : Int) := by simp only [IntKind.wrap_i64]; omega
   obtain ⟨B, hB⟩ : ∃ B, B = S m := ⟨_, rfl⟩
   rw [← hB] at HRD
   have hBs : B.size = 128 := by rw [hB, S_size]; exact hsl
   have hq1 : q < B.size := by omega
   have hq2 : ¬ B.size ≤ q := by omega
   have hq3 : (q : Int) < 128 := by omega
   obtain ⟨c, hc⟩ : ∃ c, c = (byteOf m k).toNat := ⟨_, rfl⟩
   have hcv : B[q].toNat = c := by
     rw [hc]
     subst hB
     unfold byteOf
     rw [← hq, List.getElem?_eq_getElem (by omega)]
     rfl
   have hc9 : c < 256 := by rw [hc]; exact (byteOf m k).toNat_lt
   have c1w : IntKind.i64.wrap (c : Int) = (c : Int) := by simp only [IntKind.wrap_i64]; omega
   obtain ⟨r, hr⟩ : ∃ r, r = k % 8 := ⟨_, rfl⟩
   have UB := hidm (fun w => rbit_any k (by omega) w)
   rw [← hr] at UB
   have hr8 : r < 8 := by omega
   have hp8 := pow_le r hr8
   have hpp : 0 < 2 ^ r := Nat.two_pow_pos r
   have hfree := bit_free c r
   have HUSE := hidm (show (!useB m k) = !(c.testBit r) from by
     unfold useB bitAt
     rw [hc, hr]
     have : (k == 0) = false := by rw [beq_eq_false_iff_ne]; omega
     rw [this]; rfl)
   obtain ⟨P, hP⟩ : ∃ P, P = 2 ^ r := ⟨_, rfl⟩
   rw [← hP] at UB hp8 hpp hfree
   obtain ⟨t, ht⟩ : ∃ t, t = c / P := ⟨_, rfl⟩
   have t1 : ((c : Int).tdiv (P : Int)) = (t : Int) := by rw [Int.tdiv_eq_ediv_of_nonneg (by omega), ht]; rfl
   have ht9 : t ≤ c := by rw [ht]; exact Nat.div_le_self _ _
   have t1w : IntKind.i64.wrap (t : Int) = (t : Int) := by simp only [IntKind.wrap_i64]; omega
   obtain ⟨u2, hu2⟩ : ∃ u, u = t % 2 := ⟨_, rfl⟩
   have u1 : ((t : Int).tmod 2) = (u2 : Int) := by rw [Int.tmod_eq_emod_of_nonneg (by omega)]; omega
   have u1w : IntKind.i64.wrap (u2 : Int) = (u2 : Int) := by simp only [IntKind.wrap_i64]; omega
   rw [t1, u1] at hfree
   have p0 : ¬ (P : Int) = 0 := by omega
   have p0n : ¬ P = 0 := by omega
   have HFR := hidm (show ((u2 : Int) == 0) = (!useB m k) from by rw [hfree, HUSE.out])
   obtain ⟨bb, hbb⟩ : ∃ b, b = (!useB m k) := ⟨_, rfl⟩
   rw [← hbb] at HFR ⊢
   have h9 := HFR.out
   clear h hk hsz hsl hm hN hq hB hc hc9 hr hr8 hp8 hpp hfree hP ht ht9 hu2 HUSE hbb h0
   go_enter Tryz.func30, Tryz.ntmps30
   go_wp2_with fail
   refine U.out.mono ?_
   rintro e w1 ⟨rfl, hb⟩
   have HB := hidm hb
   clear hb U
   go_wp2_with fail
   refine (HRD.out w1 HB.out).mono ?_
   rintro e w2 ⟨rfl, hb2⟩
   have HB2 := hidm (HB.out.trans (hb2.mono HB.out.size))
   have HB3 := hidm (HB2.out.trans (((Below.refl w2.heap.size w2).drew).mono HB2.out.size))
   clear hb2 HRD
   go_upto_region 4 with fail
   refine wp_region_held_drew (S := fun _ => True) (by kernel_rfl) trivial (fun hHeld => ?_)
   refine Man.t1 0 hHeld ?_
   (try simp only [Act.put, Mqa, Mqb, Mqc])
   refine Man.t1 1 hHeld ?_
   (try simp only [Act.put, Mqa, Mqb, Mqc])
   refine Man.t1 2 hHeld ?_
   (try simp only [Act.put, Mqa, Mqb, Mqc])
   refine Man.t1 3 hHeld ?_
   (try simp only [Act.put, Mqa, Mqb, Mqc])
   refine Man.t1 4 hHeld ?_
   (try simp only [Act.put, Mqa, Mqb, Mqc])
   refine Man.t1 5 hHeld ?_
   (try simp only [Act.put, Mqa, Mqb, Mqc])
   refine Man.one (i := 6) rfl (by kernel_rfl) (fun K hK => ?_)
   go_simp
   with_reducible refine (UB.out _).mono ?_
   rintro e w4 ⟨rfl, rfl⟩
   refine hK.out _ _ trivial (fun hNew => ?_)
   clear hK K hHeld
   have hHeld := hNew
   clear hNew
   skip
   refine Man.t1 7 hHeld ?_
   (try simp only [Act.put, Mqa, Mqb, Mqc])
   refine Man.t1 8 hHeld ?_
   (try simp only [Act.put, Mqa, Mqb, Mqc])
   refine Man.t1 9 hHeld ?_
   (try simp only [Act.put, Mqa, Mqb, Mqc])
   refine Man.t1 10 hHeld ?_
   (try simp only [Act.put, Mqa, Mqb, Mqc])
   refine wpAnyH_done (by kernel_rfl) ?_ _
   clear hHeld
   go_wp2_with fail
   go_ret
   exact ⟨by rw [← h9]; rfl, HB3.out⟩
end
end Pgr
end Go.Proofs.YtkgbemkcnahkoaaGreatDoor
namespace Go.Proofs.YtkgbemkcnahkoaaGreatDoor
open Go.RowKit
namespace Pgr
open Wal
open Dsk (PD RefIs Only Grow KeepQ upd pad pad_len below_keeps zeros owns_later)
open Crc (S S_of S_size)
theorem two_cells {w : World} {t : TypeId} (a b : Value) : ∀ j u, ([a, b] : List Value)[j]? = some u → (w.alloc (.cells #[a, b] t)).cell? ((⟨w.heap.size, 0, none⟩ : Addr).add j) = some u := by
 intro j u hu
 rcases j with _ | _ | j
 · simp at hu; subst hu; simp [Addr.add, go_sem]
 · simp at hu; subst hu; simp [Addr.add, go_sem]
 · simp at hu
theorem two_one (a : Int) (s : ByteArray) : ∀ u ∈ [Value.int .i64 a, .string s], u.oneCell' = true := by
 intro u hu
 simp at hu
 rcases hu with rfl | rfl <;> rfl
theorem pages_none {base : Nat} {ch : Ch} {v : Value} {w : World} (ty : TypeId) (c : Nat) (h : Pages base ch v w) :
   (Builtin.append_ #[48, 48] ty #[v, .slice none 0 c]).run Tryz.prog w = .ok v w := by
 obtain ⟨i, hi, hz0, hz1, hz2⟩ := info_parts infoPg
 rcases h.2 with ⟨rfl, h0⟩ | ⟨g, cap, cur, rfl, _, _, hnc, _⟩
 · simp [Builtin.append_, run_underlying Tryz.underlying48, sizeOf, typeInfo, hi, Builtin.lenOf, Builtin.firstCells]
 · simp [Builtin.append_, run_underlying Tryz.underlying48, sizeOf, typeInfo, hi, Builtin.lenOf, Builtin.firstCells, hnc, storeCells]
theorem pages_append {base : Nat} {a b : Ch} {v : Value} {w : World} (h : Pages base a v w) (ad : Addr) (m c : Nat) (hm : m = b.length) (hb : ∀ j u, (flatP b)[j]? = some u → w.cell? (ad.add j) = some u) (hn : a.length + b.length ≤ 100000) (hbs : base ≤ w.heap.size) (ty : TypeId) :
   ∃ v' w', (Builtin.append_ #[48, 48] ty #[v, .slice (some ad) m c]).run Tryz.prog w = .ok v' w' ∧ Pages base (a ++ b) v' w' ∧ w.grownBy w' v.ownBlock := by
 subst hm
 obtain ⟨i0, hi0, hz0, hz1, hz2⟩ := info_parts infoPg
 obtain ⟨v', w', hr, hown, hgr, _, _⟩ := run_append_own_at (P := Tryz.prog) (w := w) base 48 ty 107 i0 (.agg #[.int .i64 0, .string ⟨#[]⟩]) 2 24 Tryz.underlying48 hi0 hz0 hz1 hz2 rfl (by decide) v a.length (flatP a) h ad b.length c (flatP b) (flatP_len b) hb (by
   intro u hu
   unfold flatP at hu
   rw [List.mem_flatMap] at hu
   obtain ⟨x, _, hx⟩ := hu
   simp [twoP] at hx
   rcases hx with rfl | rfl <;> rfl) (by unfold maxLen; omega) (by omega) hbs
 refine ⟨v', w', hr, ?_, hgr⟩
 show World.ownsRow _ _ _ _ _ _ _
 rw [List.length_append, flatP_app]
 exact hown
theorem rest_cells {base : Nat} {ch : Ch} {g n cap : Nat} {w : World} (h : Pages base ch (.slice (some ⟨g, 0, none⟩) n cap) w) (i : Nat) : ∀ j u, (flatP (ch.drop i))[j]? = some u → w.cell? ((⟨g, i * 2, none⟩ : Addr).add j) = some u := by
 intro j u hu
 have hadd : (⟨g, i * 2, none⟩ : Addr).add j = ⟨g, i * 2 + j, none⟩ := by unfold Addr.add; split <;> simp_all
 rw [hadd]
 refine h.cell g rfl (i * 2 + j) u ?_
 rcases Nat.lt_or_ge ch.length i with e | e
 · rw [List.drop_of_length_le (Nat.le_of_lt e)] at hu
   simp [flatP] at hu
 · have e1 : flatP ch = flatP (ch.take i) ++ flatP (ch.drop i) := by rw [← flatP_app, List.take_append_drop]
   have e2 : (flatP (ch.take i)).length = i * 2 := by rw [flatP_len, List.length_take, Nat.min_eq_left e]
   rw [e1, List.getElem?_append_right (by omega), e2, show i * 2 + j - i * 2 = j by omega]
   exact hu
theorem rest_cells2 {base : Nat} {ch : Ch} {g n cap : Nat} {w : World} (h : Pages base ch (.slice (some ⟨g, 0, none⟩) n cap) w) (i : Nat) : ∀ j u, (flatP (ch.drop i))[j]? = some u → w.cell? ⟨g, i * 2 + j, none⟩ = some u := by
 intro j u hu
 have h1 := rest_cells h i j u hu
 have hadd : (⟨g, i * 2, none⟩ : Addr).add j = ⟨g, i * 2 + j, none⟩ := by unfold Addr.add; split <;> simp_all
 rw [hadd] at h1
 exact h1
theorem frozen_later {p : Addr} {w w' : World} (hb : Below w.heap.size w w') (hp : p.block < w.heap.size) (h : w.frozen? p = false) : w'.frozen? p = false := (hb.frozen hp).trans h
theorem wpList_pages {ops : Array Oper} {rest : List Oper} {o : Oper} {a : Act} {Q : Exit → Act → World → Prop} {base : Nat} {A B : Ch} {v : Value} {w : World} (hgd : o.guard = none) (s x : Operand)
   (ho : o.op = .call { callee := .builtin .append, args := #[s, x], argTypes := #[48, 48] }) (hs : a.eval s = v) (h : Pages base A v w) (ad : Addr) (m c : Nat) (hx : a.eval x = .slice (some ad) m c) (hm : m = B.length)
   (hb : ∀ j u, (flatP B)[j]? = some u → w.cell? (ad.add j) = some u) (hn : A.length + B.length ≤ 100000) (hbs : base ≤ w.heap.size)
   (hK : ∀ v' w', Pages base (A ++ B) v' w' → w.grownBy w' v.ownBlock → wpList Tryz.prog ops Q rest (a.put o.dst v') w') : wpList Tryz.prog ops Q (o :: rest) a w := by
 obtain ⟨v', w', hr, hp, hg⟩ := pages_append h ad m c hm hb hn hbs o.type
 exact Lib.wpList_append_run w hgd s x _ _ ho v _ hs hx v' w' hr (hK v' w' hp hg)
theorem wpList_pages_none {ops : Array Oper} {rest : List Oper} {o : Oper} {a : Act} {Q : Exit → Act → World → Prop} {base : Nat} {A : Ch} {v : Value} {w : World} (hgd : o.guard = none) (s x : Operand)
   (ho : o.op = .call { callee := .builtin .append, args := #[s, x], argTypes := #[48, 48] }) (hs : a.eval s = v) (h : Pages base A v w) (c : Nat) (hx : a.eval x = .slice none 0 c)
   (hK : wpList Tryz.prog ops Q rest (a.put o.dst v) w) : wpList Tryz.prog ops Q (o :: rest) a w :=
 Lib.wpList_append_run w hgd s x _ _ ho v _ hs hx v w (pages_none o.type c h) hK
section
variable {X M R : Nat} {v : DV} {g : DL} {d : PD} {F : Nat → Prop} {w : World}
set_option maxHeartbeats 8000000 in
set_option maxRecDepth 100000 in
theorem rput_any (h : RP X M R v g d F w) (k : Nat) (hk : k < v.N) (s : ByteArray) (hs : s.size ≤ 128) :
   Calls Tryz.prog 94 #[.pointer (some ⟨X, 0, none⟩), .int .i64 (k : Int), .string s] w fun e w' => Got fun F' => e = .returned (.tuple #[]) ∧ RP X M R { v with ch := put v.ch k (pad s.data.toList) } g d F' w' ∧ To F F' w w' := by
 obtain ⟨i0, hi0, hz0, hz1, hz2⟩ := info_parts infoPg
 have HG := hidm h
 have hcn := h.ok.count
 have hsz := h.sz
 have HOK := hidm (show Ok v.N (put v.ch k (pad s.data.toList)) from h.ok.put hk (pad_len (by rw [Dsk.len_eq]; exact hs)))
 have HP := hidm (show ∀ w, Calls Tryz.prog 40 #[.string s] w fun e w' => e = .returned (.string (S (pad s.data.toList))) ∧ Below w.heap.size w w' from fun w => Dsk.rpad_any s (by omega) w)
 obtain ⟨n, hn⟩ : ∃ x, x = v.ch.length := ⟨_, rfl⟩
 have HN := hidm hn
 have HN2 := hidm (show n ≤ 1024 from by omega)
 obtain ⟨t, ht⟩ : ∃ t, t = pad s.data.toList := ⟨_, rfl⟩
 rw [← ht] at HP HOK ⊢
 obtain ⟨ao, cap, c3, hpg, hl, hm, hF⟩ := h.c3
 rw [← hn] at c3 hpg hl
 have HC3 := hidm c3
 have HPG := hidm hpg
 have HFB := hidm (show (∀ p, ao = some p → p.block < w.heap.size) from fun p hp => h.lt _ (hF p hp))
 have HLM := hidm (show n ≤ cap ∧ cap ≤ 9223372036854775807 from ⟨hl, hm⟩)
 have HXL := hidm (h.lt X h.fX)
 clear h hcn hsz hn ht hk hs c3 hpg hF hl hm
 go_enter Tryz.func94, Tryz.ntmps94
 go_wp2_with fail
 go_loopw [6, 7] (fun ll ii wr => ∃ (i : Nat) (lo : Option Addr) (lc : Nat), ii = .int .i64 (i : Int) ∧ i ≤ n ∧ ll = .slice lo i lc ∧ Hid (Pages w.heap.size (v.ch.take i) (.slice lo i lc) wr) ∧ Hid (∀ j (h : j < v.ch.length), j < i → v.ch[j].1 < k) ∧ Hid (Below w.heap.size w wr)) (fun _ ii _ => (n - (intOf ii).toNat))
 case atStart => exact ⟨0, none, 0, rfl, Nat.zero_le _, rfl, hidm (Pages.nil _ _), hidm (fun j h hj => absurd hj (Nat.not_lt_zero _)), hidm (Below.refl _ _)⟩
 case round =>
   rename World => wr
   obtain ⟨i, lo, lc, rfl, hi, rfl, HO, HL, HB⟩ := hrel
   have c3 := Dsk.cell_later HB.out HC3.out
   have HI := hidm hi
   by_cases hgo : ∃ h : i < v.ch.length, v.ch[i].1 < k
   · obtain ⟨hic, hik⟩ := hgo
     have hlt : i < n := by rw [HN.out]; exact hic
     have f1 : (i : Int) < (n : Int) := by omega
     obtain ⟨gb, cap0, e0, _, _, p0, p1⟩ := (HPG.out.later HB.out).at i hic
     rw [← HN.out] at e0
     simp only [Value.slice.injEq] at e0
     obtain ⟨e0, -, -⟩ := e0
     subst e0
     rw [show 2 * i = i * 2 by omega] at p0 p1
     obtain ⟨q, hq⟩ : ∃ q, q = v.ch[i].1 := ⟨_, rfl⟩
     obtain ⟨u, hu⟩ : ∃ u, u = v.ch[i].2 := ⟨_, rfl⟩
     rw [← hq] at p0 hik
     rw [← hu] at p1
     have f2 : (q : Int) < (k : Int) := by omega
     have HIK := hidm (show v.ch[i].1 < k from by rw [← hq]; exact hik)
     have HTK := hidm (show flatP (v.ch.take i) ++ [.int .i64 (q : Int), .string (S u)] = flatP (v.ch.take (i + 1)) from by
       rw [List.take_succ_eq_append_getElem hic, flatP_snoc, hq, hu]; rfl)
     have HTL := hidm (show (v.ch.take i).length = i ∧ (v.ch.take (i + 1)).length = i + 1 from ⟨by rw [List.length_take]; omega, by rw [List.length_take]; omega⟩)
     have HO1 := HO.out
     unfold Pages at HO1
     rw [HTL.out.1] at HO1
     have HO1 := hidm HO1
     have HICC := hidm hic
     clear hq hu hik hi
     go_wp2_with (at_builtin; refine wpList_append_own _ rfl _ _ 48 rfl w.heap.size 107 i0 (.agg #[.int .i64 0, .string ⟨#[]⟩]) 2 24 Tryz.underlying48 hi0 hz0 hz1 hz2 rfl (by decide) _ _ _ rfl (HO1.out.alloc _) ⟨wr.heap.size, 0, none⟩ 1 1 [.int .i64 (q : Int), .string (S u)] rfl rfl ?CA ?CB ?CC ?CD ?CE ?_)
     case CA => exact two_cells _ _
     case CB => exact two_one _ _
     case CC => have := HN2.out; unfold maxLen; omega
     case CD => have := HN2.out; omega
     case CE => have := HB.out.size; (try simp); omega
     intro v' w2 hown hgrow _
     rw [HTK.out] at hown
     obtain ⟨so, sc, hvv⟩ : ∃ so sc, v' = .slice so (i + 1) sc := by
       rcases hown.2 with ⟨hv, h0⟩ | ⟨g', c', cur, hv, _⟩
       · exact absurd h0 (by omega)
       · exact ⟨_, _, hv⟩
     subst hvv
     have HO2 := hidm (show Pages w.heap.size (v.ch.take (i + 1)) (.slice so (i + 1) sc) w2 from by
       unfold Pages
       rw [HTL.out.2]
       exact hown)
     have HB2 := hidm ((HB.out.alloc HB.out.size (.cells #[.int .i64 (q : Int), .string (S u)] 107)).grown hgrow (by have := HB.out.size; simp; omega) (fun q hq => (HO1.out.lt q hq).1))
     have HLT := hidm hlt
     have hn24 := HN2.out
     clear hown hgrow p0 p1 c3
     go_wp2_with fail
     go_roundw
     case rel => exact ⟨i + 1, so, sc, by go_num, HLT.out, rfl, HO2, hidm (fun a ha hai => by
       rcases Nat.lt_or_ge a i with e | e
       · exact HL.out a ha e
       · have : a = i := by omega
         subst this
         exact HIK.out), HB2⟩
     case measure => have := HLT.out; simp [intOf]; omega
   · have HNG := hidm hgo
     have HTL := hidm (show (v.ch.take i).length = i from by rw [List.length_take]; have := HN.out; omega)
     rcases Nat.lt_or_ge i n with hlt | hge
     · have f1 : (i : Int) < (n : Int) := by omega
       have hic : i < v.ch.length := by rw [← HN.out]; exact hlt
       obtain ⟨gb, cap0, e0, _, _, p0, p1⟩ := HPG.out.at i hic
       rw [← HN.out] at e0
       simp only [Value.slice.injEq] at e0
       obtain ⟨e0, -, -⟩ := e0
       subst e0
       rw [show 2 * i = i * 2 by omega] at p0 p1
       obtain ⟨q, hq⟩ : ∃ q, q = v.ch[i].1 := ⟨_, rfl⟩
       rw [← hq] at p0
       have P0 := hidm p0
       clear p0
       have p0 := Dsk.cell_later HB.out P0.out
       have hqk : ¬ q < k := fun e => hgo ⟨hic, by rw [← hq]; exact e⟩
       have f2 : ¬ (q : Int) < (k : Int) := by omega
       have HQ := hidm hq
       clear hq hgo hi p1
       by_cases hqe : q = k
       · have f3 : ((q : Int) == (k : Int)) = true := by rw [hqe]; simp
         have HQE := hidm hqe
         clear hqe
         go_wp2_with fail
         refine (HP.out _).mono ?_
         rintro e w2 ⟨rfl, hb2⟩
         have HO2 := hidm (HO.out.later hb2)
         have HB2 := hidm (HB.out.trans (hb2.mono HB.out.size))
         clear hb2 c3
         have c3 := Dsk.cell_later HB2.out HC3.out
         have HO2R := HO2.out
         unfold Pages at HO2R
         rw [HTL.out] at HO2R
         have HO2R := hidm HO2R
         have HKT := hidm (show flatP (v.ch.take i) ++ [.int .i64 (k : Int), .string (S t)] = flatP (v.ch.take i ++ [(k, t)]) from by rw [flatP_snoc]; rfl)
         have hi24 : i ≤ 1024 := Nat.le_trans HI.out HN2.out
         go_wp2_with (at_builtin; refine wpList_append_own _ rfl _ _ 48 rfl w.heap.size 107 i0 (.agg #[.int .i64 0, .string ⟨#[]⟩]) 2 24 Tryz.underlying48 hi0 hz0 hz1 hz2 rfl (by decide) _ _ _ rfl (HO2R.out.alloc _) ⟨w2.heap.size, 0, none⟩ 1 1 [.int .i64 (k : Int), .string (S t)] rfl rfl ?CA ?CB ?CC ?CD ?CE ?_)
         case CA => exact two_cells _ _
         case CB => exact two_one _ _
         case CC => unfold maxLen; omega
         case CD => omega
         case CE => have := HB2.out.size; (try simp); omega
         intro v' w3 hown hgrow _
         rw [HKT.out] at hown
         obtain ⟨so, sc, hvv⟩ : ∃ so sc, v' = .slice so (i + 1) sc := by
           rcases hown.2 with ⟨hv, h0⟩ | ⟨g', c', cur, hv, _⟩
           · exact absurd h0 (by omega)
           · exact ⟨_, _, hv⟩
         subst hvv
         have HO3 := hidm (show Pages w.heap.size (v.ch.take i ++ [(k, t)]) (.slice so (i + 1) sc) w3 from by
           unfold Pages
           rw [List.length_append, HTL.out]
           exact hown)
         have HB3 := hidm ((HB2.out.alloc HB2.out.size (.cells #[.int .i64 (k : Int), .string (S t)] 107)).grown hgrow (by have := HB2.out.size; simp; omega) (fun q hq => (HO2R.out.lt q hq).1))
         clear hown hgrow c3
         have c3 := Dsk.cell_later HB3.out HC3.out
         have p0 := Dsk.cell_later HB3.out P0.out
         have HAT := hidm (fun (u : World) (hb : Below w.heap.size w u) => (HPG.out.later hb))
         obtain ⟨i9, hi9⟩ : ∃ x, x = i + 1 := ⟨_, rfl⟩
         have i1 : (i : Int) + 1 = (i9 : Int) := by omega
         have i1w : IntKind.i64.wrap (i9 : Int) = (i9 : Int) := by simp only [IntKind.wrap_i64]; omega
         have HI9 := hidm hi9
         have hi9n : i9 ≤ n := by rw [hi9]; exact hlt
         have g9 : ¬ (n : Int) < (i9 : Int) := by omega
         clear hi9
         obtain ⟨hlm1, hlm2⟩ := HLM.out
         by_cases hcap : cap = i9
         · have hne : n = i9 := by omega
           subst hcap
           go_wp2_with (at_builtin; refine wpList_pages (B := v.ch.drop cap) rfl _ _ rfl rfl HO3.out _ _ _ rfl ?CM ?CB ?CN ?CS ?_)
           case CM => have := HN.out; first | omega | (rw [List.length_drop]; omega)
           case CB =>
             have e0 : v.ch.drop cap = [] := List.drop_of_length_le (by rw [← HN.out]; omega)
             rw [e0]; intro j u hu; simp [flatP] at hu
           case CN => have h1 := HTL.out; have h2 := HN.out; have h3 := HN2.out; (try simp); omega
           case CS => exact HB3.out.size
           intro v9 w9 hp9 hg9
           have HP9 := hidm (show Pages w.heap.size (put v.ch k t) v9 w9 from by
             have e9 : put v.ch k t = v.ch.take i ++ (k, t) :: v.ch.drop cap := by
               rw [HI9.out, put_same hic HL.out (by rw [← HQ.out]; exact HQE.out)]
             rw [e9]; first | exact hp9 | simpa using hp9)
           have HB9 := hidm (HB3.out.grown hg9 HB3.out.size (fun q hq => (HO3.out.lt q hq).1))
           clear hp9 hg9
           obtain ⟨a9, c9, e9, -, -⟩ := HP9.out.form
           subst e9
           obtain ⟨l9, hl9⟩ : ∃ l, l = (put v.ch k t).length := ⟨_, rfl⟩
           rw [← hl9] at HP9 ⊢
           clear hl9
           obtain ⟨F9, h9, ht9⟩ := RP.setW HG.out HB9.out HP9.out HOK.out
           have H9 := hidm h9
           have HT9 := hidm ht9
           have z9 := frozen_later HB9.out HXL.out (HG.out.z 3)
           have c39 := Dsk.cell_later HB9.out HC3.out
           clear h9 ht9 c3
           go_wp2_with fail
           go_end0
           exact ⟨⟨F9, rfl, H9.out, HT9.out⟩⟩
         · have hcap2 : ¬ i9 = cap := fun e => hcap e.symm
           have hcap3 : ¬ cap ≤ i9 := by omega
           go_wp2_with (at_builtin; refine wpList_pages (B := v.ch.drop i9) rfl _ _ rfl rfl HO3.out _ _ _ rfl ?CM ?CB ?CN ?CS ?_)
           case CM => have := HN.out; first | omega | (rw [List.length_drop]; omega)
           case CB =>
             first | exact rest_cells2 (HPG.out.later HB3.out) i9 | exact rest_cells (HPG.out.later HB3.out) i9
           case CN => have h1 := HTL.out; have h2 := HN.out; have h3 := HN2.out; (try simp); omega
           case CS => exact HB3.out.size
           intro v9 w9 hp9 hg9
           have HP9 := hidm (show Pages w.heap.size (put v.ch k t) v9 w9 from by
             have e9 : put v.ch k t = v.ch.take i ++ (k, t) :: v.ch.drop i9 := by
               rw [HI9.out, put_same hic HL.out (by rw [← HQ.out]; exact HQE.out)]
             rw [e9]; first | exact hp9 | simpa using hp9)
           have HB9 := hidm (HB3.out.grown hg9 HB3.out.size (fun q hq => (HO3.out.lt q hq).1))
           clear hp9 hg9
           obtain ⟨a9, c9, e9, -, -⟩ := HP9.out.form
           subst e9
           obtain ⟨l9, hl9⟩ : ∃ l, l = (put v.ch k t).length := ⟨_, rfl⟩
           rw [← hl9] at HP9 ⊢
           clear hl9
           obtain ⟨F9, h9, ht9⟩ := RP.setW HG.out HB9.out HP9.out HOK.out
           have H9 := hidm h9
           have HT9 := hidm ht9
           have z9 := frozen_later HB9.out HXL.out (HG.out.z 3)
           have c39 := Dsk.cell_later HB9.out HC3.out
           clear h9 ht9 c3
           go_wp2_with fail
           go_end0
           exact ⟨⟨F9, rfl, H9.out, HT9.out⟩⟩
       · have f3 : ((q : Int) == (k : Int)) = false := by rw [beq_eq_false_iff_ne]; omega
         have f3b : ¬ (q : Int) = (k : Int) := by omega
         have HQE := hidm hqe
         clear hqe
         go_wp2_with fail
         refine (HP.out _).mono ?_
         rintro e w2 ⟨rfl, hb2⟩
         have HO2 := hidm (HO.out.later hb2)
         have HB2 := hidm (HB.out.trans (hb2.mono HB.out.size))
         clear hb2 c3
         have c3 := Dsk.cell_later HB2.out HC3.out
         have HO2R := HO2.out
         unfold Pages at HO2R
         rw [HTL.out] at HO2R
         have HO2R := hidm HO2R
         have HKT := hidm (show flatP (v.ch.take i) ++ [.int .i64 (k : Int), .string (S t)] = flatP (v.ch.take i ++ [(k, t)]) from by rw [flatP_snoc]; rfl)
         have hi24 : i ≤ 1024 := Nat.le_trans HI.out HN2.out
         go_wp2_with (at_builtin; refine wpList_append_own _ rfl _ _ 48 rfl w.heap.size 107 i0 (.agg #[.int .i64 0, .string ⟨#[]⟩]) 2 24 Tryz.underlying48 hi0 hz0 hz1 hz2 rfl (by decide) _ _ _ rfl (HO2R.out.alloc _) ⟨w2.heap.size, 0, none⟩ 1 1 [.int .i64 (k : Int), .string (S t)] rfl rfl ?CA ?CB ?CC ?CD ?CE ?_)
         case CA => exact two_cells _ _
         case CB => exact two_one _ _
         case CC => unfold maxLen; omega
         case CD => omega
         case CE => have := HB2.out.size; (try simp); omega
         intro v' w3 hown hgrow _
         rw [HKT.out] at hown
         obtain ⟨so, sc, hvv⟩ : ∃ so sc, v' = .slice so (i + 1) sc := by
           rcases hown.2 with ⟨hv, h0⟩ | ⟨g', c', cur, hv, _⟩
           · exact absurd h0 (by omega)
           · exact ⟨_, _, hv⟩
         subst hvv
         have HO3 := hidm (show Pages w.heap.size (v.ch.take i ++ [(k, t)]) (.slice so (i + 1) sc) w3 from by
           unfold Pages
           rw [List.length_append, HTL.out]
           exact hown)
         have HB3 := hidm ((HB2.out.alloc HB2.out.size (.cells #[.int .i64 (k : Int), .string (S t)] 107)).grown hgrow (by have := HB2.out.size; simp; omega) (fun q hq => (HO2R.out.lt q hq).1))
         clear hown hgrow c3
         have c3 := Dsk.cell_later HB3.out HC3.out
         have p0 := Dsk.cell_later HB3.out P0.out
         have HAT := hidm (fun (u : World) (hb : Below w.heap.size w u) => (HPG.out.later hb))
         obtain ⟨hlm1, hlm2⟩ := HLM.out
         by_cases hcap : cap = i
         · exfalso; omega
         · have hcap2 : ¬ i = cap := fun e => hcap e.symm
           have hcap3 : ¬ cap ≤ i := by omega
           go_wp2_with (at_builtin; refine wpList_pages (B := v.ch.drop i) rfl _ _ rfl rfl HO3.out _ _ _ rfl ?CM ?CB ?CN ?CS ?_)
           case CM => have := HN.out; first | omega | (rw [List.length_drop]; omega)
           case CB =>
             first | exact rest_cells2 (HPG.out.later HB3.out) i | exact rest_cells (HPG.out.later HB3.out) i
           case CN => have h1 := HTL.out; have h2 := HN.out; have h3 := HN2.out; (try simp); omega
           case CS => exact HB3.out.size
           intro v9 w9 hp9 hg9
           have HP9 := hidm (show Pages w.heap.size (put v.ch k t) v9 w9 from by
             have e9 : put v.ch k t = v.ch.take i ++ (k, t) :: v.ch.drop i := by
               rw [put_new (Nat.le_of_lt hic) HL.out (fun h => by have h1 := HNG.out; have h2 : ¬ v.ch[i].1 < k := fun e => h1 ⟨h, e⟩; have h3 : v.ch[i].1 ≠ k := fun e => HQE.out (by rw [HQ.out]; exact e); omega)]
             rw [e9]; first | exact hp9 | simpa using hp9)
           have HB9 := hidm (HB3.out.grown hg9 HB3.out.size (fun q hq => (HO3.out.lt q hq).1))
           clear hp9 hg9
           obtain ⟨a9, c9, e9, -, -⟩ := HP9.out.form
           subst e9
           obtain ⟨l9, hl9⟩ : ∃ l, l = (put v.ch k t).length := ⟨_, rfl⟩
           rw [← hl9] at HP9 ⊢
           clear hl9
           obtain ⟨F9, h9, ht9⟩ := RP.setW HG.out HB9.out HP9.out HOK.out
           have H9 := hidm h9
           have HT9 := hidm ht9
           have z9 := frozen_later HB9.out HXL.out (HG.out.z 3)
           have c39 := Dsk.cell_later HB9.out HC3.out
           clear h9 ht9 c3
           go_wp2_with fail
           go_end0
           exact ⟨⟨F9, rfl, H9.out, HT9.out⟩⟩
     · obtain rfl : i = n := by omega
       have f1 : ¬ (i : Int) < (i : Int) := by omega
       clear hgo hi
       go_wp2_with fail
       refine (HP.out _).mono ?_
       rintro e w2 ⟨rfl, hb2⟩
       have HO2 := hidm (HO.out.later hb2)
       have HB2 := hidm (HB.out.trans (hb2.mono HB.out.size))
       clear hb2 c3
       have c3 := Dsk.cell_later HB2.out HC3.out
       have HO2R := HO2.out
       unfold Pages at HO2R
       rw [HTL.out] at HO2R
       have HO2R := hidm HO2R
       have HKT := hidm (show flatP (v.ch.take i) ++ [.int .i64 (k : Int), .string (S t)] = flatP (v.ch.take i ++ [(k, t)]) from by rw [flatP_snoc]; rfl)
       have hi24 : i ≤ 1024 := Nat.le_trans HI.out HN2.out
       go_wp2_with (at_builtin; refine wpList_append_own _ rfl _ _ 48 rfl w.heap.size 107 i0 (.agg #[.int .i64 0, .string ⟨#[]⟩]) 2 24 Tryz.underlying48 hi0 hz0 hz1 hz2 rfl (by decide) _ _ _ rfl (HO2R.out.alloc _) ⟨w2.heap.size, 0, none⟩ 1 1 [.int .i64 (k : Int), .string (S t)] rfl rfl ?CA ?CB ?CC ?CD ?CE ?_)
       case CA => exact two_cells _ _
       case CB => exact two_one _ _
       case CC => unfold maxLen; omega
       case CD => omega
       case CE => have := HB2.out.size; (try simp); omega
       intro v' w3 hown hgrow _
       rw [HKT.out] at hown
       obtain ⟨so, sc, hvv⟩ : ∃ so sc, v' = .slice so (i + 1) sc := by
         rcases hown.2 with ⟨hv, h0⟩ | ⟨g', c', cur, hv, _⟩
         · exact absurd h0 (by omega)
         · exact ⟨_, _, hv⟩
       subst hvv
       have HO3 := hidm (show Pages w.heap.size (v.ch.take i ++ [(k, t)]) (.slice so (i + 1) sc) w3 from by
         unfold Pages
         rw [List.length_append, HTL.out]
         exact hown)
       have HB3 := hidm ((HB2.out.alloc HB2.out.size (.cells #[.int .i64 (k : Int), .string (S t)] 107)).grown hgrow (by have := HB2.out.size; simp; omega) (fun q hq => (HO2R.out.lt q hq).1))
       clear hown hgrow c3
       have c3 := Dsk.cell_later HB3.out HC3.out
       rcases HPG.out.2 with ⟨hv, h0⟩ | ⟨gb, cap0, cur, hv, _⟩
       · simp only [Value.slice.injEq] at hv
         obtain ⟨hv1, -, hv3⟩ := hv
         subst hv1
         subst hv3
         obtain rfl : i = 0 := by have := HN.out; omega
         have HP9 := hidm (show Pages w.heap.size (put v.ch k t) (.slice so (0 + 1) sc) w3 from by
           have e9 : put v.ch k t = v.ch.take 0 ++ (k, t) :: v.ch.drop 0 := by
             rw [put_new (Nat.zero_le _) HL.out (fun h => by have := HN.out; omega)]
           have e8 : v.ch = [] := List.eq_nil_of_length_eq_zero HN.out.symm
           rw [e9, e8]
           have := HO3.out
           rw [e8] at this
           exact this)
         have HB9 := HB3
         obtain ⟨F9, h9, ht9⟩ := RP.setW HG.out HB9.out HP9.out HOK.out
         have H9 := hidm h9
         have HT9 := hidm ht9
         have z9 := frozen_later HB9.out HXL.out (HG.out.z 3)
         have c39 := Dsk.cell_later HB9.out HC3.out
         clear h9 ht9
         go_wp2_with (at_builtin; refine wpList_pages_none rfl _ _ rfl rfl HO3.out _ rfl ?_)
         go_end0
         exact ⟨⟨F9, rfl, H9.out, HT9.out⟩⟩
       · simp only [Value.slice.injEq] at hv
         obtain ⟨hv1, -, -⟩ := hv
         subst hv1
         obtain ⟨hlm1, hlm2⟩ := HLM.out
         by_cases hcap : cap = i
         · subst hcap
           go_wp2_with (at_builtin; refine wpList_pages (B := v.ch.drop cap) rfl _ _ rfl rfl HO3.out _ _ _ rfl ?CM ?CB ?CN ?CS ?_)
           case CM => have := HN.out; first | omega | (rw [List.length_drop]; omega)
           case CB =>
             have e0 : v.ch.drop cap = [] := List.drop_of_length_le (by rw [← HN.out]; omega)
             rw [e0]; intro j u hu; simp [flatP] at hu
           case CN => have h1 := HTL.out; have h2 := HN.out; have h3 := HN2.out; (try simp); omega
           case CS => exact HB3.out.size
           intro v9 w9 hp9 hg9
           have HP9 := hidm (show Pages w.heap.size (put v.ch k t) v9 w9 from by
             have e9 : put v.ch k t = v.ch.take cap ++ (k, t) :: v.ch.drop cap := by
               rw [put_new (by rw [← HN.out]; exact Nat.le_refl _) HL.out (fun h => by have := HN.out; omega)]
             rw [e9]; first | exact hp9 | simpa using hp9)
           have HB9 := hidm (HB3.out.grown hg9 HB3.out.size (fun q hq => (HO3.out.lt q hq).1))
           clear hp9 hg9
           obtain ⟨a9, c9, e9, -, -⟩ := HP9.out.form
           subst e9
           obtain ⟨l9, hl9⟩ : ∃ l, l = (put v.ch k t).length := ⟨_, rfl⟩
           rw [← hl9] at HP9 ⊢
           clear hl9
           obtain ⟨F9, h9, ht9⟩ := RP.setW HG.out HB9.out HP9.out HOK.out
           have H9 := hidm h9
           have HT9 := hidm ht9
           have z9 := frozen_later HB9.out HXL.out (HG.out.z 3)
           have c39 := Dsk.cell_later HB9.out HC3.out
           clear h9 ht9 c3
           go_wp2_with fail
           go_end0
           exact ⟨⟨F9, rfl, H9.out, HT9.out⟩⟩
         · have hcap2 : ¬ i = cap := fun e => hcap e.symm
           have hcap3 : ¬ cap ≤ i := by omega
           go_wp2_with (at_builtin; refine wpList_pages (B := v.ch.drop i) rfl _ _ rfl rfl HO3.out _ _ _ rfl ?CM ?CB ?CN ?CS ?_)
           case CM => have := HN.out; first | omega | (rw [List.length_drop]; omega)
           case CB =>
             first | exact rest_cells2 (HPG.out.later HB3.out) i | exact rest_cells (HPG.out.later HB3.out) i
           case CN => have h1 := HTL.out; have h2 := HN.out; have h3 := HN2.out; (try simp); omega
           case CS => exact HB3.out.size
           intro v9 w9 hp9 hg9
           have HP9 := hidm (show Pages w.heap.size (put v.ch k t) v9 w9 from by
             have e9 : put v.ch k t = v.ch.take i ++ (k, t) :: v.ch.drop i := by
               rw [put_new (by rw [← HN.out]; exact Nat.le_refl _) HL.out (fun h => by have := HN.out; omega)]
             rw [e9]; first | exact hp9 | simpa using hp9)
           have HB9 := hidm (HB3.out.grown hg9 HB3.out.size (fun q hq => (HO3.out.lt q hq).1))
           clear hp9 hg9
           obtain ⟨a9, c9, e9, -, -⟩ := HP9.out.form
           subst e9
           obtain ⟨l9, hl9⟩ : ∃ l, l = (put v.ch k t).length := ⟨_, rfl⟩
           rw [← hl9] at HP9 ⊢
           clear hl9
           obtain ⟨F9, h9, ht9⟩ := RP.setW HG.out HB9.out HP9.out HOK.out
           have H9 := hidm h9
           have HT9 := hidm ht9
           have z9 := frozen_later HB9.out HXL.out (HG.out.z 3)
           have c39 := Dsk.cell_later HB9.out HC3.out
           clear h9 ht9 c3
           go_wp2_with fail
           go_end0
           exact ⟨⟨F9, rfl, H9.out, HT9.out⟩⟩
end
end Pgr
end Go.Proofs.YtkgbemkcnahkoaaGreatDoor
