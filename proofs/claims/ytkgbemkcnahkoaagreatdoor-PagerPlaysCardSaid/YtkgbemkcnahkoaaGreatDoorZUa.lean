import Derived.Test.YtkgbemkcnahkoaaGreatDoorZVyto
namespace Go.Proofs.YtkgbemkcnahkoaaGreatDoor
open Go.RowKit
namespace Pgr
open Wal
open Dsk (PD RefIs Only Grow KeepQ upd pad pad_len below_keeps zeros owns_later cell_later IntsAt ints ints_snoc infoI)
open Crc (S S_of S_size)
theorem one_cell {w : World} {t : TypeId} (a : Value) : ∀ j u, ([a] : List Value)[j]? = some u → (w.alloc (.cells #[a] t)).cell? ((⟨w.heap.size, 0, none⟩ : Addr).add j) = some u := by
 intro j u hu
 rcases j with _ | j
 · simp at hu; subst hu; simp [Addr.add, go_sem]
 · simp at hu
theorem one_one (a : Int) : ∀ u ∈ [Value.int .i64 a], u.oneCell' = true := by
 intro u hu
 simp at hu
 rw [hu]; rfl
section
variable {X M R : Nat} {v : DV} {g : DL} {d : PD} {F : Nat → Prop} {w : World}
set_option maxHeartbeats 2000000 in
set_option maxRecDepth 100000 in
theorem rwrite_out (h : RP X M R v g d F w) (k : Int) (s : ByteArray) (hk : off v.N k) :
   Calls Tryz.prog 54 #[.pointer (some ⟨X, 0, none⟩), .int .i64 k, .string s] w fun e w' => e = .returned (.int .i64 2) ∧ Below w.heap.size w w' := by
 have U := hidm (rplen_any h)
 obtain ⟨N, hN⟩ : ∃ x, x = v.N := ⟨_, rfl⟩
 rw [← hN] at U hk
 clear h hN
 go_enter Tryz.func54, Tryz.ntmps54
 by_cases h0 : k < 0
 · go_wp2_with fail
   go_ret
   exact ⟨rfl, Below.refl _ _⟩
 · have hk2 : (N : Int) ≤ k := by rcases hk with e | e <;> omega
   clear hk
   go_wp2_with fail
   refine U.out.mono ?_
   rintro e w1 ⟨rfl, hb⟩
   have HB := hidm hb
   clear hb
   go_wp2_with fail
   go_ret
   exact ⟨rfl, HB.out⟩
set_option maxHeartbeats 2000000 in
set_option maxRecDepth 100000 in
theorem rwrite_zero (h : RP X M R v g d F w) (s : ByteArray) :
   Calls Tryz.prog 54 #[.pointer (some ⟨X, 0, none⟩), .int .i64 0, .string s] w fun e w' => e = .returned (.int .i64 1) ∧ Below w.heap.size w w' := by
 have U := hidm (rplen_any h)
 have hsz := h.sz
 obtain ⟨N, hN⟩ : ∃ x, x = v.N := ⟨_, rfl⟩
 rw [← hN] at U
 have g1 : ¬ (N : Int) ≤ 0 := by omega
 clear h hN hsz
 go_enter Tryz.func54, Tryz.ntmps54
 go_wp2_with fail
 refine U.out.mono ?_
 rintro e w1 ⟨rfl, hb⟩
 have HB := hidm hb
 clear hb
 go_wp2_with fail
 go_ret
 exact ⟨rfl, HB.out⟩
set_option maxHeartbeats 2000000 in
set_option maxRecDepth 100000 in
theorem rwrite_big (h : RP X M R v g d F w) (k : Nat) (s : ByteArray) (hs : 128 < s.size) (hk : k < v.N) (h0 : k ≠ 0) :
   Calls Tryz.prog 54 #[.pointer (some ⟨X, 0, none⟩), .int .i64 (k : Int), .string s] w fun e w' => e = .returned (.int .i64 19) ∧ Below w.heap.size w w' := by
 have U := hidm (rplen_any h)
 have hsz := h.sz
 obtain ⟨N, hN⟩ : ∃ x, x = v.N := ⟨_, rfl⟩
 rw [← hN] at U hk
 have g0 : ¬ (k : Int) < 0 := by omega
 have g1 : ¬ (N : Int) ≤ (k : Int) := by omega
 have g2 : ((k : Int) == 0) = false := by rw [beq_eq_false_iff_ne]; omega
 have g2b : ¬ (k : Int) = 0 := by omega
 have g3 : (128 : Int) < (s.size : Int) := by omega
 clear h hN hsz hs h0
 go_enter Tryz.func54, Tryz.ntmps54
 go_wp2_with fail
 refine U.out.mono ?_
 rintro e w1 ⟨rfl, hb⟩
 have HB := hidm hb
 clear hb
 go_wp2_with fail
 go_ret
 exact ⟨rfl, HB.out⟩
set_option maxHeartbeats 2000000 in
set_option maxRecDepth 100000 in
theorem rwrite_in (h : RP X M R v g d F w) (k : Nat) (s : ByteArray) (hs : s.size ≤ 128) (hk : k < v.N) (h0 : k ≠ 0) :
   Calls Tryz.prog 54 #[.pointer (some ⟨X, 0, none⟩), .int .i64 (k : Int), .string s] w fun e w' => Got fun F' => e = .returned (.int .i64 0) ∧ RP X M R { v with ch := put v.ch k (pad s.data.toList) } g d F' w' ∧ To F F' w w' := by
 have U := hidm (rplen_any h)
 have HP := hidm (fun (u : World) (hb : Below w.heap.size w u) => rput_any (h.later hb) k hk s hs)
 have hsz := h.sz
 obtain ⟨N, hN⟩ : ∃ x, x = v.N := ⟨_, rfl⟩
 rw [← hN] at U hk
 have g0 : ¬ (k : Int) < 0 := by omega
 have g1 : ¬ (N : Int) ≤ (k : Int) := by omega
 have g2 : ((k : Int) == 0) = false := by rw [beq_eq_false_iff_ne]; omega
 have g2b : ¬ (k : Int) = 0 := by omega
 have g3 : ¬ (128 : Int) < (s.size : Int) := by omega
 clear h hN hsz hs h0 hk
 go_enter Tryz.func54, Tryz.ntmps54
 go_wp2_with fail
 refine U.out.mono ?_
 rintro e w1 ⟨rfl, hb⟩
 have HB := hidm hb
 clear hb
 go_wp2_with fail
 refine (HP.out w1 HB.out).mono ?_
 rintro e w2 ⟨⟨F2, rfl, h2, ht2⟩⟩
 have H2 := hidm h2
 have HT2 := hidm (To.trans (.below HB.out) ht2)
 clear h2 ht2
 go_wp2_with fail
 go_ret
 exact ⟨⟨F2, rfl, H2.out, HT2.out⟩⟩
set_option maxHeartbeats 4000000 in
set_option maxRecDepth 100000 in
theorem rfrees_any (h : RP X M R v g d F w) :
   Calls Tryz.prog 25 #[.pointer (some ⟨X, 0, none⟩)] w fun e w' => e = .returned (.int .i64 (freeN (v.see d 0) v.N : Int)) ∧ Below w.heap.size w w' := by
 have HU := hidm (fun (u : World) (hb : Below w.heap.size w u) => rplen_any (h.later hb))
 have HI := hidm (fun (u : World) (hb : Below w.heap.size w u) (k : Nat) (hk : k < v.N) => rpisfree_in (h.later hb) k hk)
 have hsz := h.sz
 obtain ⟨m, hm⟩ : ∃ m, m = v.see d 0 := ⟨_, rfl⟩
 rw [← hm] at HI ⊢
 obtain ⟨n, hn⟩ : ∃ x, x = v.N := ⟨_, rfl⟩
 rw [← hn] at HU HI ⊢
 have HN := hidm (show n ≤ 1024 from by omega)
 clear h hsz hm hn
 go_enter Tryz.func25, Tryz.ntmps25
 go_wp2_with fail
 go_loopw [3, 4] (fun cc ii wr => ∃ i : Nat, cc = .int .i64 (freeN m i : Int) ∧ ii = .int .i64 (i : Int) ∧ i ≤ n ∧ Hid (Below w.heap.size w wr)) (fun _ ii _ => (n - (intOf ii).toNat))
 case atStart => exact ⟨0, rfl, rfl, Nat.zero_le _, hidm (Below.refl _ _)⟩
 case round =>
   rename World => wr
   obtain ⟨i, rfl, rfl, hi, HB⟩ := hrel
   have hfl := freeN_le m i
   obtain ⟨cn, hcn⟩ : ∃ cn, cn = freeN m i := ⟨_, rfl⟩
   rw [← hcn] at hfl ⊢
   have HCN := hidm hcn
   clear hcn
   rcases Nat.lt_or_ge i n with hlt | hge
   · have f1 : (i : Int) < (n : Int) := by omega
     have HLT := hidm hlt
     obtain ⟨j, hj⟩ : ∃ j, j = i + 1 := ⟨_, rfl⟩
     have i1 : (i : Int) + 1 = (j : Int) := by omega
     have i1w : IntKind.i64.wrap (j : Int) = (j : Int) := by have := HN.out; simp only [IntKind.wrap_i64]; omega
     have HJ := hidm hj
     have HNX := hidm (show freeN m j = cn + if useB m i then 0 else 1 from by rw [hj, HCN.out]; rfl)
     have HJN := hidm (show j ≤ n from by omega)
     have hn24 := HN.out
     have hcn24 : cn ≤ 1024 := by omega
     clear hj hfl
     go_wp2_with fail
     refine (HU.out wr HB.out).mono ?_
     rintro e w1 ⟨rfl, hb1⟩
     have HB1 := hidm (HB.out.trans (hb1.mono HB.out.size))
     clear hb1
     go_wp2_with fail
     refine (HI.out w1 HB1.out i HLT.out).mono ?_
     rintro e w2 ⟨rfl, hb2⟩
     have HB2 := hidm (HB1.out.trans (hb2.mono HB1.out.size))
     clear hb2
     cases hb : useB m i with
     | true =>
       have HNN := hidm (show cn = freeN m j from by rw [HNX.out, hb]; rfl)
       clear hb
       go_wp2_with fail
       go_roundw
       case rel => exact ⟨j, by rw [← HNN.out], rfl, HJN.out, HB2⟩
       case measure => have := HJ.out; have := HJN.out; simp [intOf]; omega
     | false =>
       obtain ⟨cm, hcm⟩ : ∃ cm, cm = cn + 1 := ⟨_, rfl⟩
       have k1 : (cn : Int) + 1 = (cm : Int) := by omega
       have k1w : IntKind.i64.wrap (cm : Int) = (cm : Int) := by simp only [IntKind.wrap_i64]; omega
       have HNN := hidm (show cm = freeN m j from by rw [HNX.out, hb, hcm]; rfl)
       clear hcm hb
       go_wp2_with fail
       go_roundw
       case rel => exact ⟨j, by rw [← HNN.out], rfl, HJN.out, HB2⟩
       case measure => have := HJ.out; have := HJN.out; simp [intOf]; omega
   · obtain rfl : i = n := by omega
     have f1 : ¬ (i : Int) < (i : Int) := by omega
     clear hfl
     go_wp2_with fail
     refine (HU.out wr HB.out).mono ?_
     rintro e w1 ⟨rfl, hb1⟩
     have HB1 := hidm (HB.out.trans (hb1.mono HB.out.size))
     clear hb1
     go_wp2_with fail
     go_ret
     exact ⟨by rw [HCN.out]; rfl, HB1.out⟩
set_option maxHeartbeats 4000000 in
set_option maxRecDepth 100000 in
theorem rpdirty_any (h : RP X M R v g d F w) :
   Calls Tryz.prog 23 #[.pointer (some ⟨X, 0, none⟩)] w fun e w' => ∃ x, e = .returned x ∧ IntsAt w.heap.size (nums v.ch) x w' ∧ Below w.heap.size w w' := by
 obtain ⟨i0, hi0, hz0, hz1, hz2⟩ := info_parts infoI
 have hcn := h.ok.count
 have hsz := h.sz
 obtain ⟨ao, cap, c3, hpg, hl, hm, -⟩ := h.c3
 obtain ⟨n, hn⟩ : ∃ x, x = v.ch.length := ⟨_, rfl⟩
 rw [← hn] at c3 hpg hl hcn
 have HC3 := hidm c3
 have HPG := hidm hpg
 have HN := hidm hn
 have HN2 := hidm (show n ≤ 1024 from by omega)
 have hlb : n ≤ 9223372036854775807 := by omega
 clear h hcn hsz hn c3 hpg hl hm
 go_enter Tryz.func23, Tryz.ntmps23
 go_wp2_with fail
 go_loopw [3, 4] (fun vv ii wr => ∃ (i : Nat) (vo : Option Addr) (vc : Nat), ii = .int .i64 i ∧ i ≤ n ∧ vv = .slice vo i vc ∧ Hid (wr.ownsRow w.heap.size 3 1 (.slice vo i vc) i (ints ((nums v.ch).take i))) ∧ Hid (Below w.heap.size w wr)) (fun _ ii _ => (n - (intOf ii).toNat))
 case atStart => exact ⟨0, none, 0, rfl, by omega, rfl, hidm (World.ownsRow_nil _ _ _ _), hidm (Below.refl _ _)⟩
 case round =>
   rename World => wr
   obtain ⟨i, vo, vc, rfl, hi, rfl, HO, HB⟩ := hrel
   have k1 := cell_later HB.out HC3.out
   rcases Nat.lt_or_ge i n with hlt | hge
   · have f1 : (i : Int) < n := by omega
     have hic : i < v.ch.length := by have := HN.out; omega
     obtain ⟨gb, cap0, e0, _, _, p0, _⟩ := (HPG.out.later HB.out).at i hic
     rw [← HN.out] at e0
     simp only [Value.slice.injEq] at e0
     obtain ⟨e0, -, -⟩ := e0
     subst e0
     rw [show 2 * i = i * 2 by omega] at p0
     obtain ⟨x, hx⟩ : ∃ x, x = v.ch[i].1 := ⟨_, rfl⟩
     rw [← hx] at p0
     have HD := hidm (show ints ((nums v.ch).take (i + 1)) = ints ((nums v.ch).take i) ++ [.int .i64 (x : Int)] from by
       rw [List.take_succ_eq_append_getElem (by simpa [nums] using hic), ints_snoc, hx]
       simp [nums])
     clear hx
     go_wp2_with (at_builtin; refine wpList_append_own _ rfl _ _ 41 rfl w.heap.size 3 i0 (.int .i64 0) 1 8 Tryz.underlying41 hi0 hz0 hz1 hz2 rfl (by decide) _ _ _ rfl (owns_later HO.out ((Below.refl _ _).alloc (Nat.le_refl _) _)) ⟨wr.heap.size, 0, none⟩ 1 1 [.int .i64 (x : Int)] rfl rfl ?CA ?CB ?CC ?CD ?CE ?_)
     case CA => exact one_cell _
     case CB => exact one_one _
     case CC => have := HN2.out; (try unfold maxLen); omega
     case CD => have := HN2.out; omega
     case CE => have := HB.out.size; (try simp); omega
     intro v' w2 hown hgrow _
     rw [← HD.out] at hown
     obtain ⟨so, sc, hvv⟩ : ∃ so sc, v' = .slice so (i + 1) sc := by
       rcases hown.2 with ⟨hv, h0⟩ | ⟨g', c', cur, hv, _⟩
       · exact absurd h0 (by omega)
       · exact ⟨_, _, hv⟩
     subst hvv
     have HO2 := hidm hown
     have HB2 := hidm ((HB.out.alloc HB.out.size (.cells #[.int .i64 (x : Int)] 3)).grown hgrow (by have := HB.out.size; simp; omega) (fun q hq => (HO.out.lt q hq).1))
     have hn24 := HN2.out
     clear hown hgrow p0 k1
     go_wp2_with fail
     go_roundw
     case rel => exact ⟨i + 1, so, sc, by go_num, by omega, rfl, HO2, HB2⟩
     case measure => simp [intOf]; omega
   · obtain rfl : i = n := by omega
     have f1 : ¬ (i : Int) < (i : Int) := by omega
     have HT := hidm (show (nums v.ch).take i = nums v.ch from List.take_of_length_le (by rw [HN.out]; simp [nums]))
     have HL := hidm (show (nums v.ch).length = i from by rw [HN.out]; simp [nums])
     go_wp2_with fail
     go_ret
     refine ⟨_, rfl, ?_, HB.out⟩
     unfold IntsAt
     rw [HL.out, ← HT.out]
     exact HO.out
set_option maxHeartbeats 8000000 in
set_option maxRecDepth 100000 in
theorem rturn_free (h : RP X M R v g d F w) (k : Nat) (hk : k < v.N) (h0 : k ≠ 0) (hu : useB (v.see d 0) k = false) :
   Calls Tryz.prog 95 #[.pointer (some ⟨X, 0, none⟩), .int .i64 (k : Int)] w fun e w' => Got fun F' => e = .returned (.tuple #[]) ∧ RP X M R { v with ch := put v.ch 0 (takeB (v.see d 0) k) } g d F' w' ∧ To F F' w w' := by
 have hsz := h.sz
 have hsl := h.see_len 0
 have HRD := hidm (rpread_in h 0 (by omega))
 have HIF := hidm (fun (u : World) (hb : Below w.heap.size w u) => rpisfree_in (h.later hb) k hk)
 rw [hu] at HIF
 obtain ⟨m, hm⟩ : ∃ m, m = v.see d 0 := ⟨_, rfl⟩
 rw [← hm] at hsl HRD hu ⊢
 obtain ⟨q, hq⟩ : ∃ q, q = k / 8 := ⟨_, rfl⟩
 have hq16 : q < 128 := by omega
 have k1 : ((k : Int).tdiv 8) = (q : Int) := by rw [Int.tdiv_eq_ediv_of_nonneg (by omega)]; omega
 have k1w : IntKind.i64.wrap (q : Int) = (q : Int) := by simp only [IntKind.wrap_i64]; omega
 obtain ⟨q1, hq1⟩ : ∃ a, a = q + 1 := ⟨_, rfl⟩
 have k2 : (q : Int) + 1 = (q1 : Int) := by omega
 have k2w : IntKind.i64.wrap (q1 : Int) = (q1 : Int) := by simp only [IntKind.wrap_i64]; omega
 obtain ⟨B, hB⟩ : ∃ B, B = S m := ⟨_, rfl⟩
 rw [← hB] at HRD
 have hBs : B.size = 128 := by rw [hB, S_size]; exact hsl
 have hqa : q < B.size := by omega
 have hqb : ¬ B.size ≤ q := by omega
 have hqe : (q : Int) < 128 := by omega
 have hqf : (q : Int) ≤ 128 := by omega
 have hqg : (q1 : Int) ≤ 128 := by omega
 have hqc : ¬ B.size < q := by omega
 have hqd : ¬ B.size < q1 := by omega
 obtain ⟨c, hc⟩ : ∃ c, c = (byteOf m k).toNat := ⟨_, rfl⟩
 have hcv : B[q].toNat = c := by
   rw [hc]
   subst hB
   unfold byteOf
   rw [← hq, List.getElem?_eq_getElem (by omega)]
   rfl
 have hc9 : c < 256 := by rw [hc]; exact (byteOf m k).toNat_lt
 have c1w : IntKind.i64.wrap (c : Int) = (c : Int) := by simp only [IntKind.wrap_i64]; omega
 obtain ⟨r, hr⟩ : ∃ r, r = k % 8 := ⟨_, rfl⟩
 have UB := hidm (fun w => rbit_any k (by omega) w)
 rw [← hr] at UB
 have hr8 : r < 8 := by omega
 have hbit : c.testBit r = false := by
   unfold useB bitAt at hu
   rw [← hc, ← hr] at hu
   have e0 : (k == 0) = false := by rw [beq_eq_false_iff_ne]; exact h0
   rw [e0, Bool.false_or] at hu
   exact hu
 have hnew := turn_free hc9 hr8 hbit
 have hpp := pow_le r hr8
 have hle : True := trivial
 have hx9 : c ||| 2 ^ r < 256 := take_lt c r hc9 hr8
 rw [← hnew] at hx9
 obtain ⟨P, hP⟩ : ∃ P, P = 2 ^ r := ⟨_, rfl⟩
 rw [← hP] at UB hpp hx9
 obtain ⟨x, hx⟩ : ∃ x, x = c + P := ⟨_, rfl⟩
 rw [← hx] at hx9
 have x1 : (c : Int) + (P : Int) = (x : Int) := by omega
 have x1w : IntKind.i64.wrap (x : Int) = (x : Int) := by simp only [IntKind.wrap_i64]; omega
 have x2w : IntKind.u8.wrap (x : Int) = (x : Int) := by simp only [IntKind.wrap_u8]; omega
 obtain ⟨b, hb0⟩ : ∃ b, b = S [UInt8.ofNat x] := ⟨_, rfl⟩
 have hl2 : b.size = 1 := by rw [hb0, S_size]; rfl
 have HE := hidm (show B.extract 0 q ++ b ++ B.extract q1 128 = S (takeB m k) from by
   rw [show B.extract q1 128 = B.extract q1 B.size from by rw [hBs], hB, hb0, hq1, cut_set m q _ (by omega)]
   unfold takeB
   rw [← hq, ← hr, ← hc, ← hnew, ← hP, ← hx])
 obtain ⟨s1, hs1⟩ : ∃ a, a = B.extract 0 q := ⟨_, rfl⟩
 obtain ⟨s2, hs2⟩ : ∃ a, a = B.extract q1 128 := ⟨_, rfl⟩
 have hz1 : s1.size ≤ 128 := by rw [hs1, ByteArray.size_extract]; omega
 have hz2 : s2.size ≤ 128 := by rw [hs2, ByteArray.size_extract]; omega
 rw [← hs1, ← hs2] at HE
 have e1 := hs1.symm
 have e2 := hs2.symm
 have n1 : ¬ 9223372036854775807 < s1.size + b.size := by omega
 have n2 : ¬ 9223372036854775807 < s1.size + b.size + s2.size := by omega
 have n3 : ¬ 9223372036854775807 < s1.size + 1 := by omega
 have n4 : ¬ 9223372036854775807 < s1.size + 1 + s2.size := by omega
 have E2 : ∀ w0 w' : World, Below (w0.alloc (.cells #[.int .u8 x] 5)).heap.size (w0.alloc (.cells #[.int .u8 x] 5)) w' → (convert 64 9 (.slice (some ⟨w0.heap.size, 0, none⟩) 1 1)).run Tryz.prog w' = .ok (.string b) w' := fun w0 w' hb => by
   rw [hb0]; exact Wr.str_one x hx9 w0 w' hb
 have E1 : ∀ w0 : World, (convert 64 9 (.slice (some ⟨w0.heap.size, 0, none⟩) 1 1)).run Tryz.prog (w0.alloc (.cells #[.int .u8 x] 5)) = .ok (.string b) (w0.alloc (.cells #[.int .u8 x] 5)) := fun w0 => E2 w0 _ (Below.refl _ _)
 have E3 : ∀ w0 : World, (convert 64 9 (.slice (some ⟨w0.heap.size, 0, none⟩) 1 1)).run Tryz.prog (w0.alloc (.cells #[.int .u8 x] 5)).drew = .ok (.string b) (w0.alloc (.cells #[.int .u8 x] 5)).drew := fun w0 => E2 w0 _ (Below.refl _ _).drew
 have hml : (takeB m k).length = 128 := take_len hsl
 have hpd : pad (S (takeB m k)).data.toList = takeB m k := pad_full hml
 have HPUT := hidm (show ∀ u : World, Below w.heap.size w u → Calls Tryz.prog 94 #[.pointer (some ⟨X, 0, none⟩), .int .i64 0, .string (s1 ++ b ++ s2)] u fun e w' => Got fun F' => e = .returned (.tuple #[]) ∧ RP X M R { v with ch := put v.ch 0 (takeB m k) } g d F' w' ∧ To F F' u w' from fun u hb => by
   rw [HE.out]
   have h1 := rput_any (h.later hb) 0 (by omega) (S (takeB m k)) (by rw [S_size, hml]; decide)
   rw [hpd] at h1
   exact h1)
 clear h hk hsz hsl hm hq hq16 hq1 hB hc hc9 hr hr8 hbit hnew hpp hle hP hx hx9 hb0 hs1 hs2 hml hpd hu h0
 go_enter Tryz.func95, Tryz.ntmps95
 go_wp2_with fail
 refine HRD.out.mono ?_
 rintro e w1 ⟨rfl, hb1⟩
 have HB1 := hidm hb1
 clear hb1 HRD
 go_wp2_with fail
 refine (HIF.out w1 HB1.out).mono ?_
 rintro e w2 ⟨rfl, hb2⟩
 have HB2 := hidm (HB1.out.trans (hb2.mono HB1.out.size))
 clear hb2 HIF
 go_wp2_with fail
 refine (UB.out _).mono ?_
 rintro e w3 ⟨rfl, rfl⟩
 have HBX := hidm ((HB2.out.alloc HB2.out.size (.cells #[.int .u8 x] 5)).drew)
 go_upto_region 5 with fail
 refine wp_region_held_drew (S := fun _ => True) (by kernel_rfl) trivial (fun hHeld => ?_)
 refine Man.t1 0 hHeld ?_
 (try simp only [Act.put, Mqa, Mqb, Mqc])
 refine Man.t1 1 hHeld ?_
 (try simp only [Act.put, Mqa, Mqb, Mqc])
 refine Man.t1 2 hHeld ?_
 (try simp only [Act.put, Mqa, Mqb, Mqc])
 refine Man.t1 3 hHeld ?_
 (try simp only [Act.put, Mqa, Mqb, Mqc])
 refine Man.t1 4 hHeld ?_
 (try simp only [Act.put, Mqa, Mqb, Mqc])
 refine Man.t1 5 hHeld ?_
 (try simp only [Act.put, Mqa, Mqb, Mqc])
 refine Man.t1 6 hHeld ?_
 (try simp only [Act.put, Mqa, Mqb, Mqc])
 refine Man.t1 10 hHeld ?_
 (try simp only [Act.put, Mqa, Mqb, Mqc])
 refine Man.t1 11 hHeld ?_
 (try simp only [Act.put, Mqa, Mqb, Mqc])
 refine Man.t1 12 hHeld ?_
 (try simp only [Act.put, Mqa, Mqb, Mqc])
 refine Man.t1 13 hHeld ?_
 (try simp only [Act.put, Mqa, Mqb, Mqc])
 refine Man.t1 14 hHeld ?_
 (try simp only [Act.put, Mqa, Mqb, Mqc])
 refine Man.one (i := 7) rfl (by kernel_rfl) (fun K hK => ?_)
 go_simp
 refine hK.out _ _ trivial (fun hNew => ?_)
 clear hK K hHeld
 have hHeld := hNew
 clear hNew
 (try simp only [Act.put, Mqa, Mqb, Mqc])
 refine Man.one (i := 8) rfl (by kernel_rfl) (fun K hK => ?_)
 go_simp
 refine hK.out _ _ trivial (fun hNew => ?_)
 clear hK K hHeld
 have hHeld := hNew
 clear hNew
 (try simp only [Act.put, Mqa, Mqb, Mqc])
 refine Man.t1 9 hHeld ?_
 (try simp only [Act.put, Mqa, Mqb, Mqc])
 refine Man.t1 15 hHeld ?_
 (try simp only [Act.put, Mqa, Mqb, Mqc])
 refine Man.one (i := 16) rfl (by kernel_rfl) (fun K hK => ?_)
 go_simp
 with_reducible refine (HPUT.out _ HBX.out).mono ?_
 rintro e w9 ⟨⟨F9, rfl, h9, ht9⟩⟩
 have H9 := hidm h9
 have HT9 := hidm (To.trans (.below HBX.out) ht9)
 clear h9 ht9
 refine hK.out _ _ trivial (fun hNew => ?_)
 clear hK K hHeld
 have hHeld := hNew
 clear hNew
 skip
 refine wpAnyH_done (by kernel_rfl) ?_ _
 clear hHeld
 go_wp2_with fail
 go_end0
 exact ⟨⟨F9, rfl, H9.out, HT9.out⟩⟩
set_option maxHeartbeats 8000000 in
set_option maxRecDepth 100000 in
theorem rturn_used (h : RP X M R v g d F w) (k : Nat) (hk : k < v.N) (h0 : k ≠ 0) (hu : useB (v.see d 0) k = true) :
   Calls Tryz.prog 95 #[.pointer (some ⟨X, 0, none⟩), .int .i64 (k : Int)] w fun e w' => Got fun F' => e = .returned (.tuple #[]) ∧ RP X M R { v with ch := put v.ch 0 (giveB (v.see d 0) k) } g d F' w' ∧ To F F' w w' := by
 have hsz := h.sz
 have hsl := h.see_len 0
 have HRD := hidm (rpread_in h 0 (by omega))
 have HIF := hidm (fun (u : World) (hb : Below w.heap.size w u) => rpisfree_in (h.later hb) k hk)
 rw [hu] at HIF
 obtain ⟨m, hm⟩ : ∃ m, m = v.see d 0 := ⟨_, rfl⟩
 rw [← hm] at hsl HRD hu ⊢
 obtain ⟨q, hq⟩ : ∃ q, q = k / 8 := ⟨_, rfl⟩
 have hq16 : q < 128 := by omega
 have k1 : ((k : Int).tdiv 8) = (q : Int) := by rw [Int.tdiv_eq_ediv_of_nonneg (by omega)]; omega
 have k1w : IntKind.i64.wrap (q : Int) = (q : Int) := by simp only [IntKind.wrap_i64]; omega
 obtain ⟨q1, hq1⟩ : ∃ a, a = q + 1 := ⟨_, rfl⟩
 have k2 : (q : Int) + 1 = (q1 : Int) := by omega
 have k2w : IntKind.i64.wrap (q1 : Int) = (q1 : Int) := by simp only [IntKind.wrap_i64]; omega
 obtain ⟨B, hB⟩ : ∃ B, B = S m := ⟨_, rfl⟩
 rw [← hB] at HRD
 have hBs : B.size = 128 := by rw [hB, S_size]; exact hsl
 have hqa : q < B.size := by omega
 have hqb : ¬ B.size ≤ q := by omega
 have hqe : (q : Int) < 128 := by omega
 have hqf : (q : Int) ≤ 128 := by omega
 have hqg : (q1 : Int) ≤ 128 := by omega
 have hqc : ¬ B.size < q := by omega
 have hqd : ¬ B.size < q1 := by omega
 obtain ⟨c, hc⟩ : ∃ c, c = (byteOf m k).toNat := ⟨_, rfl⟩
 have hcv : B[q].toNat = c := by
   rw [hc]
   subst hB
   unfold byteOf
   rw [← hq, List.getElem?_eq_getElem (by omega)]
   rfl
 have hc9 : c < 256 := by rw [hc]; exact (byteOf m k).toNat_lt
 have c1w : IntKind.i64.wrap (c : Int) = (c : Int) := by simp only [IntKind.wrap_i64]; omega
 obtain ⟨r, hr⟩ : ∃ r, r = k % 8 := ⟨_, rfl⟩
 have UB := hidm (fun w => rbit_any k (by omega) w)
 rw [← hr] at UB
 have hr8 : r < 8 := by omega
 have hbit : c.testBit r = true := by
   unfold useB bitAt at hu
   rw [← hc, ← hr] at hu
   have e0 : (k == 0) = false := by rw [beq_eq_false_iff_ne]; exact h0
   rw [e0, Bool.false_or] at hu
   exact hu
 have hnew := (turn_used hc9 hr8 hbit).2
 have hpp := pow_le r hr8
 have hle : 2 ^ r ≤ c := (turn_used hc9 hr8 hbit).1
 have hx9 : c &&& (255 ^^^ 2 ^ r) < 256 := give_lt c r hc9 hr8
 rw [← hnew] at hx9
 obtain ⟨P, hP⟩ : ∃ P, P = 2 ^ r := ⟨_, rfl⟩
 rw [← hP] at UB hpp hle hx9
 obtain ⟨x, hx⟩ : ∃ x, x = c - P := ⟨_, rfl⟩
 rw [← hx] at hx9
 have x1 : (c : Int) - (P : Int) = (x : Int) := by omega
 have x1w : IntKind.i64.wrap (x : Int) = (x : Int) := by simp only [IntKind.wrap_i64]; omega
 have x2w : IntKind.u8.wrap (x : Int) = (x : Int) := by simp only [IntKind.wrap_u8]; omega
 obtain ⟨b, hb0⟩ : ∃ b, b = S [UInt8.ofNat x] := ⟨_, rfl⟩
 have hl2 : b.size = 1 := by rw [hb0, S_size]; rfl
 have HE := hidm (show B.extract 0 q ++ b ++ B.extract q1 128 = S (giveB m k) from by
   rw [show B.extract q1 128 = B.extract q1 B.size from by rw [hBs], hB, hb0, hq1, cut_set m q _ (by omega)]
   unfold giveB
   rw [← hq, ← hr, ← hc, ← hnew, ← hP, ← hx])
 obtain ⟨s1, hs1⟩ : ∃ a, a = B.extract 0 q := ⟨_, rfl⟩
 obtain ⟨s2, hs2⟩ : ∃ a, a = B.extract q1 128 := ⟨_, rfl⟩
 have hz1 : s1.size ≤ 128 := by rw [hs1, ByteArray.size_extract]; omega
 have hz2 : s2.size ≤ 128 := by rw [hs2, ByteArray.size_extract]; omega
 rw [← hs1, ← hs2] at HE
 have e1 := hs1.symm
 have e2 := hs2.symm
 have n1 : ¬ 9223372036854775807 < s1.size + b.size := by omega
 have n2 : ¬ 9223372036854775807 < s1.size + b.size + s2.size := by omega
 have n3 : ¬ 9223372036854775807 < s1.size + 1 := by omega
 have n4 : ¬ 9223372036854775807 < s1.size + 1 + s2.size := by omega
 have E2 : ∀ w0 w' : World, Below (w0.alloc (.cells #[.int .u8 x] 5)).heap.size (w0.alloc (.cells #[.int .u8 x] 5)) w' → (convert 64 9 (.slice (some ⟨w0.heap.size, 0, none⟩) 1 1)).run Tryz.prog w' = .ok (.string b) w' := fun w0 w' hb => by
   rw [hb0]; exact Wr.str_one x hx9 w0 w' hb
 have E1 : ∀ w0 : World, (convert 64 9 (.slice (some ⟨w0.heap.size, 0, none⟩) 1 1)).run Tryz.prog (w0.alloc (.cells #[.int .u8 x] 5)) = .ok (.string b) (w0.alloc (.cells #[.int .u8 x] 5)) := fun w0 => E2 w0 _ (Below.refl _ _)
 have E3 : ∀ w0 : World, (convert 64 9 (.slice (some ⟨w0.heap.size, 0, none⟩) 1 1)).run Tryz.prog (w0.alloc (.cells #[.int .u8 x] 5)).drew = .ok (.string b) (w0.alloc (.cells #[.int .u8 x] 5)).drew := fun w0 => E2 w0 _ (Below.refl _ _).drew
 have hml : (giveB m k).length = 128 := give_len hsl
 have hpd : pad (S (giveB m k)).data.toList = giveB m k := pad_full hml
 have HPUT := hidm (show ∀ u : World, Below w.heap.size w u → Calls Tryz.prog 94 #[.pointer (some ⟨X, 0, none⟩), .int .i64 0, .string (s1 ++ b ++ s2)] u fun e w' => Got fun F' => e = .returned (.tuple #[]) ∧ RP X M R { v with ch := put v.ch 0 (giveB m k) } g d F' w' ∧ To F F' u w' from fun u hb => by
   rw [HE.out]
   have h1 := rput_any (h.later hb) 0 (by omega) (S (giveB m k)) (by rw [S_size, hml]; decide)
   rw [hpd] at h1
   exact h1)
 clear h hk hsz hsl hm hq hq16 hq1 hB hc hc9 hr hr8 hbit hnew hpp hle hP hx hx9 hb0 hs1 hs2 hml hpd hu h0
 go_enter Tryz.func95, Tryz.ntmps95
 go_wp2_with fail
 refine HRD.out.mono ?_
 rintro e w1 ⟨rfl, hb1⟩
 have HB1 := hidm hb1
 clear hb1 HRD
 go_wp2_with fail
 refine (HIF.out w1 HB1.out).mono ?_
 rintro e w2 ⟨rfl, hb2⟩
 have HB2 := hidm (HB1.out.trans (hb2.mono HB1.out.size))
 clear hb2 HIF
 go_wp2_with fail
 refine (UB.out _).mono ?_
 rintro e w3 ⟨rfl, rfl⟩
 have HBX := hidm ((HB2.out.alloc HB2.out.size (.cells #[.int .u8 x] 5)).drew)
 go_upto_region 5 with fail
 refine wp_region_held_drew (S := fun _ => True) (by kernel_rfl) trivial (fun hHeld => ?_)
 refine Man.t1 0 hHeld ?_
 (try simp only [Act.put, Mqa, Mqb, Mqc])
 refine Man.t1 1 hHeld ?_
 (try simp only [Act.put, Mqa, Mqb, Mqc])
 refine Man.t1 2 hHeld ?_
 (try simp only [Act.put, Mqa, Mqb, Mqc])
 refine Man.t1 3 hHeld ?_
 (try simp only [Act.put, Mqa, Mqb, Mqc])
 refine Man.t1 4 hHeld ?_
 (try simp only [Act.put, Mqa, Mqb, Mqc])
 refine Man.t1 5 hHeld ?_
 (try simp only [Act.put, Mqa, Mqb, Mqc])
 refine Man.t1 6 hHeld ?_
 (try simp only [Act.put, Mqa, Mqb, Mqc])
 refine Man.t1 10 hHeld ?_
 (try simp only [Act.put, Mqa, Mqb, Mqc])
 refine Man.t1 11 hHeld ?_
 (try simp only [Act.put, Mqa, Mqb, Mqc])
 refine Man.t1 12 hHeld ?_
 (try simp only [Act.put, Mqa, Mqb, Mqc])
 refine Man.t1 13 hHeld ?_
 (try simp only [Act.put, Mqa, Mqb, Mqc])
 refine Man.t1 14 hHeld ?_
 (try simp only [Act.put, Mqa, Mqb, Mqc])
 refine Man.one (i := 7) rfl (by kernel_rfl) (fun K hK => ?_)
 go_simp
 refine hK.out _ _ trivial (fun hNew => ?_)
 clear hK K hHeld
 have hHeld := hNew
 clear hNew
 (try simp only [Act.put, Mqa, Mqb, Mqc])
 refine Man.one (i := 8) rfl (by kernel_rfl) (fun K hK => ?_)
 go_simp
 refine hK.out _ _ trivial (fun hNew => ?_)
 clear hK K hHeld
 have hHeld := hNew
 clear hNew
 (try simp only [Act.put, Mqa, Mqb, Mqc])
 refine Man.t1 9 hHeld ?_
 (try simp only [Act.put, Mqa, Mqb, Mqc])
 refine Man.t1 15 hHeld ?_
 (try simp only [Act.put, Mqa, Mqb, Mqc])
 refine Man.one (i := 16) rfl (by kernel_rfl) (fun K hK => ?_)
 go_simp
 with_reducible refine (HPUT.out _ HBX.out).mono ?_
 rintro e w9 ⟨⟨F9, rfl, h9, ht9⟩⟩
 have H9 := hidm h9
 have HT9 := hidm (To.trans (.below HBX.out) ht9)
 clear h9 ht9
 refine hK.out _ _ trivial (fun hNew => ?_)
 clear hK K hHeld
 have hHeld := hNew
 clear hNew
 skip
 refine wpAnyH_done (by kernel_rfl) ?_ _
 clear hHeld
 go_wp2_with fail
 go_end0
 exact ⟨⟨F9, rfl, H9.out, HT9.out⟩⟩
set_option maxHeartbeats 2000000 in
set_option maxRecDepth 100000 in
theorem rfree_out (h : RP X M R v g d F w) (k : Int) (hk : off v.N k) :
   Calls Tryz.prog 56 #[.pointer (some ⟨X, 0, none⟩), .int .i64 k] w fun e w' => e = .returned (.int .i64 2) ∧ Below w.heap.size w w' := by
 have U := hidm (rplen_any h)
 obtain ⟨N, hN⟩ : ∃ x, x = v.N := ⟨_, rfl⟩
 rw [← hN] at U hk
 clear h hN
 go_enter Tryz.func56, Tryz.ntmps56
 by_cases h0 : k < 0
 · go_wp2_with fail
   go_ret
   exact ⟨rfl, Below.refl _ _⟩
 · have hk2 : (N : Int) ≤ k := by rcases hk with e | e <;> omega
   clear hk
   go_wp2_with fail
   refine U.out.mono ?_
   rintro e w1 ⟨rfl, hb⟩
   have HB := hidm hb
   clear hb
   go_wp2_with fail
   go_ret
   exact ⟨rfl, HB.out⟩
set_option maxHeartbeats 2000000 in
set_option maxRecDepth 100000 in
theorem rfree_zero (h : RP X M R v g d F w) :
   Calls Tryz.prog 56 #[.pointer (some ⟨X, 0, none⟩), .int .i64 0] w fun e w' => e = .returned (.int .i64 1) ∧ Below w.heap.size w w' := by
 have U := hidm (rplen_any h)
 have hsz := h.sz
 obtain ⟨N, hN⟩ : ∃ x, x = v.N := ⟨_, rfl⟩
 rw [← hN] at U
 have g1 : ¬ (N : Int) ≤ 0 := by omega
 clear h hN hsz
 go_enter Tryz.func56, Tryz.ntmps56
 go_wp2_with fail
 refine U.out.mono ?_
 rintro e w1 ⟨rfl, hb⟩
 have HB := hidm hb
 clear hb
 go_wp2_with fail
 go_ret
 exact ⟨rfl, HB.out⟩
set_option maxHeartbeats 2000000 in
set_option maxRecDepth 100000 in
theorem rfree_idle (h : RP X M R v g d F w) (k : Nat) (hk : k < v.N) (h0 : k ≠ 0) (hu : useB (v.see d 0) k = false) :
   Calls Tryz.prog 56 #[.pointer (some ⟨X, 0, none⟩), .int .i64 (k : Int)] w fun e w' => e = .returned (.int .i64 6) ∧ Below w.heap.size w w' := by
 have U := hidm (rplen_any h)
 have HIF := hidm (fun (u : World) (hb : Below w.heap.size w u) => rpisfree_in (h.later hb) k hk)
 rw [hu] at HIF
 have hsz := h.sz
 obtain ⟨N, hN⟩ : ∃ x, x = v.N := ⟨_, rfl⟩
 rw [← hN] at U hk
 have g0 : ¬ (k : Int) < 0 := by omega
 have g1 : ¬ (N : Int) ≤ (k : Int) := by omega
 have g2 : ((k : Int) == 0) = false := by rw [beq_eq_false_iff_ne]; omega
 have g2b : ¬ (k : Int) = 0 := by omega
 clear h hN hsz hk h0 hu
 go_enter Tryz.func56, Tryz.ntmps56
 go_wp2_with fail
 refine U.out.mono ?_
 rintro e w1 ⟨rfl, hb⟩
 have HB := hidm hb
 clear hb
 go_wp2_with fail
 refine (HIF.out w1 HB.out).mono ?_
 rintro e w2 ⟨rfl, hb2⟩
 have HB2 := hidm (HB.out.trans (hb2.mono HB.out.size))
 clear hb2
 go_wp2_with fail
 go_ret
 exact ⟨rfl, HB2.out⟩
set_option maxHeartbeats 2000000 in
set_option maxRecDepth 100000 in
theorem rfree_in (h : RP X M R v g d F w) (k : Nat) (hk : k < v.N) (h0 : k ≠ 0) (hu : useB (v.see d 0) k = true) :
   Calls Tryz.prog 56 #[.pointer (some ⟨X, 0, none⟩), .int .i64 (k : Int)] w fun e w' => Got fun F' => e = .returned (.int .i64 0) ∧ RP X M R { v with ch := put v.ch 0 (giveB (v.see d 0) k) } g d F' w' ∧ To F F' w w' := by
 have U := hidm (rplen_any h)
 have HIF := hidm (fun (u : World) (hb : Below w.heap.size w u) => rpisfree_in (h.later hb) k hk)
 have HTU := hidm (fun (u : World) (hb : Below w.heap.size w u) => rturn_used (h.later hb) k hk h0 hu)
 rw [hu] at HIF
 have hsz := h.sz
 obtain ⟨N, hN⟩ : ∃ x, x = v.N := ⟨_, rfl⟩
 rw [← hN] at U hk
 have g0 : ¬ (k : Int) < 0 := by omega
 have g1 : ¬ (N : Int) ≤ (k : Int) := by omega
 have g2 : ((k : Int) == 0) = false := by rw [beq_eq_false_iff_ne]; omega
 have g2b : ¬ (k : Int) = 0 := by omega
 clear h hN hsz hk h0 hu
 go_enter Tryz.func56, Tryz.ntmps56
 go_wp2_with fail
 refine U.out.mono ?_
 rintro e w1 ⟨rfl, hb⟩
 have HB := hidm hb
 clear hb
 go_wp2_with fail
 refine (HIF.out w1 HB.out).mono ?_
 rintro e w2 ⟨rfl, hb2⟩
 have HB2 := hidm (HB.out.trans (hb2.mono HB.out.size))
 clear hb2
 go_wp2_with fail
 refine (HTU.out w2 HB2.out).mono ?_
 rintro e w3 ⟨⟨F3, rfl, h3, ht3⟩⟩
 have H3 := hidm h3
 have HT3 := hidm (To.trans (.below HB2.out) ht3)
 clear h3 ht3
 go_wp2_with fail
 go_ret
 exact ⟨⟨F3, rfl, H3.out, HT3.out⟩⟩
def AllocR (X M R : Nat) (v : DV) (g : DL) (d : PD) (F : Nat → Prop) (m : List UInt8) (w : World) (e : Ending) (w' : World) : Prop :=
 (∃ k : Nat, k < v.N ∧ k ≠ 0 ∧ useB m k = false ∧ (∀ j, j < k → useB m j = true) ∧ e = .returned (.tuple #[.int .i64 (k : Int), .int .i64 0]) ∧ ∃ F', RP X M R { v with ch := put (put v.ch 0 (takeB m k)) k zeros } g d F' w' ∧ To F F' w w') ∨
   ((∀ j, j < v.N → useB m j = true) ∧ e = .returned (.tuple #[.int .i64 0, .int .i64 3]) ∧ Below w.heap.size w w')
set_option maxHeartbeats 4000000 in
set_option maxRecDepth 100000 in
theorem ralloc_any (h : RP X M R v g d F w) :
   Calls Tryz.prog 55 #[.pointer (some ⟨X, 0, none⟩)] w fun e w' => AllocR X M R v g d F (v.see d 0) w e w' := by
 have HU := hidm (fun (u : World) (hb : Below w.heap.size w u) => rplen_any (h.later hb))
 have HI := hidm (fun (u : World) (hb : Below w.heap.size w u) (k : Nat) (hk : k < v.N) => rpisfree_in (h.later hb) k hk)
 have HTU := hidm (fun (u : World) (hb : Below w.heap.size w u) (k : Nat) (hk : k < v.N) (h0 : k ≠ 0) (hu : useB (v.see d 0) k = false) => rturn_free (h.later hb) k hk h0 hu)
 have hsz := h.sz
 obtain ⟨m, hm⟩ : ∃ m, m = v.see d 0 := ⟨_, rfl⟩
 rw [← hm] at HI HTU ⊢
 obtain ⟨n, hn⟩ : ∃ x, x = v.N := ⟨_, rfl⟩
 rw [← hn] at HU
 have HN := hidm (show n ≤ 1024 ∧ 1 ≤ n from by omega)
 have HNE := hidm hn
 clear h hsz hm hn
 go_enter Tryz.func55, Tryz.ntmps55
 go_wp2_with fail
 go_loopw [4] (fun ii wr => ∃ i : Nat, ii = .int .i64 (i : Int) ∧ i ≤ n ∧ 1 ≤ i ∧ Hid (∀ j, j < i → useB m j = true) ∧ Hid (Below w.heap.size w wr)) (fun ii _ => (n - (intOf ii).toNat))
 case atStart => exact ⟨1, rfl, HN.out.2, Nat.le_refl _, hidm (fun j hj => by
   have : j = 0 := by omega
   subst this; rfl), hidm (Below.refl _ _)⟩
 case round =>
   rename World => wr
   obtain ⟨i, rfl, hi, h1i, HL, HB⟩ := hrel
   rcases Nat.lt_or_ge i n with hlt | hge
   · have f1 : (i : Int) < (n : Int) := by omega
     have HLT := hidm (show i < v.N from by rw [← HNE.out]; exact hlt)
     have HI0 := hidm (show i ≠ 0 from by omega)
     obtain ⟨j, hj⟩ : ∃ j, j = i + 1 := ⟨_, rfl⟩
     have i1 : (i : Int) + 1 = (j : Int) := by omega
     have i1w : IntKind.i64.wrap (j : Int) = (j : Int) := by have := HN.out; simp only [IntKind.wrap_i64]; omega
     have HJ := hidm hj
     have HJN := hidm (show j ≤ n ∧ 1 ≤ j from by omega)
     clear hj h1i
     go_wp2_with fail
     refine (HU.out wr HB.out).mono ?_
     rintro e w1 ⟨rfl, hb1⟩
     have HB1 := hidm (HB.out.trans (hb1.mono HB.out.size))
     clear hb1
     go_wp2_with fail
     refine (HI.out w1 HB1.out i HLT.out).mono ?_
     rintro e w2 ⟨rfl, hb2⟩
     have HB2 := hidm (HB1.out.trans (hb2.mono HB1.out.size))
     clear hb2
     cases hb : useB m i with
     | true =>
       have HUS := hidm hb
       clear hb
       go_wp2_with fail
       go_roundw
       case rel => exact ⟨j, rfl, HJN.out.1, HJN.out.2, hidm (fun a ha => by
         rcases Nat.lt_or_ge a i with e | e
         · exact HL.out a e
         · have : a = i := by have := HJ.out; omega
           rw [this]; exact HUS.out), HB2⟩
       case measure => have := HJ.out; have := HJN.out; simp [intOf]; omega
     | false =>
       have HUS := hidm hb
       clear hb
       go_wp2_with fail
       refine (HTU.out w2 HB2.out i HLT.out HI0.out HUS.out).mono ?_
       rintro e w3 ⟨⟨F3, rfl, h3, ht3⟩⟩
       have H3 := hidm h3
       have HT3 := hidm (To.trans (.below HB2.out) ht3)
       clear h3 ht3
       go_wp2_with fail
       refine (rput_any H3.out i HLT.out ⟨#[]⟩ (by decide)).mono ?_
       rintro e w4 ⟨⟨F4, rfl, h4, ht4⟩⟩
       rw [Dsk.pad_nil] at h4
       have H4 := hidm h4
       have HT4 := hidm (HT3.out.trans ht4)
       clear h4 ht4
       go_wp2_with fail
       go_ret2
       exact .inl ⟨i, HLT.out, HI0.out, HUS.out, HL.out, rfl, F4, H4.out, HT4.out⟩
   · obtain rfl : i = n := by omega
     have f1 : ¬ (i : Int) < (i : Int) := by omega
     go_wp2_with fail
     refine (HU.out wr HB.out).mono ?_
     rintro e w1 ⟨rfl, hb1⟩
     have HB1 := hidm (HB.out.trans (hb1.mono HB.out.size))
     clear hb1
     go_wp2_with fail
     go_ret2
     exact .inr ⟨fun j hj => HL.out j (by rw [HNE.out]; exact hj), rfl, HB1.out⟩
end
end Pgr
end Go.Proofs.YtkgbemkcnahkoaaGreatDoor
