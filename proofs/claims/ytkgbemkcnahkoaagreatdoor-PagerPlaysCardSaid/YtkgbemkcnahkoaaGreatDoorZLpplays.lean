/- PagerPlays is proved: for every pair of sizes and every script the law returns true and its arguments read as they did. No other condition. -/
import Derived.Test.YtkgbemkcnahkoaaGreatDoorZPwto
import Derived.Test.YtkgbemkcnahkoaaGreatDoorZUito
import Derived.WideKeyPair
import Derived.SizedLaws
namespace Go.Proofs.YtkgbemkcnahkoaaGreatDoor
open Go.ChangeShapes Go.WideShapes Go.ChangeAt Go.RowKit
open Go.ChangeMaps (open_string shut_string)
namespace LaPagerPlays
open Pgr
open Dsk (PD Mine KeepQ DiskIs Only Grow upd pad BoolsAt zeros open_ops OpsAt Opv)
open Crc (S S_of S_size)
theorem Sim.c4 {W w : World} {Z : Nat → Prop} {P L D X M R n N K : Nat} (h : Sim W Z P L D X M R n N K w) : w.cell? ⟨X, 4, none⟩ = some (.bool false) := by
 obtain ⟨F, ch, t, b, bc, d, h1, h2, h3⟩ := h.ex
 exact h2.c4
theorem Dk.later {W w w' : World} {Z : Nat → Prop} {D R n N K : Nat} (h : Dk W Z D R n N K w) (hb : Below w.heap.size w w') : Dk W Z D R n N K w' := by
 obtain ⟨F, d, hm, hr, h3⟩ := h.ex
 exact ⟨⟨F, d, (hm.refl_keep hb).1, hr.later hb, h3⟩⟩
theorem cellz {Z : Nat → Prop} {w w' : World} (hk : KeepQ Z w w') {p : Addr} (hq : Z p.block) {u : Value} (h : w.cell? p = some u) : w'.cell? p = some u := (cell_keep hk hq).trans h
set_option maxHeartbeats 16000000 in
set_option maxRecDepth 100000 in
theorem law_any (xa xb : Nat) (l : List Opv) (v0 : Value) (w0 : World) (hl0 : OpsAt l v0 w0) (hin : ∀ x ∈ l, x.inn) (hxa : xa < 256) (hxb : xb < 256) :
   Calls Tryz.prog 3 #[.agg #[.int .u8 (xa : Int), .int .u8 (xb : Int)], v0] w0 fun e w' => e = .returned (.bool true) ∧ Below w0.heap.size w0 w' := by
 have HIN := hidm hin
 obtain ⟨lo, lc, hv0, hlc, hlm⟩ := hl0.form
 have HOX := hidm hl0
 clear hl0 hin
 obtain ⟨ll, hll⟩ : ∃ n, n = l.length := ⟨_, rfl⟩
 have HLL := hidm hll
 rw [← hll] at hv0 hlc
 subst hv0
 have hll2 : ll ≤ 9223372036854775807 := by omega
 obtain ⟨ra, hra⟩ : ∃ r, r = xa % 50 := ⟨_, rfl⟩
 obtain ⟨dn, hdn⟩ : ∃ r, r = 8 + ra := ⟨_, rfl⟩
 obtain ⟨rb, hrb⟩ : ∃ r, r = xb % 40 := ⟨_, rfl⟩
 obtain ⟨lg, hlg⟩ : ∃ r, r = 4 + rb := ⟨_, rfl⟩
 have HA := hidm (show ((xa : Int).tmod 50) = (ra : Int) ∧ IntKind.i64.wrap (xa : Int) = (xa : Int) ∧ IntKind.i64.wrap (ra : Int) = (ra : Int) ∧ (8 : Int) + (ra : Int) = (dn : Int) ∧ IntKind.i64.wrap (dn : Int) = (dn : Int) from ⟨by rw [Int.tmod_eq_emod_of_nonneg (by omega)]; omega, by simp only [IntKind.wrap_i64]; omega, by simp only [IntKind.wrap_i64]; omega, by omega, by simp only [IntKind.wrap_i64]; omega⟩)
 have HB := hidm (show ((xb : Int).tmod 40) = (rb : Int) ∧ IntKind.i64.wrap (xb : Int) = (xb : Int) ∧ IntKind.i64.wrap (rb : Int) = (rb : Int) ∧ (4 : Int) + (rb : Int) = (lg : Int) ∧ IntKind.i64.wrap (lg : Int) = (lg : Int) from ⟨by rw [Int.tmod_eq_emod_of_nonneg (by omega)]; omega, by simp only [IntKind.wrap_i64]; omega, by simp only [IntKind.wrap_i64]; omega, by omega, by simp only [IntKind.wrap_i64]; omega⟩)
 have HR := hidm (show 8 ≤ dn ∧ dn ≤ 57 ∧ 4 ≤ lg ∧ lg ≤ 43 from by omega)
 clear hra hrb hdn hlg hxa hxb hll hlc hlm
 go_enter Tryz.func3, Tryz.ntmps3
 go_upto_region 1 with fail
 obtain ⟨w, hw⟩ : ∃ w, w = w0.alloc (.cells #[.int .u8 (xa : Int), .int .u8 (xb : Int)] 22) := ⟨_, rfl⟩
 obtain ⟨B0, hB0⟩ : ∃ B, B = w0.heap.size := ⟨_, rfl⟩
 have HW0 := hidm (show Below w0.heap.size w0 w from by rw [hw]; exact (Below.refl _ _).alloc (Nat.le_refl _) _)
 have hrow : w.heap[B0]? = some (.cells #[.int .u8 (xa : Int), .int .u8 (xb : Int)] 22 (0, 0)) := by rw [hw, hB0]; exact heap_alloc_last w0 _
 have HC0 := hidm (show w.cell? ⟨B0, 0, none⟩ = some (.int .u8 (xa : Int)) from cell_of_row w B0 0 _ _ (0, 0) hrow)
 have HC1 := hidm (show w.cell? ⟨B0, 1, none⟩ = some (.int .u8 (xb : Int)) from cell_of_row w B0 1 _ _ (0, 0) hrow)
 rw [← hw, ← hB0]
 have HSL := hidm (show OpsAt l (.slice lo l.length lc) w from by have h := HOX.out.later HW0.out; rw [HLL.out] at h; exact h)
 clear hw hB0 hrow HOX
 go_cut [5] (fun s5 wx => s5 = .int .i64 (dn : Int) ∧ wx = w)
 case first =>
   have c0 := HC0.out
   obtain ⟨q1, q2, q3, q4, q5⟩ := HA.out
   go_wp2_with fail
   go_meet
   exact ⟨by trivial, rfl⟩
 case rest =>
 obtain ⟨rfl, hwc⟩ := hcut
 have hwc2 := hwc.symm
 subst hwc2
 go_upto_region 2 with fail
 go_cut [6] (fun s6 wx => s6 = .int .i64 (lg : Int) ∧ wx = w)
 case first =>
   have c1 := HC1.out
   obtain ⟨q1, q2, q3, q4, q5⟩ := HB.out
   go_wp2_with fail
   go_meet
   exact ⟨by trivial, rfl⟩
 case rest =>
 obtain ⟨rfl, hwc⟩ := hcut
 have hwc2 := hwc.symm
 subst hwc2
 clear HA HB HC0 HC1
 have N0 := hidm (Dsk.m_new (W := w) (w := w) dn (by have := HR.out; omega) (by have := HR.out; omega) (Below.refl _ _))
 go_wp2_with fail
 refine N0.out.mono ?_
 rintro e w1 ⟨rfl, hm1, -⟩
 have HM1 := hidm hm1
 obtain ⟨D, hD⟩ : ∃ D, D = w.heap.size + 1 := ⟨_, rfl⟩
 rw [← hD] at HM1 ⊢
 clear hD hm1 N0
 by_cases hgood : lg + 1 ≤ dn
 · obtain ⟨nl, hnl⟩ : ∃ x, x = lg - 2 := ⟨_, rfl⟩
   obtain ⟨N, hN⟩ : ∃ x, x = dn - lg := ⟨_, rfl⟩
   have HNN := hidm (show dn = 2 + nl + N ∧ lg = 2 + nl ∧ 2 ≤ nl ∧ nl ≤ 41 ∧ 1 ≤ N ∧ N ≤ 53 from by have := HR.out; omega)
   have RN := hidm (DkR.new (n := nl) (N := N) dn HM1.out (by have := HR.out; omega) HNN.out.1)
   clear hgood hnl hN HM1
   go_wp2_with fail
   refine RN.out.mono ?_
   rintro e w2 ⟨R, rfl, h2⟩
   have H2 := hidm h2
   clear h2 RN
   go_wp2_with fail
   refine (H2.out.open (by have := HNN.out; omega) (by have := HNN.out; omega) (by omega) lg HNN.out.2.1).mono ?_
   rintro e w3 ⟨P, L, rfl, h3, -⟩
   have H3 := hidm h3
   clear h3 H2
   go_wp2_with fail
   refine (H3.out.open (by have := HNN.out; omega) (by have := HNN.out; omega) (by omega) lg HNN.out.2.1).mono ?_
   rintro e w4 ⟨X, rfl, ⟨M, h4⟩, -⟩
   have H4 := hidm h4
   clear h4 H3
   go_upto_block 0 with fail
   go_cut [15] (fun _ wx => ∃ (P L X M : Nat), Hid (Sim w (fun _ => False) P L D X M R nl N 400000 wx))
   case first => as_aux_lemma =>
     go_wp2_with fail
     go_loopw [11, 13, 15] (fun pp qq ii wr => ∃ (i P L X M : Nat), pp = .pointer (some ⟨P, 0, none⟩) ∧ qq = .pointer (some ⟨X, 0, none⟩) ∧ ii = .int .i64 i ∧ i ≤ ll ∧ i ≤ 40 ∧ Hid (Sim w (fun _ => False) P L D X M R nl N (2000 + 8000 * i) wr)) (fun _ _ ii _ => (ll - (intOf ii).toNat))
     case atStart => exact ⟨0, P, L, X, M, rfl, rfl, rfl, by omega, by omega, H4⟩
     case round => as_aux_lemma =>
       clear H4
       rename World => wr
       obtain ⟨i, P, L, X, M, rfl, rfl, rfl, hi, hi3, HS⟩ := hrel
       by_cases hlt : i < ll ∧ i < 40
       · obtain ⟨hlt, hlt2⟩ := hlt
         have g1 : (i : Int) < (ll : Int) := by omega
         have g2 : (i : Int) < 40 := by omega
         have hil : i < l.length := by rw [← HLL.out]; exact hlt
         obtain ⟨b', o, cp, he, hbl, q0, q1, q2, q3⟩ := HSL.out.at i hil
         have hks := HSL.out.bools i hil
         have HXI0 := HIN.out _ (List.getElem_mem hil)
         have he2 : (Value.slice lo ll lc) = .slice (some ⟨b', o, none⟩) l.length cp := by rw [HLL.out]; exact he
         simp only [Value.slice.injEq] at he2
         obtain ⟨rfl, -, rfl⟩ := he2
         clear he
         obtain ⟨x, hx⟩ : ∃ x, x = l[i] := ⟨_, rfl⟩
         rw [← hx] at q0 q1 q2 q3 HXI0 hks
         have HXI := hidm HXI0
         clear hx HXI0
         have hbel := HS.out.bel
         have c0 := (hbel.cell (p := ⟨b', o + i * 4, none⟩) hbl).trans q0
         have c1 := (hbel.cell (p := ⟨b', o + i * 4 + 1, none⟩) hbl).trans q1
         have c2 := (hbel.cell (p := ⟨b', o + i * 4 + 2, none⟩) hbl).trans q2
         have c3 := (hbel.cell (p := ⟨b', o + i * 4 + 3, none⟩) hbl).trans q3
         obtain ⟨kn, hkn⟩ : ∃ kn, kn = x.ks.length := ⟨_, rfl⟩
         rw [← hkn] at c3
         have hkc : kn ≤ x.kc := by have := hks.1; omega
         have hkm : x.kc ≤ 9223372036854775807 := hks.2.1
         have HKN := hidm hkn
         have HKC := hidm (show kn ≤ x.kc ∧ x.kc ≤ 9223372036854775807 from ⟨hkc, hkm⟩)
         have i1 : (i : Int) + 1 = ((i + 1 : Nat) : Int) := by omega
         obtain ⟨j, hj⟩ : ∃ j, j = i + 1 := ⟨_, rfl⟩
         rw [← hj] at i1
         have i1w : IntKind.i64.wrap (j : Int) = (j : Int) := by simp only [IntKind.wrap_i64]; omega
         have HJ := hidm hj
         have HJ2 := hidm (show j ≤ ll ∧ j ≤ 40 ∧ i ≤ 40 from by omega)
         clear hj hbel q0 q1 q2 q3 hks hkn
         obtain ⟨WA, hWA⟩ : ∃ WA, WA = wr.alloc (.cells #[.int .i64 x.kind, .int .i64 x.pos, .string x.s, .slice x.ko kn x.kc] 39) := ⟨_, rfl⟩
         have hbA : Below wr.heap.size wr WA := by rw [hWA]; exact (Below.refl _ _).alloc (Nat.le_refl _) _
         have hrA : WA.heap[wr.heap.size]? = some (.cells #[.int .i64 x.kind, .int .i64 x.pos, .string x.s, .slice x.ko kn x.kc] 39 (0, 0)) := by rw [hWA]; exact heap_alloc_last _ _
         have HSZ : wr.heap.size < WA.heap.size := by rw [hWA]; simp
         obtain ⟨B1, hB1⟩ : ∃ B, B = wr.heap.size := ⟨_, rfl⟩
         have HBA := hidm (HS.out.guard (B0 := wr.heap.size) hbA (Nat.le_refl _) HSZ)
         have HA0 := hidm (show WA.cell? ⟨wr.heap.size, 0, none⟩ = some (.int .i64 x.kind) from cell_of_row WA wr.heap.size 0 _ _ (0, 0) hrA)
         have HA1 := hidm (show WA.cell? ⟨wr.heap.size, 1, none⟩ = some (.int .i64 x.pos) from cell_of_row WA wr.heap.size 1 _ _ (0, 0) hrA)
         have HA2 := hidm (show WA.cell? ⟨wr.heap.size, 2, none⟩ = some (.string x.s) from cell_of_row WA wr.heap.size 2 _ _ (0, 0) hrA)
         have HA3 := hidm (show WA.cell? ⟨wr.heap.size, 3, none⟩ = some (.slice x.ko kn x.kc) from cell_of_row WA wr.heap.size 3 _ _ (0, 0) hrA)
         have HWA := hidm hWA
         clear hWA hbA hrA HSZ
         rw [← hB1] at HBA HA0 HA1 HA2 HA3
         rcases Nat.lt_or_ge 300 x.s.size with hs3 | hs3
         · have g3 : (300 : Int) < (x.s.size : Int) := by omega
           go_wp2_with fail
           rw [← HWA.out]
           go_roundw
           case rel => exact ⟨j, P, L, X, M, rfl, rfl, rfl, HJ2.out.1, HJ2.out.2.1, hidm (HBA.out.drop.more (by rw [HJ.out]; omega))⟩
           case measure => have := HJ.out; simp [intOf]; omega
         · have g3 : ¬ (300 : Int) < (x.s.size : Int) := by omega
           go_upto_region 16 with fail
           rw [← HWA.out, ← hB1]
           clear c0 c1 c2 c3 HS HWA hB1
           have a0 := HA0.out
           have a1 := HA1.out
           by_cases hk6 : x.kind = 6
           · as_aux_lemma =>
             have e6 : (x.kind == 6) = true := by simpa using hk6
             have C6 := hidm (HBA.out.fuse x.pos HXI.out.p1)
             go_wp2_with fail
             refine C6.out.mono ?_
             rintro e w5 ⟨rfl, h5, k5⟩
             have H5 := hidm h5
             have b1 := cellz k5 (p := ⟨B1, 1, none⟩) rfl HA1.out
             have C7 := hidm (H5.out.fuse HXI.out.p1)
             clear h5 k5 a0 a1
             go_wp2_with fail
             refine C7.out.mono ?_
             rintro e w6 ⟨rfl, h6, k6⟩
             have H6 := hidm h6
             clear h6 k6
             go_wp2_with fail
             go_roundw
             case rel => exact ⟨j, P, L, X, M, rfl, rfl, rfl, HJ2.out.1, HJ2.out.2.1, hidm (H6.out.drop.more (by rw [HJ.out]; omega))⟩
             case measure => have := HJ.out; simp [intOf]; omega
           · have e6 : (x.kind == 6) = false := by simpa using hk6
             go_upto_if 115 with fail
             obtain ⟨K, hK⟩ : ∃ K, K = 2000 + 8000 * i := ⟨_, rfl⟩
             have HKK := hidm (show K = 2000 + 8000 * i ∧ K ≤ 322000 from ⟨hK, by have := HJ2.out.2.2; omega⟩)
             rw [← hK] at HBA
             clear hK e6 a0 a1
             go_cut [11, 13] (fun pp qq wx => ∃ (P L X M : Nat) (hal : Bool), pp = .pointer (some ⟨P, 0, none⟩) ∧ qq = .pointer (some ⟨X, 0, none⟩) ∧ Hid (hal = false → Sim w (fun k => k = B1) P L D X M R nl N (K + 3000) wx) ∧ Hid (hal = true → Dk w (fun k => k = B1) D R nl N (K + 3000) wx) ∧ Hid (wx.cell? ⟨X, 4, none⟩ = some (.bool hal)) ∧ Hid (wx.cell? ⟨B1, 1, none⟩ = some (.int .i64 x.pos)))
             case first =>
               by_cases hk5 : x.kind = 5
               · as_aux_lemma =>
                 have e5 : (x.kind == 5) = true := by simpa using hk5
                 clear hk5 hk6
                 have HD5 := hidm HBA.out.dk
                 have HDR := hidm (show ∀ u, Below WA.heap.size WA u → Calls Tryz.prog 16 #[.pointer (some ⟨R, 0, none⟩)] u fun e w' => ∃ v, e = .returned v ∧ Dsk.IntsAt u.heap.size [] v w' ∧ Below u.heap.size u w' from fun u hu => (HBA.out.later hu).dirty.2)
                 have PC3 := HA3
                 obtain ⟨kb1, kb2⟩ := HKC.out
                 go_upto_region 20 with fail
                 have hmin : min (kn : Int) 0 = 0 := by omega
                 refine wp_region_held_drew (S := fun u => Below WA.heap.size WA u) (by kernel_rfl) ((Below.refl _ _).drew) (fun hHeld => ?_)
                 refine Man.t1 0 hHeld ?_
                 (try simp only [Act.put, Mqa, Mqb, Mqc])
                 refine Man.take1 (i := 1) (v := ?_) rfl (by kernel_rfl) (by kernel_rfl) (by kernel_rfl) (fun _ _ _ h => h) (by rfl) ?_ hHeld ?_
                 rotate_left
                 · intro u hSu
                   have c9 := cell_later hSu PC3.out
                   go_simp
                   (try with_reducible rfl)
                 (try simp only [Act.put, Mqa, Mqb, Mqc])
                 refine Man.t1 2 hHeld ?_
                 (try simp only [Act.put, Mqa, Mqb, Mqc])
                 refine Man.take1 (i := 3) (v := ?_) rfl (by kernel_rfl) (by kernel_rfl) (by kernel_rfl) (fun _ _ _ h => h) (by rfl) ?_ hHeld ?_
                 rotate_left
                 · intro u hSu
                   have c9 := cell_later hSu PC3.out
                   go_simp
                   (try with_reducible rfl)
                 (try simp only [Act.put, Mqa, Mqb, Mqc])
                 refine Man.t1 4 hHeld ?_
                 (try simp only [Act.put, Mqa, Mqb, Mqc])
                 refine Man.t1 5 hHeld ?_
                 (try simp only [Act.put, Mqa, Mqb, Mqc])
                 refine Man.one (i := 6) rfl (by kernel_rfl) (fun K hK => ?_)
                 go_simp
                 with_reducible refine (HDR.out _ hHeld).mono ?_
                 rintro e wd ⟨xd, rfl, hid, hbd⟩
                 obtain ⟨vo, vc, rfl, hvc, hvm⟩ := hid.form
                 refine hK.out _ _ (hHeld.trans (hbd.mono hHeld.size)) (fun hNew => ?_)
                 clear hbd hid
                 clear hK K hHeld
                 have hHeld := hNew
                 clear hNew
                 skip
                 refine Man.t1 7 hHeld ?_
                 (try simp only [Act.put, Mqa, Mqb, Mqc])
                 refine Man.t1 8 hHeld ?_
                 (try simp only [Act.put, Mqa, Mqb, Mqc])
                 refine Man.t1 9 hHeld ?_
                 (try simp only [Act.put, Mqa, Mqb, Mqc])
                 refine Man.t1 10 hHeld ?_
                 (try simp only [Act.put, Mqa, Mqb, Mqc])
                 refine wpAnyH_done (by kernel_rfl) ?_ _
                 have C1 := hidm (Dk.crash (Dk.later HD5.out hHeld) x.ko x.kc HKC.out.2)
                 have HK4 := hidm (HBA.out.kept hHeld)
                 clear hHeld HD5 HDR hmin kb1 kb2 e5
                 go_wp2_with fail
                 refine C1.out.mono ?_
                 rintro e w5 ⟨rfl, h5, k5⟩
                 have C2 := hidm (h5.crash x.ko x.kc HKC.out.2)
                 have HK5 := hidm (HK4.out.trans k5)
                 clear h5 k5 C1 HK4
                 go_wp2_with fail
                 refine C2.out.mono ?_
                 rintro e w6 ⟨rfl, h6, k6⟩
                 have C3 := hidm (h6.open (by have := HNN.out; omega) (by have := HNN.out; omega) (by have := HKK.out.2; omega) lg HNN.out.2.1)
                 have HK6 := hidm (HK5.out.trans k6)
                 clear h6 k6 C2 HK5
                 go_wp2_with fail
                 refine C3.out.mono ?_
                 rintro e w7 ⟨P7, L7, rfl, h7, k7⟩
                 have C4 := hidm (h7.open (by have := HNN.out; omega) (by have := HNN.out; omega) (by have := HKK.out.2; omega) lg HNN.out.2.1)
                 have HK7 := hidm (HK6.out.trans k7)
                 clear h7 k7 C3 HK6
                 go_wp2_with fail
                 refine C4.out.mono ?_
                 rintro e w8 ⟨X8, rfl, ⟨M8, h8⟩, k8⟩
                 have HK8 := hidm (HK7.out.trans k8)
                 clear k8 C4 HK7
                 have HSX := hidm (h8.more (show K + 2000 ≤ K + 3000 from Nat.add_le_add_left (by decide) K))
                 have C44 := hidm (Sim.c4 h8)
                 clear h8
                 go_wp2_with fail
                 go_meet
                 exact ⟨P7, L7, X8, M8, false, rfl, rfl, hidm (fun _ => HSX.out), hidm (fun e => by cases e), C44, hidm (cellz HK8.out (p := ⟨B1, 1, none⟩) rfl HA1.out)⟩
               · as_aux_lemma =>
                 have e5 : (x.kind == 5) = false := by simpa using hk5
                 obtain ⟨r, hdo⟩ := HBA.out.do x HXI.out (by have := HNN.out; omega) (by have := HKK.out.2; omega)
                 have HOPV := hidm (show opV x = .agg #[.int .i64 x.kind, .int .i64 x.pos, .string x.s, .slice x.ko kn x.kc] from by rw [HKN.out]; rfl)
                 rw [HOPV.out] at hdo
                 have CD := hidm hdo
                 have a0 := HA0.out
                 have a1 := HA1.out
                 have a2 := HA2.out
                 have a3 := HA3.out
                 clear hdo hk5 hk6
                 go_wp2_with fail
                 refine CD.out.mono ?_
                 rintro e w5 ⟨he, h5, k5⟩
                 have he2 : e = .returned (.tuple #[.int .i64 r.a, .string r.s, .int .i64 r.c]) := he
                 subst he2
                 have hr5 := h5.refer HXI.out (by have := HNN.out; omega) (by have := HNN.out; omega) (by have := HKK.out.2; omega)
                 rw [HOPV.out] at hr5
                 have CR := hidm hr5
                 have b0 := cellz k5 (p := ⟨B1, 0, none⟩) rfl HA0.out
                 have b1 := cellz k5 (p := ⟨B1, 1, none⟩) rfl HA1.out
                 have b2 := cellz k5 (p := ⟨B1, 2, none⟩) rfl HA2.out
                 have b3 := cellz k5 (p := ⟨B1, 3, none⟩) rfl HA3.out
                 have HB1 := hidm b1
                 clear he h5 k5 hr5 CD a0 a1 a2 a3 e5
                 go_wp2_with fail
                 refine CR.out.mono ?_
                 rintro e w6 ⟨he, h6, k6⟩
                 have he2 : e = .returned (.tuple #[.int .i64 r.a, .string r.s, .int .i64 r.c]) := he
                 subst he2
                 have HON := hidm h6.on
                 have HCUT := hidm h6.cut
                 have HHAL := hidm h6.hal
                 have HP1 := hidm (cellz k6 (p := ⟨B1, 1, none⟩) rfl HB1.out)
                 clear he h6 k6 CR b0 b1 b2 b3 HB1
                 go_wp2_with fail
                 go_meet
                 exact ⟨P, L, X, M, r.hal, rfl, rfl, HON, HCUT, HHAL, HP1⟩
             case rest =>
               obtain ⟨P, L, X, M, hal, rfl, rfl, HON, HOFF, HC4, HP1⟩ := hcut
               clear HBA HA0 HA1 HA2 HA3
               have c4 := HC4.out
               go_upto_if 180 with fail
               go_cut [11, 13] (fun pp qq wx => ∃ (P L X M : Nat), pp = .pointer (some ⟨P, 0, none⟩) ∧ qq = .pointer (some ⟨X, 0, none⟩) ∧ Hid (Sim w (fun k => k = B1) P L D X M R nl N (K + 5000) wx) ∧ Hid (wx.cell? ⟨B1, 1, none⟩ = some (.int .i64 x.pos)))
               case first =>
                 clear c4
                 cases hal
                 · as_aux_lemma =>
                   have HSX := hidm ((HON.out rfl).more (show K + 3000 ≤ K + 5000 from Nat.add_le_add_left (by decide) K))
                   clear HON HOFF
                   go_wp2_with fail
                   go_meet
                   exact ⟨P, L, X, M, rfl, rfl, HSX, HP1⟩
                 · as_aux_lemma =>
                   have C1 := hidm ((HOFF.out rfl).crash none 0 (by decide))
                   have HK4 := hidm (show KeepQ (fun k => k = B1) wc wc from fun _ _ => rfl)
                   clear HON HOFF
                   go_wp2_with fail
                   refine C1.out.mono ?_
                   rintro e w5 ⟨rfl, h5, k5⟩
                   have C2 := hidm (h5.crash none 0 (by decide))
                   have HK5 := hidm (HK4.out.trans k5)
                   clear h5 k5 C1 HK4
                   go_wp2_with fail
                   refine C2.out.mono ?_
                   rintro e w6 ⟨rfl, h6, k6⟩
                   have C3 := hidm (h6.open (by have := HNN.out; omega) (by have := HNN.out; omega) (by have := HKK.out.2; omega) lg HNN.out.2.1)
                   have HK6 := hidm (HK5.out.trans k6)
                   clear h6 k6 C2 HK5
                   go_wp2_with fail
                   refine C3.out.mono ?_
                   rintro e w7 ⟨P7, L7, rfl, h7, k7⟩
                   have C4 := hidm (h7.open (by have := HNN.out; omega) (by have := HNN.out; omega) (by have := HKK.out.2; omega) lg HNN.out.2.1)
                   have HK7 := hidm (HK6.out.trans k7)
                   clear h7 k7 C3 HK6
                   go_wp2_with fail
                   refine C4.out.mono ?_
                   rintro e w8 ⟨X8, rfl, ⟨M8, h8⟩, k8⟩
                   have HK8 := hidm (HK7.out.trans k8)
                   clear k8 C4 HK7
                   have HSX := hidm (h8.more (show K + 3000 + 2000 ≤ K + 5000 from Nat.le_refl _))
                   clear h8
                   go_wp2_with fail
                   go_meet
                   exact ⟨P7, L7, X8, M8, rfl, rfl, HSX, hidm (cellz HK8.out (p := ⟨B1, 1, none⟩) rfl HP1.out)⟩
               case rest => as_aux_lemma =>
                 clear HON HOFF HC4 HP1 c4
                 obtain ⟨P, L, X, M, rfl, rfl, HS2, PC⟩ := hcut
                 obtain ⟨lv, fr, nn, bf, hv⟩ := HS2.out.views x.pos
                 have VW := hidm hv
                 clear hv
                 go_upto_region 42 with fail
                 refine wp_region_held_drew (S := fun u => Below wc.heap.size wc u) (by kernel_rfl) ((Below.refl _ _).drew) (fun hHeld => ?_)
                 refine Man.t1 0 hHeld ?_
                 (try simp only [Act.put, Mqa, Mqb, Mqc])
                 refine Man.t1 2 hHeld ?_
                 (try simp only [Act.put, Mqa, Mqb, Mqc])
                 refine Man.one (i := 1) rfl (by kernel_rfl) (fun K hK => ?_)
                 go_simp
                 with_reducible refine (VW.out.a1 _ hHeld).mono ?_
                 rintro e wa ⟨xa, rfl, hia, hba⟩
                 have HXa := hidm hia
                 refine hK.out _ _ (hHeld.trans (hba.mono hHeld.size)) (fun hNew => ?_)
                 clear hba hia
                 clear hK K hHeld
                 have hHeld := hNew
                 clear hNew
                 skip
                 refine Man.one (i := 3) rfl (by kernel_rfl) (fun K hK => ?_)
                 go_simp
                 with_reducible refine (VW.out.a2 _ hHeld).mono ?_
                 rintro e wb ⟨xb, rfl, hib, hbb⟩
                 have HXb := hidm hib
                 have HYa := hidm (HXa.out.later hbb)
                 refine hK.out _ _ (hHeld.trans (hbb.mono hHeld.size)) (fun hNew => ?_)
                 clear hbb hib
                 clear hK K hHeld
                 have hHeld := hNew
                 clear hNew
                 skip
                 refine Man.one (i := 4) rfl (by kernel_rfl) (fun K hK => ?_)
                 go_simp
                 with_reducible refine (ints_same _ _ _ HYa.out HXb.out).mono ?_
                 rintro e wc ⟨rfl, hbc⟩
                 refine hK.out _ _ (hHeld.trans (hbc.mono hHeld.size)) (fun hNew => ?_)
                 clear hbc
                 clear hK K hHeld
                 have hHeld := hNew
                 clear hNew
                 skip
                 refine Man.t1 5 hHeld ?_
                 (try simp only [Act.put, Mqa, Mqb, Mqc])
                 refine Man.t1 6 hHeld ?_
                 (try simp only [Act.put, Mqa, Mqb, Mqc])
                 refine Man.t1 7 hHeld ?_
                 (try simp only [Act.put, Mqa, Mqb, Mqc])
                 refine Man.t1 9 hHeld ?_
                 (try simp only [Act.put, Mqa, Mqb, Mqc])
                 refine Man.one (i := 8) rfl (by kernel_rfl) (fun K hK => ?_)
                 go_simp
                 with_reducible refine (VW.out.f1 _ hHeld).mono ?_
                 rintro e wd ⟨rfl, hbd⟩
                 refine hK.out _ _ (hHeld.trans (hbd.mono hHeld.size)) (fun hNew => ?_)
                 clear hbd
                 clear hK K hHeld
                 have hHeld := hNew
                 clear hNew
                 skip
                 refine Man.one (i := 10) rfl (by kernel_rfl) (fun K hK => ?_)
                 go_simp
                 with_reducible refine (VW.out.f2 _ hHeld).mono ?_
                 rintro e we ⟨rfl, hbe⟩
                 refine hK.out _ _ (hHeld.trans (hbe.mono hHeld.size)) (fun hNew => ?_)
                 clear hbe
                 clear hK K hHeld
                 have hHeld := hNew
                 clear hNew
                 skip
                 refine Man.t1 11 hHeld ?_
                 (try simp only [Act.put, Mqa, Mqb, Mqc])
                 refine Man.t1 12 hHeld ?_
                 (try simp only [Act.put, Mqa, Mqb, Mqc])
                 refine Man.t1 13 hHeld ?_
                 (try simp only [Act.put, Mqa, Mqb, Mqc])
                 refine Man.t1 14 hHeld ?_
                 (try simp only [Act.put, Mqa, Mqb, Mqc])
                 refine Man.t1 16 hHeld ?_
                 (try simp only [Act.put, Mqa, Mqb, Mqc])
                 refine Man.one (i := 15) rfl (by kernel_rfl) (fun K hK => ?_)
                 go_simp
                 with_reducible refine (VW.out.d1 _ hHeld).mono ?_
                 rintro e wf ⟨xf, rfl, hif, hbf⟩
                 have HXf := hidm hif
                 refine hK.out _ _ (hHeld.trans (hbf.mono hHeld.size)) (fun hNew => ?_)
                 clear hbf hif
                 clear hK K hHeld
                 have hHeld := hNew
                 clear hNew
                 skip
                 refine Man.one (i := 17) rfl (by kernel_rfl) (fun K hK => ?_)
                 go_simp
                 with_reducible refine (VW.out.d2 _ hHeld).mono ?_
                 rintro e wg ⟨xg, rfl, hig, hbg⟩
                 have HXg := hidm hig
                 have HYf := hidm (HXf.out.later hbg)
                 refine hK.out _ _ (hHeld.trans (hbg.mono hHeld.size)) (fun hNew => ?_)
                 clear hbg hig
                 clear hK K hHeld
                 have hHeld := hNew
                 clear hNew
                 skip
                 refine Man.one (i := 18) rfl (by kernel_rfl) (fun K hK => ?_)
                 go_simp
                 with_reducible refine (ints_same _ _ _ HYf.out HXg.out).mono ?_
                 rintro e wh ⟨rfl, hbh⟩
                 refine hK.out _ _ (hHeld.trans (hbh.mono hHeld.size)) (fun hNew => ?_)
                 clear hbh
                 clear hK K hHeld
                 have hHeld := hNew
                 clear hNew
                 skip
                 refine Man.t1 19 hHeld ?_
                 (try simp only [Act.put, Mqa, Mqb, Mqc])
                 refine Man.t1 20 hHeld ?_
                 (try simp only [Act.put, Mqa, Mqb, Mqc])
                 refine Man.t1 21 hHeld ?_
                 (try simp only [Act.put, Mqa, Mqb, Mqc])
                 refine Man.t1 22 hHeld ?_
                 (try simp only [Act.put, Mqa, Mqb, Mqc])
                 refine Man.t1 24 hHeld ?_
                 (try simp only [Act.put, Mqa, Mqb, Mqc])
                 refine Man.one (i := 23) rfl (by kernel_rfl) (fun K hK => ?_)
                 go_simp
                 with_reducible refine (VW.out.n1 _ hHeld).mono ?_
                 rintro e wi ⟨rfl, hbi⟩
                 refine hK.out _ _ (hHeld.trans (hbi.mono hHeld.size)) (fun hNew => ?_)
                 clear hbi
                 clear hK K hHeld
                 have hHeld := hNew
                 clear hNew
                 skip
                 refine Man.one (i := 25) rfl (by kernel_rfl) (fun K hK => ?_)
                 go_simp
                 with_reducible refine (VW.out.n2 _ hHeld).mono ?_
                 rintro e wj ⟨rfl, hbj⟩
                 refine hK.out _ _ (hHeld.trans (hbj.mono hHeld.size)) (fun hNew => ?_)
                 clear hbj
                 clear hK K hHeld
                 have hHeld := hNew
                 clear hNew
                 skip
                 refine Man.t1 26 hHeld ?_
                 (try simp only [Act.put, Mqa, Mqb, Mqc])
                 refine Man.t1 27 hHeld ?_
                 (try simp only [Act.put, Mqa, Mqb, Mqc])
                 refine Man.t1 28 hHeld ?_
                 (try simp only [Act.put, Mqa, Mqb, Mqc])
                 refine Man.t1 29 hHeld ?_
                 (try simp only [Act.put, Mqa, Mqb, Mqc])
                 refine Man.t1 30 hHeld ?_
                 (try simp only [Act.put, Mqa, Mqb, Mqc])
                 refine Man.take1 (i := 31) (v := ?_) rfl (by kernel_rfl) (by kernel_rfl) (by kernel_rfl) (fun _ _ _ h => h) (by rfl) ?_ hHeld ?_
                 rotate_left
                 · intro u hSu
                   have c9 := cell_later hSu PC.out
                   go_simp
                   (try with_reducible rfl)
                 (try simp only [Act.put, Mqa, Mqb, Mqc])
                 refine Man.t1 33 hHeld ?_
                 (try simp only [Act.put, Mqa, Mqb, Mqc])
                 refine Man.t1 34 hHeld ?_
                 (try simp only [Act.put, Mqa, Mqb, Mqc])
                 refine Man.take1 (i := 35) (v := ?_) rfl (by kernel_rfl) (by kernel_rfl) (by kernel_rfl) (fun _ _ _ h => h) (by rfl) ?_ hHeld ?_
                 rotate_left
                 · intro u hSu
                   have c9 := cell_later hSu PC.out
                   go_simp
                   (try with_reducible rfl)
                 (try simp only [Act.put, Mqa, Mqb, Mqc])
                 refine Man.one (i := 32) rfl (by kernel_rfl) (fun K hK => ?_)
                 go_simp
                 with_reducible refine (VW.out.i1 _ hHeld).mono ?_
                 rintro e wk ⟨rfl, hbk⟩
                 refine hK.out _ _ (hHeld.trans (hbk.mono hHeld.size)) (fun hNew => ?_)
                 clear hbk
                 clear hK K hHeld
                 have hHeld := hNew
                 clear hNew
                 skip
                 refine Man.one (i := 36) rfl (by kernel_rfl) (fun K hK => ?_)
                 go_simp
                 with_reducible refine (VW.out.i2 _ hHeld).mono ?_
                 rintro e wl ⟨rfl, hbl⟩
                 refine hK.out _ _ (hHeld.trans (hbl.mono hHeld.size)) (fun hNew => ?_)
                 clear hbl
                 clear hK K hHeld
                 have hHeld := hNew
                 clear hNew
                 skip
                 refine Man.t1 37 hHeld ?_
                 (try simp only [Act.put, Mqa, Mqb, Mqc])
                 refine Man.t1 38 hHeld ?_
                 (try simp only [Act.put, Mqa, Mqb, Mqc])
                 refine wpAnyH_done (by kernel_rfl) ?_ _
                 have HSE := hidm (HS2.out.later hHeld)
                 clear hHeld
                 go_wp2_with fail
                 go_roundw
                 case rel => exact ⟨j, P, L, X, M, rfl, rfl, rfl, HJ2.out.1, HJ2.out.2.1, hidm (HSE.out.drop.more (by rw [HKK.out.1, HJ.out]; omega))⟩
                 case measure => have := HJ.out; simp [intOf]; omega
       · have HSE := hidm (show Sim w (fun _ => False) P L D X M R nl N 400000 wr from HS.out.more (by omega))
         clear HS
         by_cases hge : i < ll
         · have g1 : (i : Int) < (ll : Int) := by omega
           have g2 : ¬ (i : Int) < 40 := by omega
           go_wp2_with fail
           go_meet
           exact ⟨_, _, _, _, HSE⟩
         · obtain rfl : i = ll := by omega
           have g1 : ¬ (i : Int) < (i : Int) := by omega
           go_wp2_with fail
           go_meet
           exact ⟨_, _, _, _, HSE⟩
   case rest => as_aux_lemma =>
     obtain ⟨P, L, X, M, HSE⟩ := hcut
     clear H4
     go_wp2_with fail
     refine (HSE.out.sectors dn HNN.out.1 (by have := HR.out; omega)).mono ?_
     rintro e w5 ⟨rfl, hb5⟩
     have HB5 := hidm (HSE.out.bel.trans (hb5.mono HSE.out.bel.size))
     clear hb5
     go_wp2_with fail
     refine (known_any _).mono ?_
     rintro e w6 ⟨rfl, hb6⟩
     have HB6 := hidm (HW0.out.trans ((HB5.out.trans (hb6.mono HB5.out.size)).mono HW0.out.size))
     clear hb6
     go_wp2_with fail
     go_ret
     exact ⟨by trivial, HB6.out⟩
 · as_aux_lemma =>
   have HNB := hidm (show ¬ lg + 1 ≤ dn from hgood)
   have RN := hidm (DkR.new (n := 2) (N := dn - 4) dn HM1.out (by have := HR.out; omega) (by have := HR.out; omega))
   clear hgood HM1
   go_wp2_with fail
   refine RN.out.mono ?_
   rintro e w2 ⟨R, rfl, h2⟩
   have H2 := hidm h2
   clear h2 RN
   go_wp2_with fail
   refine (H2.out.badP lg (by have := HR.out; omega) (by have := HR.out; have := HNB.out; omega)).mono ?_
   rintro e w3 ⟨rfl, rfl⟩
   go_wp2_with fail
   refine (H2.out.badR lg (by have := HR.out; omega) (by have := HR.out; have := HNB.out; omega)).mono ?_
   rintro e w4 ⟨X, rfl, hb4⟩
   have H4 := hidm (H2.out.later hb4)
   clear hb4 H2
   go_upto_block 0 with fail
   go_cut [15] (fun _ wx => wx = w4)
   case first => as_aux_lemma =>
     go_wp2_with fail
     go_loopw [11, 15] (fun pp ii wr => pp = .pointer none ∧ ii = .int .i64 0 ∧ wr = w4) (fun _ _ _ => 0)
     case atStart => exact ⟨rfl, rfl, rfl⟩
     case round =>
       rename World => wr
       obtain ⟨rfl, rfl, rfl⟩ := hrel
       by_cases h0 : 0 < ll
       · have g0 : (0 : Int) < (ll : Int) := by omega
         go_wp2_with fail
         go_meet
         exact rfl
       · obtain rfl : ll = 0 := by omega
         have g0 : ¬ (0 : Int) < ((0 : Nat) : Int) := by omega
         go_wp2_with fail
         go_meet
         exact rfl
   case rest =>
   have hwc := hcut.symm
   subst hwc
   go_wp2_with fail
   refine (H4.out.sectors dn (by have := HR.out; omega) (by have := HR.out; omega)).mono ?_
   rintro e w5 ⟨rfl, hb5⟩
   have HB5 := hidm (H4.out.bel.trans (hb5.mono H4.out.bel.size))
   clear hb5
   go_wp2_with fail
   refine (known_any _).mono ?_
   rintro e w6 ⟨rfl, hb6⟩
   have HB6 := hidm (HW0.out.trans ((HB5.out.trans (hb6.mono HB5.out.size)).mono HW0.out.size))
   clear hb6
   go_wp2_with fail
   go_ret
   exact ⟨by trivial, HB6.out⟩
theorem laidOut : laidOutB Tryz.prog = true := by kernel_rfl
set_option maxRecDepth 100000 in
theorem contract (H : Type) (enc : TypeId × Value → H) (W : World) (base : Nat) (args : Array Value) (ds gs : List (DataW H)) (before : List MemPlace)
   (hval : ∀ (j : Nat) t v, Tryz.f3.params[j]? = some t → args[j]? = some v → Value.okWide Tryz.prog W .any base t v)
   (hW : DataW.Whole enc Tryz.prog Tryz.f3.params.toList Rows.pagerPlaysSpec.vars false W args.toList ds gs before) :
   Calls Tryz.prog 3 args W fun e W' => ∃ v, e = .returned v ∧ Rows.pagerPlaysSpec.post enc Tryz.prog Tryz.f3 false true false false W args v W' := by
 have hW' := hW
 obtain ⟨p, q, hA0, hV, rfl, hfz, hnd⟩ := hW
 have hA : DataW.TrodAll enc Tryz.prog W 0 (fun _ => true) true Tryz.f3.params.toList args.toList ds p := hA0
 rw [Tryz.params3] at hA hval
 obtain ⟨v0, vs0, d0, ds0, p0, q0, hargs, rfl, rfl, h0, r0⟩ := trodAll_cons hA
 obtain ⟨v1, vs1, d1, ds1, p1, q1, rfl, rfl, rfl, h1, r1⟩ := trodAll_cons r0
 obtain ⟨rfl, rfl, rfl⟩ := trodAll_nil r1
 obtain rfl : args = #[v0, v1] := by cases args; simp_all
 obtain ⟨rfl, rfl⟩ := trodVars_none hV
 obtain ⟨x0a, x0b, rfl, bx0⟩ := Dsk.open_pair (hval 0 22 v0 rfl rfl) h0
 obtain ⟨l, hml, hnl⟩ := open_ops (hval 1 23 v1 rfl rfl) h1
 clear hA0
 simp only [List.append_nil] at hW'
 have hlt : ∀ x ∈ p0 ++ p1, x.block < W.heap.size := fun x hx => hW'.lt x (by simpa using hx)
 have walk := law_any x0a x0b l _ W hml hnl bx0.1 bx0.2
 refine walk.mono fun e W' ⟨he, hg⟩ => ?_
 subst he
 refine ⟨_, rfl, Fr.post_made (pa := p0 ++ p1) (pv := []) hW' (fun _ _ _ => trodAll_cons_mk (shut_bool Tryz.underlying4 _) trodAll_mk0) (fun sp hsp => ?_) (fun _ _ => rfl) (by simp) hg (ok_one (by kernel_rfl) rfl (okWide_bool_mk Tryz.underlying4 _))⟩
 have g0 : DataW.Trod enc Tryz.prog W' 0 sp true 22 _ d0 p0 := WideElems.Trod_stays laidOut (by kernel_rfl) (of_decide_eq_true (by kernel_rfl)) h0 (fun x hx => hg.same (hlt x (by simp [hx]))) (fun x hx => hsp x (by simp [hx]))
 have g1 : DataW.Trod enc Tryz.prog W' 0 sp true 23 _ d1 p1 := WideElems.Trod_stays laidOut (by kernel_rfl) (of_decide_eq_true (by kernel_rfl)) h1 (fun x hx => hg.same (hlt x (by simp [hx]))) (fun x hx => hsp x (by simp [hx]))
 have hT := (trodAll_cons_mk g0 (trodAll_cons_mk g1 trodAll_mk0))
 simp only [List.append_nil] at hT
 exact hT
set_option maxRecDepth 100000 in
theorem reads (os : Os) {H : Type} (enc : TypeId × Value → H) : ∃ places, DataW.whole enc Tryz.prog ((World.laidAll Tryz.prog os Rows.pagerPlaysRow.laid).forCall (fun _ _ => 0) ⟨#[], #[.agg #[.int .u8 0, .int .u8 0], .slice none 0 0], []⟩).memory Tryz.f3.params.toList Rows.pagerPlaysSpec.vars false (#[.agg #[.int .u8 0, .int .u8 0], .slice none 0 0] : Array Value).toList 8 = some ([.agg [.lit (.int .u8 0), .lit (.int .u8 0)], .nil], [], places) :=
 ⟨[], by kernel_rfl⟩
set_option maxRecDepth 100000 in
theorem lifted (os : Os) (started : os.Started) (H : Type) (enc : TypeId × Value → H) (F : Stop.Interp) :
   ReturnsInHanded {} Tryz.checked os 3 .any ((OpenSpec.ofChange Rows.pagerPlaysSpec).preRow enc Tryz.prog Tryz.f3 Rows.pagerPlaysRow.domain false Rows.pagerPlaysRow.laid) (((OpenSpec.ofChange Rows.pagerPlaysSpec).at F).post enc Tryz.prog Tryz.f3 false true false false) := by
 obtain ⟨places, hx⟩ := reads os enc
 refine returnsInHanded_of_row (C := Tryz.checked) (s := OpenSpec.ofChange Rows.pagerPlaysSpec) Fr.own started (by kernel_rfl) Tryz.func3
   (Fr.wit (World.laidAll Tryz.prog os Rows.pagerPlaysRow.laid) #[.agg #[.int .u8 0, .int .u8 0], .slice none 0 0] (World.laidAll_os _ _ _) (World.shaped_of_ZipB (by kernel_rfl) (by kernel_rfl)) (by kernel_rfl)
     (OpenSpec.preRow_of_cond 8 hx (by kernel_rfl) (fun k hk => by cases hk) (by kernel_rfl) (laidMet_laidAll _ (by kernel_rfl) (by kernel_rfl)))) ?_
 intro W base args ds gs before hval hW _ _ _ _ _ _
 exact contract H enc W base args ds gs before hval hW
set_option maxRecDepth 100000 in
theorem said : Rows.PagerPlaysSaid :=
 OpenClaim.holds_of_cond 3 Tryz.f3 rfl rfl rfl rfl rfl rfl rfl ⟨rfl, rfl, rfl, rfl, rfl⟩ rfl rfl rfl rfl rfl (by kernel_rfl) Tryz.func3 (by kernel_rfl)
   (of_decide_eq_true (by kernel_rfl)) (by unfold Func.isWrapper; first | (rw [if_pos (by decide +kernel)]; kernel_rfl) | (rw [if_neg (by decide +kernel)]; exact ⟨rfl, rfl⟩))
   (fun os started H enc _ F => by rw [OpenClaim.pre_eq_preRow]; exact lifted os started H enc F)
set_option maxRecDepth 100000 in
theorem plain (f : FuncId) (fn : Func) (hf : Tryz.pinned.checked.prog.funcNamed "memoir/memoirlaw09.PagerPlays" = some f) (hfn : Tryz.pinned.checked.prog.funcs[f]? = some fn) :
   true = Tryz.pinned.checked.prog.looks [] ∧ ∀ (j : Nat) t, fn.params[j]? = some t → Tryz.pinned.checked.prog.wantsStandIn t = false := by
 obtain rfl : f = 3 := Option.some.inj ((show Tryz.prog.funcNamed "memoir/memoirlaw09.PagerPlays" = some 3 by kernel_rfl).symm.trans hf) |>.symm
 obtain rfl : fn = Tryz.f3 := (Option.some.inj (Tryz.func3.symm.trans hfn)).symm
 refine ⟨by kernel_rfl, fun j t ht => ?_⟩
 rw [Tryz.params3] at ht
 have hm := Array.mem_of_getElem? ht
 simp only [List.mem_toArray, List.mem_cons, List.not_mem_nil, or_false] at hm
 rcases hm with rfl | rfl
 all_goals first | exact (show Tryz.prog.wantsStandIn 23 = false by kernel_rfl) | exact (show Tryz.prog.wantsStandIn 22 = false by kernel_rfl)
set_option maxRecDepth 100000 in
theorem card : Rows.PagerPlaysCardSaid :=
 Claim7.holds_tied_plain_at .later [] _ _ _ _ said (fun _ h => by cases h) (by kernel_rfl) (fun _ h => by cases h) pagerPlays_row_tie rfl ⟨rfl, rfl⟩ (by kernel_rfl) rfl plain (by kernel_rfl)
end LaPagerPlays
end Go.Proofs.YtkgbemkcnahkoaaGreatDoor
