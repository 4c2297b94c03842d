/- A commit's record: written, read. Conditions: the changes are pages of at most 1024. -/
import Derived.Test.YtmccnlffikegfaaGreatDoorZPf
import Derived.Test.YtmccnlffikegfaaGreatDoorZPqto
namespace Go.Proofs.YtmccnlffikegfaaGreatDoor
open Go.RowKit
namespace Pgr
open Cod (uB tB S S_size)
open Dsk (Only below_keeps cell_later sec vals pad zeros upd IntsAt ints)
open Bld (Kept)
theorem ints_row {B : Nat} {l : List Nat} {v : Value} {w : World} (h : IntsAt B l v w) (i : Nat) (hi : i < l.length) : ∃ g cap cur, v = .slice (some ⟨g, 0, none⟩) l.length cap ∧ w.heap[g]? = some (.cells cur 3 (0, 0)) ∧ cur[i]? = some (.int .i64 (l[i] : Int)) := by
  rcases h.2 with ⟨_, h2⟩ | ⟨g, c, cur, hv, _, hh, hnc, hcm, hsz, htk⟩
  · omega
  · refine ⟨g, c, cur, hv, hh, ?_⟩
    have h1 : (ints l)[i]? = some (.int .i64 (l[i] : Int)) := by unfold ints; simp [hi]
    rw [← htk, List.getElem?_take_of_lt (by omega)] at h1
    simpa using h1
theorem nums_at {ch : Ch} {i : Nat} (hi : i < ch.length) {h : i < (nums ch).length} : (nums ch)[i] = ch[i].1 := by
  unfold nums
  exact List.getElem_map ..
theorem conBytesAt {w : World} {B : Nat} {s : List UInt8} (hr : w.heap[B]? = some (.cells (sec s) 80 (0, 0))) (n : Nat) (hn : s.length = n) : (convert 62 9 (.slice (some ⟨B, 0, none⟩) n n)).run Tryz.prog w = .ok (.string (S s)) w := by
  subst hn
  refine run_convert_bytes_back (P := Tryz.prog) _ 62 9 5 ⟨B, 0, none⟩ s.length s Tryz.underlying62 Tryz.underlying5 Tryz.underlying9 ?_
  intro j hj
  have hadd : (⟨B, 0, none⟩ : Addr).add j = ⟨B, j, none⟩ := by unfold Addr.add; split <;> simp_all
  rw [hadd, cell_of_row _ _ j _ _ (0, 0) hr]
  simp [sec, vals, hj, Dsk.cell, Extern.Stop.cell]
/-- The record's bytes ahead of the page i. -/
def pre (ch : Ch) (i : Nat) : List UInt8 := uB ch.length ++ (ch.take i).flatMap rec1
theorem pre_all (ch : Ch) : pre ch ch.length = record ch := by unfold pre record; rw [List.take_length]
theorem pre_succ {ch : Ch} {i : Nat} (hi : i < ch.length) : pre ch (i + 1) = pre ch i ++ uB ch[i].1 ++ tB (bare ch[i].2) := by
  unfold pre
  rw [List.take_succ_eq_append_getElem hi, List.flatMap_append]
  simp [rec1]
theorem pre_len {N : Nat} {ch : Ch} (h : Ok N ch) (hN : N ≤ 1024) (i : Nat) : (pre ch i).length ≤ 140000 := by
  have h1 := record_len h hN
  have h2 : (record ch).length = (pre ch i).length + ((ch.drop i).flatMap rec1).length := by
    unfold record pre
    conv => lhs; rw [← List.take_append_drop i ch]
    rw [List.flatMap_append, List.take_append_drop]
    simp only [List.length_append]
    omega
  omega
set_option maxHeartbeats 8000000 in
set_option maxRecDepth 100000 in
theorem record_any {N : Nat} {ch : Ch} {M : Nat} {w : World} (hN : N ≤ 1024) (ho : Ok N ch) (hm : MapIs M ch w) :
    Calls Tryz.prog 44 #[.map (some M)] w fun e w' => e = .returned (.string (S (record ch))) ∧ Below w.heap.size w w' := by
  have HO := hidm ho
  have HM := hidm hm
  have HMLT := hidm hm.lt
  have HNN := hidm hN
  have hz := zeroCon
  obtain ⟨Z, hZ⟩ : ∃ Z, Z = sec zeros := ⟨_, rfl⟩
  rw [← hZ] at hz
  have HZ := hidm hZ
  have hc := ho.count
  obtain ⟨n, hn⟩ : ∃ n, n = ch.length := ⟨_, rfl⟩
  have HN := hidm hn
  have hb0 := (Below.refl w.heap.size w).alloc (Nat.le_refl _) (.cells #[.pointer none, .slice none 0 0] 73)
  have hln := fun ty => (hm.later hb0).len ty
  rw [← hn] at hln hc
  have hn24 : n ≤ 1024 := by omega
  have kw : IntKind.u64.wrap (n : Int) = (n : Int) := by simp only [IntKind.wrap_u64]; omega
  have UI := hidm (fun w => Cod.uint_any n (by omega) w)
  have HFR := hidm (Bld.fresh w)
  have HB0 := hidm hb0
  have HSZ := hidm (show w.heap.size ≤ (w.alloc (.cells #[.pointer none, .slice none 0 0] 73)).heap.size from by simp)
  clear hZ hN ho hm hn hb0 hc
  go_enter Tryz.func44, Tryz.ntmps44
  go_wp2_with fail
  refine (UI.out _).mono ?_
  rintro e w1 ⟨rfl, hb⟩
  have HF1 := hidm (HFR.out.below hb)
  have HB1 := hidm (HB0.out.trans (hb.mono HSZ.out))
  have HS1 := hidm (Nat.le_trans HSZ.out hb.size)
  clear hb
  go_wp2_with fail
  refine (Bld.write_k _ _ _ _ _ HF1.out (by rw [S_size]; have := Cod.uB_ten n (by omega); show 0 + _ ≤ _; omega) HS1.out).mono ?_
  rintro e w2 ⟨rfl, hf, hb, hkp⟩
  have HF2 := hidm (show Bld.Is w.heap.size w.heap.size (pre ch 0) w2 from by
    have : pre ch 0 = [] ++ (S (uB n)).data.toList := by unfold pre; rw [← HN.out]; simp
    rw [this]; exact hf)
  have HB2 := hidm (HB1.out.trans hb)
  have HS2 := hidm (Nat.le_trans HS1.out hb.size)
  have RI := hidm (rising_any HNN.out HO.out (HM.out.keep (HB2.out.block M HMLT.out)))
  clear hf hb hkp
  go_wp2_with fail
  refine RI.out.mono ?_
  rintro e w3 ⟨x, rfl, hi, hb⟩
  have HL := hidm (show (nums ch).length = n from by rw [HN.out]; simp [nums])
  obtain ⟨ao, cap, rfl, hxc, hxm⟩ := hi.form
  rw [HL.out] at hxc ⊢
  have HI := hidm hi
  have HF3 := hidm (HF2.out.below hb)
  have HB3 := hidm (HB2.out.trans (hb.mono HS2.out))
  have HS3 := hidm (Nat.le_trans HS2.out hb.size)
  clear hi hb
  go_wp2_with fail
  go_loopw [5, 6, 15] (fun _ _ ii wr => ∃ i : Nat, ii = .int .i64 (i : Int) ∧ i ≤ n ∧ Hid (Bld.Is w.heap.size w.heap.size (pre ch i) wr) ∧ Hid (Below w.heap.size w wr) ∧ Hid (Kept w3 wr)) (fun _ _ ii _ => (n - (intOf ii).toNat))
  case atStart => exact ⟨0, rfl, by omega, HF3, HB3, hidm (Kept.of (Below.refl _ _))⟩
  case round =>
    rename World => wr
    obtain ⟨i, rfl, hi, HF, HB, HK⟩ := hrel
    rcases Nat.lt_or_ge i n with hlt | hge
    · have f1 : (i : Int) < (n : Int) := by omega
      have hic : i < ch.length := by rw [← HN.out]; exact hlt
      obtain ⟨g, cap2, cur, he, hrow, hcur⟩ := ints_row HI.out i (by rw [HL.out]; exact hlt)
      simp only [Value.slice.injEq] at he
      obtain ⟨rfl, -, -⟩ := he
      obtain ⟨k, hk⟩ : ∃ k, k = ch[i].1 := ⟨_, rfl⟩
      obtain ⟨s, hs⟩ : ∃ s, s = ch[i].2 := ⟨_, rfl⟩
      have hmem : (k, s) ∈ ch := by rw [hk, hs]; exact List.getElem_mem hic
      have hk24 : k < 1024 := by have h1 : k < N := HO.out.lt _ hmem; have := HNN.out; omega
      have hsl : s.length = 128 := HO.out.len _ hmem
      have hc0 : wr.cell? ⟨g, i, none⟩ = some (.int .i64 (k : Int)) := by
        have h1 := HK.out g cur _ (0, 0) hrow (by decide) (by decide)
        rw [cell_of_row wr g i _ _ (0, 0) h1, hcur, nums_at hic, hk]
      have hlk := (HM.out.keep (HB.out.block M HMLT.out)).look k (by omega)
      rw [mem_look HO.out.rise hmem] at hlk
      change (Instr.lookup 83 (.map (some M)) (.int .i64 (k : Int)) false).run Tryz.prog wr = .ok (.agg (sec s)) wr at hlk
      obtain ⟨C, hC⟩ : ∃ C, C = sec s := ⟨_, rfl⟩
      rw [← hC] at hlk
      have HINF := hidm (show (Tryz.prog.info? 80).map (·.size) = some C.size from by rw [hC, Dsk.sec_size, hsl]; exact infoCon)
      have HZC := hidm (show Z.size = C.size from by rw [HZ.out, hC, Dsk.sec_size, Dsk.sec_size, hsl, Dsk.zeros_len])
      have H1 := hidm (show C.all (·.oneCell') = true from by rw [hC]; exact Dsk.sec_one _)
      have HC := hidm hC
      have HSL := hidm hsl
      have HPS := hidm (show pre ch (i + 1) = pre ch i ++ uB k ++ tB (bare s) from by rw [pre_succ hic, hk, hs])
      have HPL := hidm (pre_len HO.out HNN.out i)
      have HBL := hidm (show (bare s).length ≤ 128 from by have := bare_len s; omega)
      have kw2 : IntKind.u64.wrap (k : Int) = (k : Int) := by simp only [IntKind.wrap_u64]; omega
      have UK := hidm (fun w => Cod.uint_any k (by omega) w)
      have TR := hidm (fun w => Tryz.strings_TrimRight_one (S s) 0 (by decide) w (by rw [S_size]; omega))
      have TX := hidm (fun w => Cod.text_any (S (bare s)) (by rw [S_size]; have := HBL.out; omega) w)
      obtain ⟨j, hj⟩ : ∃ j, j = i + 1 := ⟨_, rfl⟩
      have i1 : (i : Int) + 1 = (j : Int) := by omega
      have i1w : IntKind.i64.wrap (j : Int) = (j : Int) := by simp only [IntKind.wrap_i64]; omega
      have HJ := hidm hj
      have HJN := hidm (show j ≤ n from by omega)
      have HSR := hidm HB.out.size
      have HK24 := hidm hk24
      clear hj hC hk hs hmem hrow hcur hic hsl hk24
      go_wp2_with (first
        | (refine Dsk.wpList_store_new rfl 80 _ _ rfl wr Z C rfl rfl HINF.out HZC.out H1.out ?_))
      have HR4 := hidm (show (wr.alloc (.cells C 80)).heap[wr.heap.size]? = some (.cells (sec s) 80 (0, 0)) from by rw [← HC.out]; exact heap_alloc_last wr _)
      have hba := (Below.refl wr.heap.size wr).alloc (Nat.le_refl _) (.cells C 80)
      have HF4 := hidm (HF.out.below hba)
      have HB4 := hidm (HB.out.trans (hba.mono HSR.out))
      have HK4 := hidm (HK.out.trans (Kept.of hba))
      have HS4 := hidm (Nat.le_trans HSR.out hba.size)
      obtain ⟨w4, hw4⟩ : ∃ w4, w4 = wr.alloc (.cells C 80) := ⟨_, rfl⟩
      rw [← hw4] at HR4 HF4 HB4 HK4 HS4 ⊢
      obtain ⟨B, hB⟩ : ∃ B, B = wr.heap.size := ⟨_, rfl⟩
      rw [← hB] at HR4 ⊢
      clear hba hw4 hB hlk hc0
      refine (UK.out w4).mono ?_
      rintro e w5 ⟨rfl, hb⟩
      have HF5 := hidm (HF4.out.below hb)
      have HB5 := hidm (HB4.out.trans (hb.mono HS4.out))
      have HK5 := hidm (HK4.out.trans (Kept.of hb))
      have HR5 := hidm (below_keeps hb HR4.out)
      have HS5 := hidm (Nat.le_trans HS4.out hb.size)
      clear hb
      go_wp2_with fail
      refine (Bld.write_k _ _ _ _ _ HF5.out (by rw [S_size]; have := Cod.uB_ten k (by have := HK24.out; omega); have := HPL.out; omega) HS5.out).mono ?_
      rintro e w6 ⟨rfl, hf, hb, hkp⟩
      have HF6 := hidm (show Bld.Is w.heap.size w.heap.size (pre ch i ++ uB k) w6 from hf)
      have HB6 := hidm (HB5.out.trans hb)
      have HK6 := hidm (HK5.out.trans hkp)
      have HR6 := hidm (hkp _ _ _ _ HR5.out (by decide) (by decide))
      have HS6 := hidm (Nat.le_trans HS5.out hb.size)
      have hcv := conBytesAt HR6.out 128 HSL.out
      clear hf hb hkp
      go_wp2_with fail
      refine (TR.out w6).mono ?_
      rintro e w7 ⟨rfl, rfl⟩
      have HTB := hidm (show (⟨(Lib.trimRightB (S s).data.toList 0).toArray⟩ : ByteArray) = S (bare s) from rfl)
      rw [HTB.out]
      clear hcv
      go_wp2_with fail
      refine (TX.out _).mono ?_
      rintro e w8 ⟨rfl, hb⟩
      have HF8 := hidm (HF6.out.below hb)
      have HB8 := hidm (HB6.out.trans (hb.mono HS6.out))
      have HK8 := hidm (HK6.out.trans (Kept.of hb))
      have HS8 := hidm (Nat.le_trans HS6.out hb.size)
      clear hb
      go_wp2_with fail
      refine (Bld.write_k _ _ _ _ _ HF8.out (by rw [S_size]; have := Cod.uB_ten k (by have := HK24.out; omega); have h3 := Cod.uB_ten (bare s).length (by have := HBL.out; omega); have := HPL.out; have := HBL.out; unfold tB; simp only [List.length_append]; omega) HS8.out).mono ?_
      rintro e w9 ⟨rfl, hf, hb, hkp⟩
      have HF9 := hidm (show Bld.Is w.heap.size w.heap.size (pre ch j) w9 from by rw [HJ.out, HPS.out]; exact hf)
      have HB9 := hidm (HB8.out.trans hb)
      have HK9 := hidm (HK8.out.trans hkp)
      clear hf hb hkp
      go_wp2_with fail
      go_roundw
      case rel => exact ⟨j, rfl, HJN.out, HF9, HB9, HK9⟩
      case measure => have := HJ.out; simp [intOf]; omega
    · obtain rfl : i = n := by omega
      have f1 : ¬ (i : Int) < (i : Int) := by omega
      have HFA := hidm (show Bld.Is w.heap.size w.heap.size (record ch) wr from by rw [← pre_all ch, ← HN.out]; exact HF.out)
      go_wp2_with fail
      refine (Bld.string_any _ _ _ _ HFA.out HB.out.size).mono ?_
      rintro e w9 ⟨rfl, _, hb⟩
      have HB9 := hidm (HB.out.trans hb)
      clear hb
      go_wp2_with fail
      go_ret
      exact ⟨rfl, HB9.out⟩
end Pgr
end Go.Proofs.YtmccnlffikegfaaGreatDoor
/- What a commit's record tells: the changes. Condition: it is a commit's record, of pages that there are. -/
namespace Go.Proofs.YtmccnlffikegfaaGreatDoor
open Go.RowKit
namespace Pgr
open Cod (uB tB S S_size Rdr But num_uni text_uni)
open Dsk (Only below_keeps cell_later sec vals pad zeros upd IntsAt ints)
theorem num_at (r : Nat) (s : ByteArray) (p n : Nat) (X : List UInt8) (w : World) (h : Rdr r s p 0 w) (hp : p ≤ s.size) (hs : s.size ≤ 281474976710656) (hn : n < 18446744073709551616) (hd : s.data.toList.drop p = uB n ++ X) :
    Calls Tryz.prog 95 #[.pointer (some ⟨r, 0, none⟩)] w fun e w' => e = .returned (.int .u64 (n : Int)) ∧ ∃ p' : Nat, Rdr r s p' 0 w' ∧ p' ≤ s.size ∧ s.data.toList.drop p' = X ∧ But r w w' := by
  refine (num_uni r s p 0 w h hp hs).mono fun e w' h1 => ?_
  obtain ⟨v, p', e', rfl, hr, hb, hp', _, hx⟩ := h1
  obtain ⟨rfl, rfl, hx2⟩ := hx n X rfl hd hn
  exact ⟨rfl, p', hr, hp', hx2, hb⟩
theorem text_at (r : Nat) (s : ByteArray) (p : Nat) (t X : List UInt8) (w : World) (h : Rdr r s p 0 w) (hp : p ≤ s.size) (hs : s.size ≤ 281474976710656) (ht : t.length ≤ 1000000) (hd : s.data.toList.drop p = tB t ++ X) :
    Calls Tryz.prog 96 #[.pointer (some ⟨r, 0, none⟩)] w fun e w' => e = .returned (.string (S t)) ∧ ∃ p' : Nat, Rdr r s p' 0 w' ∧ p' ≤ s.size ∧ s.data.toList.drop p' = X ∧ But r w w' := by
  refine (text_uni r s p 0 w h hp hs).mono fun e w' h1 => ?_
  obtain ⟨l, p', e', rfl, hr, hb, hp', _, hx⟩ := h1
  obtain ⟨rfl, rfl, hx2⟩ := hx t X rfl hd ht
  exact ⟨rfl, p', hr, hp', hx2, hb⟩
theorem take_put {N : Nat} {ch : Ch} (h : Ok N ch) {i : Nat} (hi : i < ch.length) : put (ch.take i) ch[i].1 ch[i].2 = ch.take (i + 1) := by
  rw [List.take_succ_eq_append_getElem hi]
  refine put_last (fun p hp => ?_)
  obtain ⟨j, hj, rfl⟩ := List.getElem_of_mem hp
  have hj2 : j < i := by have := hj; rw [List.length_take] at this; omega
  rw [List.getElem_take]
  exact List.pairwise_iff_getElem.1 h.rise j i (by omega) hi hj2
theorem drop_rec {ch : Ch} {i : Nat} (hi : i < ch.length) : (ch.drop i).flatMap rec1 = uB ch[i].1 ++ (tB (bare ch[i].2) ++ (ch.drop (i + 1)).flatMap rec1) := by
  rw [List.drop_eq_getElem_cons hi, List.flatMap_cons]
  unfold rec1
  rw [List.append_assoc]
set_option maxHeartbeats 8000000 in
set_option maxRecDepth 100000 in
theorem changes_any {N : Nat} {ch : Ch} (w : World) (hN : N ≤ 1024) (ho : Ok N ch) :
    Calls Tryz.prog 65 #[.string (S (record ch)), .int .i64 (N : Int)] w fun e w' => ∃ M, e = .returned (.tuple #[.map (some M), .bool true]) ∧ MapIs M ch w' ∧ w.heap.size ≤ M ∧ Below w.heap.size w w' := by
  have HO := hidm ho
  have HNN := hidm hN
  have hc := ho.count
  have hrl := record_len ho hN
  obtain ⟨s, hs⟩ : ∃ s, s = S (record ch) := ⟨_, rfl⟩
  have hss : s.size ≤ 281474976710656 := by rw [hs, S_size]; omega
  have HSS := hidm hss
  have HS := hidm hs
  obtain ⟨n, hn⟩ : ∃ n, n = ch.length := ⟨_, rfl⟩
  have HN := hidm hn
  rw [← hs]
  have hd0 : s.data.toList.drop 0 = uB n ++ ch.flatMap rec1 := by rw [hs, hn]; rfl
  have HD0 := hidm hd0
  have hn24 : n ≤ 1024 := by omega
  have hmm := @run_makeMap Tryz.prog
  have NW := hidm (fun w => Cod.new_any s w hss)
  have HM0 := hidm (MapIs.new w)
  have HB0 := hidm ((Below.refl w.heap.size w).alloc (Nat.le_refl _) (.map #[] 0))
  have HLT0 := hidm (show w.heap.size < (w.alloc (.map #[] 0)).heap.size from by simp)
  have kN : IntKind.u64.wrap (N : Int) = (N : Int) := by simp only [IntKind.wrap_u64]; omega
  clear hN ho hc hrl hs hss hn hd0
  go_enter Tryz.func65, Tryz.ntmps65
  go_wp2_with fail
  obtain ⟨M, hM⟩ : ∃ M, M = w.heap.size := ⟨_, rfl⟩
  rw [← hM] at HM0 HLT0 ⊢
  have HMS := hidm (show w.heap.size ≤ M from by omega)
  clear hM
  refine (NW.out _).mono ?_
  rintro e w1 ⟨r, hrge, rfl, hr, hb⟩
  have HR1 := hidm hr
  have HM1 := hidm (HM0.out.later hb)
  have HLE := hidm (show w.heap.size ≤ (w.alloc (.map #[] 0)).heap.size from by simp)
  have HB1 := hidm (HB0.out.trans (hb.mono HLE.out))
  have HRM := hidm (show M ≠ r from by have := HLT0.out; omega)
  have HRS := hidm (show w.heap.size ≤ r from Nat.le_trans HLE.out hrge)
  have HS1 := hidm (Nat.le_trans HLE.out hb.size)
  clear hrge hr hb
  go_wp2_with fail
  refine (num_at r s 0 n _ w1 HR1.out (Nat.zero_le _) HSS.out (by omega) HD0.out).mono ?_
  rintro e w2 ⟨rfl, p0, hr, hp, hd, hb⟩
  have HR2 := hidm hr
  have HP2 := hidm hp
  have HD2 := hidm (show s.data.toList.drop p0 = (ch.drop 0).flatMap rec1 from hd)
  have HM2 := hidm (HM1.out.keep (hb.block M HM1.out.lt HRM.out))
  have HB2 := hidm (But.then HB1.out hb HRS.out HS1.out)
  clear hr hp hd hb
  go_wp2_with fail
  go_loopw [8, 9, 15] (fun _ _ ii wr => ∃ i p : Nat, ii = .int .u64 (i : Int) ∧ i ≤ n ∧ Hid (Rdr r s p 0 wr) ∧ Hid (p ≤ s.size) ∧ Hid (s.data.toList.drop p = (ch.drop i).flatMap rec1) ∧ Hid (MapIs M (ch.take i) wr) ∧ Hid (Below w.heap.size w wr)) (fun _ _ ii _ => (n - (intOf ii).toNat))
  case atStart => exact ⟨0, p0, rfl, by omega, HR2, HP2, HD2, HM2, HB2⟩
  case round =>
    rename World => wr
    obtain ⟨i, p, rfl, hi, HR, HP, HD, HM, HB⟩ := hrel
    rcases Nat.lt_or_ge i n with hlt | hge
    · have f1 : (i : Int) < (n : Int) := by omega
      have hic : i < ch.length := by rw [← HN.out]; exact hlt
      have hd := drop_rec hic
      have htp := take_put HO.out hic
      have hmem : ch[i] ∈ ch := List.getElem_mem hic
      obtain ⟨k, hk⟩ : ∃ k, k = ch[i].1 := ⟨_, rfl⟩
      obtain ⟨t, ht⟩ : ∃ t, t = ch[i].2 := ⟨_, rfl⟩
      rw [← hk, ← ht] at hd htp
      have hkN : k < N := by rw [hk]; exact HO.out.lt _ hmem
      have htl : t.length = 128 := by rw [ht]; exact HO.out.len _ hmem
      have HTL := hidm htl
      have HTP := hidm htp
      have HDK := hidm (HD.out.trans hd)
      have HKN := hidm hkN
      have HBL := hidm (show (bare t).length ≤ 128 from by have := bare_len t; omega)
      have HPAD := hidm (pad_bare htl)
      have g1 : ¬ (N : Int) ≤ (k : Int) := by omega
      have kw : IntKind.i64.wrap (k : Int) = (k : Int) := by have := HNN.out; simp only [IntKind.wrap_i64]; omega
      obtain ⟨j, hj⟩ : ∃ j, j = i + 1 := ⟨_, rfl⟩
      have i1 : (i : Int) + 1 = (j : Int) := by omega
      have i1w : IntKind.u64.wrap (j : Int) = (j : Int) := by simp only [IntKind.wrap_u64]; omega
      have HJ := hidm hj
      have HJN := hidm (show j ≤ n from by omega)
      have HSR := hidm HB.out.size
      have HTLEN := hidm (show (ch.take i).length ≤ 100000 from by rw [List.length_take]; omega)
      have HRISE := hidm (show (ch.take i).Pairwise (fun a b => a.1 < b.1) from HO.out.rise.sublist (List.take_sublist _ _))
      clear hj hd htp hmem hk ht hkN htl hic
      go_wp2_with fail
      refine (num_at r s p k _ wr HR.out HP.out HSS.out (by have := HNN.out; have := HKN.out; omega) HDK.out).mono ?_
      rintro e w3 ⟨rfl, p3, hr, hp, hd, hb⟩
      have HR3 := hidm hr
      have HP3 := hidm hp
      have HD3 := hidm hd
      have HM3 := hidm (HM.out.keep (hb.block M HM.out.lt HRM.out))
      have HB3 := hidm (But.then HB.out hb HRS.out HSR.out)
      clear hr hp hd hb
      go_wp2_with fail
      refine (text_at r s p3 (bare t) _ w3 HR3.out HP3.out HSS.out (by have := HBL.out; omega) HD3.out).mono ?_
      rintro e w4 ⟨rfl, p4, hr, hp, hd, hb⟩
      have HR4 := hidm hr
      have HP4 := hidm hp
      have HD4 := hidm (show s.data.toList.drop p4 = (ch.drop j).flatMap rec1 from by rw [HJ.out]; exact hd)
      have HM4 := hidm (HM3.out.keep (hb.block M HM3.out.lt HRM.out))
      have HB4 := hidm (But.then HB3.out hb HRS.out HB3.out.size)
      clear hr hp hd hb
      go_wp2_with fail
      refine (Cod.err_any r s p4 0 w4 HR4.out).mono ?_
      rintro e w5 ⟨rfl, rfl⟩
      go_wp2_with fail
      refine (con_any (S (bare t)) (by rw [S_size]; exact HBL.out) w4).mono ?_
      rintro e w5 ⟨rfl, hb⟩
      rw [show pad (S (bare t)).data.toList = t from HPAD.out]
      have HR5 := hidm (HR4.out.later hb)
      have HM5 := hidm (HM4.out.later hb)
      have HB5 := hidm (HB4.out.trans (hb.mono HB4.out.size))
      clear hb
      obtain ⟨ob, hput, hmp⟩ := HM5.out.put HRISE.out HTLEN.out k (by have := HNN.out; have := HKN.out; omega) t HTL.out
      rw [HTP.out] at hmp
      have HOO := hidm (Only.setBlock (T := fun q => q = M) (w := w5) (M := M) rfl ob)
      have HM6 := hidm (show MapIs M (ch.take j) (ChangeMaps.setBlock w5 M ob) from by rw [HJ.out]; exact hmp)
      have HR6 := hidm (show Rdr r s p4 0 (ChangeMaps.setBlock w5 M ob) from HOO.out.keeps (fun e => HRM.out e.symm) HR5.out)
      have HB6 := hidm (HB5.out.trans (HOO.out.below (fun q hq => by rw [show q = M from hq]; exact HMS.out) HB5.out.size))
      clear hmp
      go_wp2_with fail
      go_roundw
      case rel => exact ⟨j, p4, rfl, HJN.out, HR6, HP4, HD4, HM6, HB6⟩
      case measure => have := HJ.out; simp [intOf]; omega
    · obtain rfl : i = n := by omega
      have f1 : ¬ (i : Int) < (i : Int) := by omega
      have HMA := hidm (show MapIs M ch wr from by have := HM.out; rw [HN.out, List.take_length] at this; exact this)
      have RC := hidm (record_any HNN.out HO.out HMA.out)
      rw [← HS.out] at RC
      go_wp2_with fail
      refine RC.out.mono ?_
      rintro e w9 ⟨rfl, hb⟩
      have HB9 := hidm (HB.out.trans (hb.mono HB.out.size))
      have HM9 := hidm (HMA.out.later hb)
      clear hb
      go_wp2_with fail
      go_ret2
      exact ⟨M, rfl, HM9.out, HMS.out, HB9.out⟩
end Pgr
end Go.Proofs.YtmccnlffikegfaaGreatDoor
