/- The program's heap over its pager: lay. Conditions: as it says. -/
import Derived.Test.YtmccnlffikegfaaGreatDoorZErto
import Derived.Test.YtmccnlffikegfaaGreatDoorZE0to
import Derived.Test.YtmccnlffikegfaaGreatDoorZWdto
import Derived.Test.YtmccnlffikegfaaGreatDoorZDhto
import Derived.Maps.AppendAt
import Derived.Laws.OwnMore
import Derived.Lib.AppendZeros
import Derived.Deep.DeepCutAuto
import Derived.Deep.CutBlock
namespace Go.Proofs.YtmccnlffikegfaaGreatDoor
open Go.RowKit
namespace Hep
open Pgr
open Dsk (zeros pad pad_len KeepQ cell_later below_keeps)
open Crc (S S_of S_size S_append)
/-- What lay reads: the heap's pager, the page in its box, the part's bytes. -/
def SL (B P R xn xx xb xo m : Nat) (p : List UInt8) (u : World) : Prop := u.cell? ⟨B, 1, none⟩ = some (.pointer (some ⟨P, 0, none⟩)) ∧ u.cell? ⟨R, 0, none⟩ = some (.int .i64 (xn : Int)) ∧ u.cell? ⟨R, 1, none⟩ = some (.int .i64 (xx : Int)) ∧ u.cell? ⟨R, 2, none⟩ = some (.slice (some ⟨xb, xo, none⟩) m m) ∧ Lie xb xo p u
theorem keep_trans {Q : Nat → Prop} {a b c : World} (h : KeepQ Q a b) (g : KeepQ Q b c) : KeepQ Q a c := fun k hk => (g k hk).trans (h k hk)
theorem SL.keep {B P R xn xx xb xo m : Nat} {p : List UInt8} {u u' : World} {Q : Nat → Prop} (h : SL B P R xn xx xb xo m p u) (hk : KeepQ Q u u') (hq : Q B ∧ Q R ∧ Q xb) : SL B P R xn xx xb xo m p u' := by
  obtain ⟨h1, h2, h3, h4, h5⟩ := h
  have g := fun (k j : Nat) (hQ : Q k) => World.cell?_of_block (w := u) (a := ⟨k, j, none⟩) (hk k hQ)
  exact ⟨(g _ _ hq.1).trans h1, (g _ _ hq.2.1).trans h2, (g _ _ hq.2.1).trans h3, (g _ _ hq.2.1).trans h4, h5.of (hk _ hq.2.2)⟩
section
variable {W w w' : World} {Q Q' : Nat → Prop} {B P L D n N K : Nat} {u : Bool} {c c' : Nat} {V G G' : Pages}
set_option maxHeartbeats 8000000 in
set_option maxRecDepth 100000 in
theorem hlay_any (h : HG W Q B P L D n N K u V c G w) (x : Pm) (hx0 : x.n ≠ 0) (hxN : x.n < N) (hin : Lie x.b x.o x.pt w) (hf : x.pt.length ≤ 125) (hq : Q x.b) :
    Calls Tryz.prog 26 #[.pointer (some ⟨B, 0, none⟩), x.agg] w fun e w' => e = .returned (.tuple #[]) ∧ HG W Q B P L D n N K u V (c + 1) (upG G x.n (page x.nx x.pt)) w' ∧ KeepQ Q w w' := by
  obtain ⟨xn, xx, p, xb, xo⟩ := x
  unfold Pm.agg
  dsimp only at hx0 hxN hin hf hq ⊢
  have HH := hidm h
  have hxb := h.qlt _ hq
  obtain ⟨m, hm⟩ : ∃ a, a = p.length := ⟨_, rfl⟩
  rw [← hm] at hf ⊢
  have HM := hidm hm
  obtain ⟨R, hR⟩ : ∃ R, R = w.heap.size := ⟨_, rfl⟩
  obtain ⟨wb, hwb⟩ : ∃ wb, wb = w.alloc (.cells #[.int .i64 (xn : Int), .int .i64 (xx : Int), .slice (some ⟨xb, xo, none⟩) m m] 65) := ⟨_, rfl⟩
  have hbb : Below w.heap.size w wb := by rw [hwb]; exact (Below.refl _ _).alloc (Nat.le_refl _) _
  have hRr : wb.heap[R]? = some (.cells #[.int .i64 (xn : Int), .int .i64 (xx : Int), .slice (some ⟨xb, xo, none⟩) m m] 65 (0, 0)) := by rw [hwb, hR]; exact heap_alloc_last w _
  obtain ⟨wd, hwd⟩ : ∃ wd, wd = wb.drew := ⟨_, rfl⟩
  have hbd : Below wb.heap.size wb wd := by rw [hwd]; exact (Below.refl _ _).drew
  have HWD := hidm hwd
  have HBB := hidm hbb
  have HGb := hidm (h.guard hbb)
  have HGd := hidm (HGb.out.later hbd)
  have HKd := hidm (keep_trans (Q := fun k => Q k ∨ (w.heap.size ≤ k ∧ k < wb.heap.size)) (fun k _ => rfl) (HGb.out.kept hbd))
  have hRl : R < wb.heap.size := lt_of_block hRr
  have HBQ := hidm (show (Q B ∨ (w.heap.size ≤ B ∧ B < wb.heap.size)) ∧ (Q R ∨ (w.heap.size ≤ R ∧ R < wb.heap.size)) ∧ (Q xb ∨ (w.heap.size ≤ xb ∧ xb < wb.heap.size)) from ⟨.inl h.inq, .inr ⟨by omega, hRl⟩, .inl hq⟩)
  obtain ⟨r0, r1, r2⟩ := three (below_keeps hbd hRr)
  have HSd := hidm (show SL B P R xn xx xb xo m p wd from ⟨HGd.out.c1, r0, r1, r2, (hin.of (hbb.block _ hxb)).of (hbd.block _ (Nat.lt_of_lt_of_le hxb hbb.size))⟩)
  have HWB := hidm hwb.symm
  have HRR := hidm hR.symm
  have C1 := hidm (fun (z : World) => number_any xx z)
  have HST := hidm (show ∀ (g : Nat) (w0 w' : World), g = w0.heap.size → Below (w0.alloc (.cells #[.int .u8 (m : Int)] 5)).heap.size (w0.alloc (.cells #[.int .u8 (m : Int)] 5)) w' → (convert 62 9 (.slice (some ⟨g, 0, none⟩) 1 1)).run Tryz.prog w' = .ok (.string (S [UInt8.ofNat m])) w' from fun g w0 w' hg hb => by rw [hg]; exact Wal.str_one m (by omega) w0 w' hb)
  have HCP := hidm (fun (z : World) (hl : Lie xb xo p z) => show (convert 62 9 (.slice (some ⟨xb, xo, none⟩) m m)).run Tryz.prog z = .ok (.string (S p)) z from by
    rw [hm]
    exact run_convert_bytes_back (P := Tryz.prog) z 62 9 5 ⟨xb, xo, none⟩ p.length p Tryz.underlying62 Tryz.underlying5 Tryz.underlying9 (fun j hj => by
      have hadd : (⟨xb, xo, none⟩ : Addr).add j = ⟨xb, xo + j, none⟩ := by unfold Addr.add; split <;> simp_all
      rw [hadd]; exact hl j hj))
  have HWR := hidm (fun (z : World) (hz : HG W (fun k => Q k ∨ (w.heap.size ≤ k ∧ k < wb.heap.size)) B P L D n N K u V c G z) => hz.pg.write_in xn (S (two xx ++ [UInt8.ofNat m] ++ p)) (by rw [S_size]; simp [two]; omega) hxN hx0)
  have HRP := hidm (show pad (S (two xx ++ [UInt8.ofNat m] ++ p)).data.toList = page xx p from by rw [hm]; rfl)
  have hc1 : S (two xx) ++ S [UInt8.ofNat m] = S (two xx ++ [UInt8.ofNat m]) := S_append _ _
  have hc2 : S (two xx ++ [UInt8.ofNat m]) ++ S p = S (two xx ++ [UInt8.ofNat m] ++ p) := S_append _ _
  have hs2 : (S (two xx)).size = 2 := by rw [S_size]; rfl
  have hs3 : (S [UInt8.ofNat m]).size = 1 := by rw [S_size]; rfl
  have hs4 : (S (two xx ++ [UInt8.ofNat m])).size = 3 := by rw [S_size]; rfl
  have hs5 : (S p).size ≤ 125 := by rw [S_size]; omega
  obtain ⟨T2, hT2⟩ : ∃ T, T = S (two xx) := ⟨_, rfl⟩
  obtain ⟨T3, hT3⟩ : ∃ T, T = S [UInt8.ofNat m] := ⟨_, rfl⟩
  obtain ⟨T6, hT6⟩ : ∃ T, T = S (two xx ++ [UInt8.ofNat m] ++ p) := ⟨_, rfl⟩
  obtain ⟨T4, hT4⟩ : ∃ T, T = S (two xx ++ [UInt8.ofNat m]) := ⟨_, rfl⟩
  obtain ⟨T5, hT5⟩ : ∃ T, T = S p := ⟨_, rfl⟩
  rw [← hT2] at hc1 hs2 C1
  rw [← hT3] at hc1 hs3 HST
  rw [← hT6] at hc2 HWR HRP
  rw [← hT4] at hc1 hc2 hs4
  rw [← hT5] at hc2 hs5 HCP
  have k1 : ¬ 9223372036854775807 < T2.size + T3.size := by omega
  have k2 : ¬ 9223372036854775807 < T4.size + T5.size := by omega
  have k3 : IntKind.u8.wrap (m : Int) = (m : Int) := by simp only [IntKind.wrap_u8]; omega
  have k4 : IntKind.i64.wrap (m : Int) = (m : Int) := by simp only [IntKind.wrap_i64]; omega
  clear hT2 hT3 hT4 hT5 hT6 hs2 hs3 hs4 hs5 r0 r1 r2 hRl hbd hRr hbb hwb hR hwd hm hxb hin hx0 hxN hf hq h
  go_enter Tryz.func26, Tryz.ntmps26
  go_upto_region 1 with fail
  rw [HWB.out, HRR.out]
  refine wp_region_held_drew (S := fun u => u.cell? ⟨B, 1, none⟩ = some (.pointer (some ⟨P, 0, none⟩)) ∧ u.cell? ⟨R, 0, none⟩ = some (.int .i64 (xn : Int)) ∧ u.cell? ⟨R, 1, none⟩ = some (.int .i64 (xx : Int)) ∧ u.cell? ⟨R, 2, none⟩ = some (.slice (some ⟨xb, xo, none⟩) m m) ∧ Lie xb xo p u) (by kernel_rfl) (by rw [← HWD.out]; exact HSd.out) (fun hHeld => ?_)
  rw [← HWD.out] at hHeld ⊢
  refine Man.t1 0 hHeld ?_
  (try simp only [Act.put, Mqa, Mqb, Mqc])
  refine Man.t1 1 hHeld ?_
  (try simp only [Act.put, Mqa, Mqb, Mqc])
  refine Man.t1 2 hHeld ?_
  (try simp only [Act.put, Mqa, Mqb, Mqc])
  refine Man.t1 3 hHeld ?_
  (try simp only [Act.put, Mqa, Mqb, Mqc])
  refine Man.t1 4 hHeld ?_
  (try simp only [Act.put, Mqa, Mqb, Mqc])
  refine Man.t1 5 hHeld ?_
  (try simp only [Act.put, Mqa, Mqb, Mqc])
  refine Man.t1 6 hHeld ?_
  (try simp only [Act.put, Mqa, Mqb, Mqc])
  refine Man.t1 7 hHeld ?_
  (try simp only [Act.put, Mqa, Mqb, Mqc])
  refine Man.t1 9 hHeld ?_
  (try simp only [Act.put, Mqa, Mqb, Mqc])
  refine Man.t1 10 hHeld ?_
  (try simp only [Act.put, Mqa, Mqb, Mqc])
  refine Man.t1 11 hHeld ?_
  (try simp only [Act.put, Mqa, Mqb, Mqc])
  refine Man.t1 12 hHeld ?_
  (try simp only [Act.put, Mqa, Mqb, Mqc])
  refine Man.t1 16 hHeld ?_
  (try simp only [Act.put, Mqa, Mqb, Mqc])
  refine Man.t1 17 hHeld ?_
  (try simp only [Act.put, Mqa, Mqb, Mqc])
  refine Man.take1 (i := 18) (v := .string T5) rfl (by kernel_rfl) (by kernel_rfl) (by kernel_rfl) (fun _ _ _ h => h) (by rfl) ?_ hHeld ?_
  · (intro u hSu; have hcv5 := HCP.out u hSu.2.2.2.2; go_simp; (try with_reducible rfl))
  (try simp only [Act.put, Mqa, Mqb, Mqc])
  refine Man.two (i := 8) (j := 13) rfl rfl (by kernel_rfl) (fun K9 hK => ?_) (fun K9 hK => ?_)
  · go_simp
    with_reducible refine (C1.out _).mono ?_
    rintro e z1 ⟨rfl, hb1⟩
    have HG1 := hidm (HGd.out.later hb1)
    have HS1 := hidm (SL.keep HSd.out (HGd.out.kept hb1) HBQ.out)
    have HK1 := hidm (keep_trans HKd.out (HGd.out.kept hb1))
    clear hb1
    refine hK.out _ _ HS1.out (fun hNew => ?_)
    clear hK K9 hHeld
    have hHeld := hNew
    clear hNew
    (try simp only [Act.put, Mqa, Mqb, Mqc])
    refine Man.one (i := 13) rfl (by kernel_rfl) (fun K9 hK => ?_)
    go_simp
    obtain ⟨z2, hz2⟩ : ∃ z2, z2 = z1.alloc (.cells #[.int .u8 (m : Int)] 5) := ⟨_, rfl⟩
    have hb2 : Below z1.heap.size z1 z2 := by rw [hz2]; exact (Below.refl _ _).alloc (Nat.le_refl _) _
    have HG2 := hidm (HG1.out.later hb2)
    have HS2 := hidm (SL.keep HS1.out (HG1.out.kept hb2) HBQ.out)
    have HK2 := hidm (keep_trans HK1.out (HG1.out.kept hb2))
    have HBK2 := hidm (show Below (z1.alloc (.cells #[.int .u8 (m : Int)] 5)).heap.size (z1.alloc (.cells #[.int .u8 (m : Int)] 5)) z2 from by rw [hz2]; exact Below.refl _ _)
    have hcv := HST.out (z1.heap.size) (z1) _ rfl HBK2.out
    have hs9 : SL B P R xn xx xb xo m p (z1.alloc (.cells #[.int .u8 (m : Int)] 5)) := by rw [← hz2]; exact HS2.out
    clear hb2
    refine hK.out _ _ hs9 (fun hNew => ?_)
    clear hK K9 hHeld
    have hHeld := hNew
    clear hNew
    rw [← hz2] at hHeld ⊢
    clear hz2 hs9
    (try simp only [Act.put, Mqa, Mqb, Mqc])
    refine Man.one (i := 14) rfl (by kernel_rfl) (fun K9 hK => ?_)
    go_simp
    refine hK.out _ _ HS2.out (fun hNew => ?_)
    clear hK K9 hHeld
    have hHeld := hNew
    clear hNew
    clear hcv
    (try simp only [Act.put, Mqa, Mqb, Mqc])
    refine Man.t1 15 hHeld ?_
    (try simp only [Act.put, Mqa, Mqb, Mqc])
    refine Man.t1 19 hHeld ?_
    (try simp only [Act.put, Mqa, Mqb, Mqc])
    refine Man.one (i := 20) rfl (by kernel_rfl) (fun K9 hK => ?_)
    go_simp
    with_reducible refine (HWR.out _ HG2.out).mono ?_
    rintro e zf ⟨rfl, hpf, hkf⟩
    have htf := HG2.out.turn hpf hkf
    rw [HRP.out] at htf
    have HFIN := hidm (And.intro (htf.less (fun k hk => .inl hk) HH.out.inq) (show KeepQ Q w zf from fun k hk => (hkf k (.inl hk)).trans ((HK2.out k (.inl hk)).trans (HBB.out.block k (HH.out.qlt k hk)))))
    have hsf := SL.keep HS2.out hkf HBQ.out
    clear htf hpf hkf
    refine hK.out _ _ hsf (fun hNew => ?_)
    clear hK K9 hHeld
    have hHeld := hNew
    clear hNew
    clear hsf
    refine wpAnyH_done (by kernel_rfl) ?_ _
    go_wp2_with fail
    go_end0
    exact ⟨rfl, HFIN.out.1, HFIN.out.2⟩
  · go_simp
    obtain ⟨z5, hz5⟩ : ∃ z5, z5 = wd.alloc (.cells #[.int .u8 (m : Int)] 5) := ⟨_, rfl⟩
    have hb5 : Below wd.heap.size wd z5 := by rw [hz5]; exact (Below.refl _ _).alloc (Nat.le_refl _) _
    have HG5 := hidm (HGd.out.later hb5)
    have HS5 := hidm (SL.keep HSd.out (HGd.out.kept hb5) HBQ.out)
    have HK5 := hidm (keep_trans HKd.out (HGd.out.kept hb5))
    have HBK5 := hidm (show Below (wd.alloc (.cells #[.int .u8 (m : Int)] 5)).heap.size (wd.alloc (.cells #[.int .u8 (m : Int)] 5)) z5 from by rw [hz5]; exact Below.refl _ _)
    have hcv := HST.out (wd.heap.size) (wd) _ rfl HBK5.out
    have hs9 : SL B P R xn xx xb xo m p (wd.alloc (.cells #[.int .u8 (m : Int)] 5)) := by rw [← hz5]; exact HS5.out
    clear hb5
    refine hK.out _ _ hs9 (fun hNew => ?_)
    clear hK K9 hHeld
    have hHeld := hNew
    clear hNew
    rw [← hz5] at hHeld ⊢
    clear hz5 hs9
    (try simp only [Act.put, Mqa, Mqb, Mqc])
    refine Man.two (i := 8) (j := 14) rfl rfl (by kernel_rfl) (fun K9 hK => ?_) (fun K9 hK => ?_)
    · go_simp
      with_reducible refine (C1.out _).mono ?_
      rintro e z6 ⟨rfl, hb6⟩
      have HG6 := hidm (HG5.out.later hb6)
      have HS6 := hidm (SL.keep HS5.out (HG5.out.kept hb6) HBQ.out)
      have HK6 := hidm (keep_trans HK5.out (HG5.out.kept hb6))
      have HBK6 := hidm (HBK5.out.trans (hb6.mono HBK5.out.size))
      have hcv := HST.out (wd.heap.size) (wd) _ rfl HBK6.out
      clear hb6
      refine hK.out _ _ HS6.out (fun hNew => ?_)
      clear hK K9 hHeld
      have hHeld := hNew
      clear hNew
      (try simp only [Act.put, Mqa, Mqb, Mqc])
      refine Man.one (i := 14) rfl (by kernel_rfl) (fun K9 hK => ?_)
      go_simp
      refine hK.out _ _ HS6.out (fun hNew => ?_)
      clear hK K9 hHeld
      have hHeld := hNew
      clear hNew
      clear hcv
      (try simp only [Act.put, Mqa, Mqb, Mqc])
      refine Man.t1 15 hHeld ?_
      (try simp only [Act.put, Mqa, Mqb, Mqc])
      refine Man.t1 19 hHeld ?_
      (try simp only [Act.put, Mqa, Mqb, Mqc])
      refine Man.one (i := 20) rfl (by kernel_rfl) (fun K9 hK => ?_)
      go_simp
      with_reducible refine (HWR.out _ HG6.out).mono ?_
      rintro e zf ⟨rfl, hpf, hkf⟩
      have htf := HG6.out.turn hpf hkf
      rw [HRP.out] at htf
      have HFIN := hidm (And.intro (htf.less (fun k hk => .inl hk) HH.out.inq) (show KeepQ Q w zf from fun k hk => (hkf k (.inl hk)).trans ((HK6.out k (.inl hk)).trans (HBB.out.block k (HH.out.qlt k hk)))))
      have hsf := SL.keep HS6.out hkf HBQ.out
      clear htf hpf hkf
      refine hK.out _ _ hsf (fun hNew => ?_)
      clear hK K9 hHeld
      have hHeld := hNew
      clear hNew
      clear hsf
      refine wpAnyH_done (by kernel_rfl) ?_ _
      go_wp2_with fail
      go_end0
      exact ⟨rfl, HFIN.out.1, HFIN.out.2⟩
    · go_simp
      refine hK.out _ _ HS5.out (fun hNew => ?_)
      clear hK K9 hHeld
      have hHeld := hNew
      clear hNew
      clear hcv
      (try simp only [Act.put, Mqa, Mqb, Mqc])
      refine Man.one (i := 8) rfl (by kernel_rfl) (fun K9 hK => ?_)
      go_simp
      with_reducible refine (C1.out _).mono ?_
      rintro e z10 ⟨rfl, hb10⟩
      have HG10 := hidm (HG5.out.later hb10)
      have HS10 := hidm (SL.keep HS5.out (HG5.out.kept hb10) HBQ.out)
      have HK10 := hidm (keep_trans HK5.out (HG5.out.kept hb10))
      clear hb10
      refine hK.out _ _ HS10.out (fun hNew => ?_)
      clear hK K9 hHeld
      have hHeld := hNew
      clear hNew
      (try simp only [Act.put, Mqa, Mqb, Mqc])
      refine Man.t1 15 hHeld ?_
      (try simp only [Act.put, Mqa, Mqb, Mqc])
      refine Man.t1 19 hHeld ?_
      (try simp only [Act.put, Mqa, Mqb, Mqc])
      refine Man.one (i := 20) rfl (by kernel_rfl) (fun K9 hK => ?_)
      go_simp
      with_reducible refine (HWR.out _ HG10.out).mono ?_
      rintro e zf ⟨rfl, hpf, hkf⟩
      have htf := HG10.out.turn hpf hkf
      rw [HRP.out] at htf
      have HFIN := hidm (And.intro (htf.less (fun k hk => .inl hk) HH.out.inq) (show KeepQ Q w zf from fun k hk => (hkf k (.inl hk)).trans ((HK10.out k (.inl hk)).trans (HBB.out.block k (HH.out.qlt k hk)))))
      have hsf := SL.keep HS10.out hkf HBQ.out
      clear htf hpf hkf
      refine hK.out _ _ hsf (fun hNew => ?_)
      clear hK K9 hHeld
      have hHeld := hNew
      clear hNew
      clear hsf
      refine wpAnyH_done (by kernel_rfl) ?_ _
      go_wp2_with fail
      go_end0
      exact ⟨rfl, HFIN.out.1, HFIN.out.2⟩
end
end Hep
end Go.Proofs.YtmccnlffikegfaaGreatDoor
/- The program's heap over its pager: take (pages taken, one behind the other), a row of numbers that is appended to. Conditions: as each says. -/
namespace Go.Proofs.YtmccnlffikegfaaGreatDoor
open Go.RowKit
namespace Hep
open Pgr
open Dsk (zeros pad pad_len KeepQ Only cell_later below_keeps ints ints_snoc infoI owns_later)
open Crc (S S_of S_size S_append)
/-- The row v holds these numbers, in a block of Q from base on. -/
structure IntsO (base : Nat) (Q : Nat → Prop) (l : List Nat) (v : Value) (w : World) : Prop where
  own : w.ownsRow base 3 1 v l.length (ints l)
  inq : ∀ g, v.ownBlock = some g → Q g
section
variable {base : Nat} {Q Q' : Nat → Prop} {l : List Nat} {v : Value} {w w' : World}
theorem IntsO.keep (h : IntsO base Q l v w) (hk : KeepQ Q w w') : IntsO base Q l v w' := ⟨Dsk.ownsRow_of h.own (fun g hg => hk g (h.inq g hg)), h.inq⟩
theorem IntsO.mono (h : IntsO base Q l v w) (hQ : ∀ k, Q k → Q' k) : IntsO base Q' l v w := ⟨h.own, fun g hg => hQ g (h.inq g hg)⟩
theorem IntsO.nil (base : Nat) (Q : Nat → Prop) (w : World) : IntsO base Q [] (.slice none 0 0) w := ⟨World.ownsRow_nil _ _ _ _, fun g hg => by cases hg⟩
theorem IntsO.form (h : IntsO base Q l v w) : ∃ ao cap, v = .slice ao l.length cap ∧ l.length ≤ cap ∧ cap ≤ 9223372036854775807 := by
  rcases h.own.2 with ⟨h2, h0⟩ | ⟨g, cap, cur, hv, _, _, hc, hm, _⟩
  · exact ⟨none, 0, by rw [h2, h0], by omega, by omega⟩
  · exact ⟨_, cap, hv, hc, by unfold maxLen at hm; omega⟩
theorem IntsO.at (h : IntsO base Q l v w) (i : Nat) (hi : i < l.length) : ∃ g cap, v = .slice (some ⟨g, 0, none⟩) l.length cap ∧ g < w.heap.size ∧ Q g ∧ w.cell? ⟨g, i, none⟩ = some (.int .i64 (l[i] : Int)) := by
  rcases h.own.2 with ⟨_, h2⟩ | ⟨g, c, cur, hv, hlo, hh, hnc, hcm, _⟩
  · omega
  · refine ⟨g, c, hv, lt_of_block hh, h.inq g (by rw [hv]; rfl), ?_⟩
    have hc := h.own
    subst hv
    rw [hc.cellAt i (by omega)]
    unfold ints; simp [hi]
/-- append(v, n) -/
theorem ints_append (h : IntsO base Q l v w) (n g c : Nat) (hc : w.cell? ⟨g, 0, none⟩ = some (.int .i64 (n : Int))) (hn : l.length + 1 ≤ 1000000) (hb : base ≤ w.heap.size) (ty : TypeId) :
    ∃ v' w', (Builtin.append_ #[27, 27] ty #[v, .slice (some ⟨g, 0, none⟩) 1 c]).run Tryz.prog w = .ok v' w' ∧ IntsO base (fun k => Q k ∨ (w.heap.size ≤ k ∧ k < w'.heap.size)) (l ++ [n]) v' w' ∧ w.grownBy w' v.ownBlock ∧ (∀ g, v'.ownBlock = some g → v.ownBlock = some g ∨ w.heap.size ≤ g) := by
  obtain ⟨i0, hi0, hz0, hz1, hz2⟩ := info_parts infoI
  obtain ⟨v', w', hr, hown, hgr, _, hob⟩ := run_append_own_at (P := Tryz.prog) (w := w) base 27 ty 3 i0 (.int .i64 0) 1 8 Tryz.underlying27 hi0 hz0 hz1 hz2 rfl (by decide) v l.length (ints l) h.own ⟨g, 0, none⟩ 1 c [.int .i64 (n : Int)] rfl (by
    intro j u hu
    rcases j with _ | j
    · simp at hu; subst hu; exact hc
    · simp at hu) (by intro u hu; simp at hu; rw [hu]; rfl) (by unfold maxLen; omega) (by omega) hb
  rw [← ints_snoc] at hown
  refine ⟨v', w', hr, ⟨?_, fun g' hg => ?_⟩, hgr, fun g' hg => ?_⟩
  · rw [List.length_append]; exact hown
  · have hlt := (hown.lt g' hg).2
    rcases hob with e | e
    · rw [e] at hg; exact .inl (h.inq g' hg)
    · rw [e] at hg; cases hg; exact .inr ⟨Nat.le_refl _, hlt⟩
  · rcases hob with e | e
    · rw [e] at hg; exact .inl hg
    · rw [e] at hg; cases hg; exact .inr (Nat.le_refl _)
theorem wpList_ints {ops : Array Oper} {rest : List Oper} {o : Oper} {a : Act} {Qx : Exit → Act → World → Prop} (hgd : o.guard = none) (s x : Operand)
    (ho : o.op = .call { callee := .builtin .append, args := #[s, x], argTypes := #[27, 27] }) (hs : a.eval s = v) (h : IntsO base Q l v w) (n g c : Nat) (hx : a.eval x = .slice (some ⟨g, 0, none⟩) 1 c)
    (hc : w.cell? ⟨g, 0, none⟩ = some (.int .i64 (n : Int))) (hn : l.length + 1 ≤ 1000000) (hb : base ≤ w.heap.size)
    (hK : ∀ v' w', IntsO base (fun k => Q k ∨ (w.heap.size ≤ k ∧ k < w'.heap.size)) (l ++ [n]) v' w' → w.grownBy w' v.ownBlock → (∀ g, v'.ownBlock = some g → v.ownBlock = some g ∨ w.heap.size ≤ g) → wpList Tryz.prog ops Qx rest (a.put o.dst v') w') : wpList Tryz.prog ops Qx (o :: rest) a w := by
  obtain ⟨v', w', hr, hp, hg, ho2⟩ := ints_append h n g c hc hn hb o.type
  exact Lib.wpList_append_run w hgd s x _ _ ho v _ hs hx v' w' hr (hK v' w' hp hg ho2)
end
section
variable {W w w' : World} {Q Q' : Nat → Prop} {B P L D n N K : Nat} {u : Bool} {c c' : Nat} {V G G' : Pages} {base : Nat} {l : List Nat} {v : Value}
theorem HG.grown (h : HG W Q B P L D n N K u V c G w) (hi : IntsO (B + 1) Q l v w) (hg : w.grownBy w' v.ownBlock) : HG W (fun k => Q k ∨ (w.heap.size ≤ k ∧ k < w'.heap.size)) B P L D n N K u V c G w' :=
  h.guardO (T := fun k => v.ownBlock = some k) ((Only.refl _ w).grown hg (fun _ hj => .inl hj)) (fun k hk => ⟨hi.inq k hk, by have := (hi.own.lt k hk).1; have := h.lo; omega⟩) (fun e => by have := (hi.own.lt B e).1; omega)
/-- What take comes to. -/
def TakeP (W : World) (Q : Nat → Prop) (B P L D n N K : Nat) (u : Bool) (V : Pages) (c : Nat) (G : Pages) (k : Nat) (w : World) (e : Ending) (w' : World) : Prop :=
  ∃ v l G1 Q', e = .returned v ∧ (∀ j, Q j → Q' j) ∧ HG W Q' B P L D n N K u V (c + 2 * k) G1 w' ∧ IntsO (B + 1) Q' l v w' ∧ l.length = k ∧ Takes N G l G1 ∧ KeepQ Q w w' ∧ ∀ g, v.ownBlock = some g → ¬ Q g
set_option maxHeartbeats 8000000 in
set_option maxRecDepth 100000 in
theorem htake_any (h : HG W Q B P L D n N K u V c G w) (k : Nat) (hk : k ≤ freeN (G 0) N) :
    Calls Tryz.prog 24 #[.pointer (some ⟨B, 0, none⟩), .int .i64 (k : Int)] w fun e w' => TakeP W Q B P L D n N K u V c G k w e w' := by
  have HH := hidm h
  have HSZ := hidm h.sz
  have HL0 := hidm (h.len (k := 0) (by have := h.sz; omega))
  have HFR := hidm hk
  have HK9 := hidm (show k ≤ 1024 from by
    have h1 := freeN_le (G 0) N
    have := h.sz; omega)
  have hk9 : (k : Int) ≤ 1024 := by have := HK9.out; omega
  clear h hk
  go_enter Tryz.func24, Tryz.ntmps24
  go_wp2_with fail
  go_loopw [5, 9] (fun row ii wr => ∃ (i : Nat) (vo : Option Addr) (vc : Nat), ii = .int .i64 (i : Int) ∧ i ≤ k ∧ row = .slice vo i vc ∧ Hid (∃ (l : List Nat) (G1 : Pages) (Q' : Nat → Prop), (∀ j, Q j → Q' j) ∧ HG W Q' B P L D n N K u V (c + 2 * i) G1 wr ∧ IntsO (B + 1) Q' l (.slice vo i vc) wr ∧ l.length = i ∧ Takes N G l G1 ∧ KeepQ Q w wr ∧ ∀ g, (Value.slice vo i vc).ownBlock = some g → ¬ Q g)) (fun _ ii _ => k - (intOf ii).toNat)
  case atStart => exact ⟨0, none, 0, rfl, by omega, rfl, hidm ⟨[], G, Q, fun _ h => h, HH.out, IntsO.nil _ _ _, rfl, rfl, fun _ _ => rfl, fun g hg => by cases hg⟩⟩
  case round =>
    rename World => wr
    obtain ⟨i, vo, vc, rfl, hi, rfl, HX⟩ := hrel
    obtain ⟨l, G1, Qr, hQ, hg, hio, hl, ht, hkq, hnq⟩ := HX.out
    clear HX
    rcases Nat.lt_or_ge i k with hlt | hge
    · have g1 : (i : Int) < (k : Int) := by omega
      have htk := ht.took HSZ.out.2 HL0.out
      have hpos : 0 < freeN (G1 0) N := by have := htk.free; have := HFR.out; omega
      have c1 := hg.c1
      have CA := hidm (hg.pg.alloc_in hpos)
      have HG1 := hidm hg
      have HIO := hidm hio
      have HT := hidm ht
      have HL := hidm hl
      have HKQ := hidm hkq
      have HQQ := hidm hQ
      have HNQ := hidm hnq
      obtain ⟨i2, hi2⟩ : ∃ i2, i2 = i + 1 := ⟨_, rfl⟩
      have e1 : (i : Int) + 1 = (i2 : Int) := by omega
      have e1w : IntKind.i64.wrap (i2 : Int) = (i2 : Int) := by have := HK9.out; simp only [IntKind.wrap_i64]; omega
      have HI2 := hidm hi2
      have HIK := hidm (show i2 ≤ k from by omega)
      clear hi2 htk hpos hg hio ht hl hkq hQ hnq hi
      go_upto_region 4 with fail
      go_upto_region 5 with fail
      refine CA.out.mono ?_
      rintro e w1 ⟨q, hq, rfl, hp1, hk1⟩
      have HG2 := hidm (HG1.out.turn hp1 hk1)
      have HIO2 := hidm (HIO.out.keep hk1)
      have HTQ := hidm hq
      have HK1 := hidm (Dsk.KeepQ.trans HKQ.out (fun j hj => hk1 j (HQQ.out j hj)))
      clear hp1 hk1 hq c1
      go_upto_region 5 with fail
      have hb1 : Below w1.heap.size w1 (w1.alloc (.cells #[.int .i64 (q : Int)] 3)) := (Below.refl _ _).alloc (Nat.le_refl _) _
      have HG3 := hidm (HG2.out.later hb1)
      have HIO3 := hidm (HIO2.out.keep (HG2.out.kept hb1))
      have HB1 := hidm hb1
      have HCQ := hidm (show (w1.alloc (.cells #[.int .i64 (q : Int)] 3)).cell? ⟨w1.heap.size, 0, none⟩ = some (.int .i64 (q : Int)) from by rw [cell_of_row _ _ 0 _ _ (0, 0) (heap_alloc_last w1 _)]; rfl)
      clear hb1
      go_wp2_with (at_builtin; refine wpList_ints rfl _ _ rfl rfl HIO3.out q w1.heap.size 1 rfl HCQ.out ?TA ?TB ?_)
      case TA => have := HL.out; have := HK9.out; omega
      case TB => have := HG3.out.qlt B HG3.out.inq; omega
      intro v' w6 hown hgrow hobl
      have hg6 := HG3.out.grown HIO3.out hgrow
      rw [show (w1.alloc (.cells #[.int .i64 (q : Int)] 3)).heap.size = w1.heap.size + 1 from by simp] at hg6
      have HG6 := hidm hg6
      clear hg6
      have HIO6 := hidm hown
      have HK6 := hidm (show KeepQ Q w w6 from fun j hj => by
        have h1 := HK1.out j hj
        have h2 := HB1.out.block j (HG2.out.qlt j (HQQ.out j hj))
        have h3 := hgrow.block j (HG3.out.qlt j (HQQ.out j hj)) (fun e => HNQ.out j e.symm hj)
        exact h3.trans (h2.trans h1))
      have HNQ6 := hidm (show ∀ g, v'.ownBlock = some g → ¬ Q g from fun g hgo hq => by
        rcases hobl g hgo with e | e
        · exact HNQ.out g e hq
        · have := HG3.out.qlt g (HQQ.out g hq); (try simp at this); omega)
      obtain ⟨so, sc, hvv, _, _⟩ := hown.form
      rw [List.length_append, List.length_singleton, HL.out, ← HI2.out] at hvv
      subst hvv
      clear hown hgrow hobl
      go_wp2_with fail
      go_roundw
      case rel => exact ⟨i2, so, sc, rfl, HIK.out, rfl, hidm ⟨l ++ [q], takeG G1 q, _, fun j hj => .inl (HQQ.out j hj), by have := HG6.out; rw [show c + 2 * i2 = c + 2 * i + 2 by have := HI2.out; omega]; exact this, HIO6.out, by rw [List.length_append, List.length_singleton, HL.out, HI2.out], HT.out.snoc HTQ.out.1 HTQ.out.2.1 HTQ.out.2.2.1 HTQ.out.2.2.2.1, HK6.out, HNQ6.out⟩⟩
      case measure => have := HI2.out; simp [intOf]; omega
    · obtain rfl : i = k := by omega
      have g1 : ¬ (i : Int) < (i : Int) := by omega
      have HFIN := hidm (show TakeP W Q B P L D n N K u V c G i w (.returned (.slice vo i vc)) wr from ⟨_, l, G1, Qr, rfl, hQ, hg, hio, hl, ht, hkq, hnq⟩)
      clear hg hio ht hl hkq hQ hnq hi
      go_wp2_with fail
      go_ret
      exact HFIN.out
end
end Hep
end Go.Proofs.YtmccnlffikegfaaGreatDoor
