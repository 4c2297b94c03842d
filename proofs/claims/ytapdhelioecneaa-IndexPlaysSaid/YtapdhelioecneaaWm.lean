/- join. Condition: less than a thousand items. -/
import Derived.Test.YtapdhelioecneaaWl
import Derived.Test.YtapdhelioecneaaWk
import Derived.Test.YtapdhelioecneaaWa
import Derived.Test.YtapdhelioecneaaWb
namespace Go.Proofs.Ytapdhelioecneaa
open Go.RowKit
namespace Idx
theorem rep1_any {base2 : Nat} {l m : List Bkm} {g c vb vc : Nat} {w : World} (h : Row2 0 l (.slice (some ⟨g, 0, none⟩) l.length c) w) (hm : m.length = 1) (hv : Row2 base2 m (.slice (some ⟨vb, 0, none⟩) m.length vc) w) (hne : vb ≠ g) (hl : l.length ≤ 3000) (i : Nat) (hi : i + 1 < l.length) :
    Calls Try.prog 50 #[.slice (some ⟨g, 0, none⟩) l.length c, .int .i64 (i : Nat), .int .i64 ((i : Int) + 2), .slice (some ⟨vb, 0, none⟩) 1 vc] w fun e w' => RepP l m i (i + 2) (.slice (some ⟨g, 0, none⟩) l.length c) w e w' := by
  rcases Nat.eq_or_lt_of_le (show i + 2 ≤ l.length from hi) with e | hlt
  · exact rep1_end h hm hv hne hl i e
  · exact rep1_mid h hm hv hne hl i hlt
theorem row1_lit (w : World) (a : Bkm) : Row2 w.heap.size [a] (.slice (some ⟨w.heap.size, 0, none⟩) 1 1) (w.alloc (.cells #[.slice a.ao a.xs.length a.cap, .int .i64 (maxE a.xs)] 91)) := by
  refine row_of_cells (heap_alloc_new w _) rfl (Nat.le_refl _) (by unfold maxLen; omega) (Nat.le_refl _) rfl (fun j hj => ?_)
  rw [cell_of_row _ _ _ _ _ (0, 0) (heap_alloc_new w _)]
  have : j < 2 := hj
  match j, this with
  | 0, _ => rfl
  | 1, _ => rfl
set_option maxHeartbeats 2000000 in
set_option maxRecDepth 100000 in
theorem join_out {R : Nat} {n : Int} {Bs : List Bkm} {v : Value} {w : World} (h : St R n Bs v w) (x : Int) (hx : x < 0 ∨ (Bs.length : Int) ≤ x + 1) (hin : -1 ≤ x ∧ x ≤ 1000) :
    Calls Try.prog 55 #[.pointer (some ⟨R, 1, none⟩), .int .i64 x] w fun e w' => e = .returned (.tuple #[]) ∧ Below w.heap.size w w' := by
  obtain ⟨ao, cap, hv, _, _⟩ := h.row.form
  have c2 := h.c2
  rw [hv] at c2
  have hw1 : IntKind.i64.wrap (x + 1) = x + 1 := by rw [IntKind.wrap_i64]; omega
  by_cases h0 : x < 0
  · clear h hv hx
    go_enter Try.func55, Try.ntmps55
    go_wp2_with fail
    refine bodyPost_ret (results_none rfl _ _ _) rfl ?_
    exact ⟨rfl, Below.refl _ _⟩
  · have h1 : (Bs.length : Int) ≤ x + 1 := by omega
    have h2 : 0 ≤ x := by omega
    clear h hv hx
    go_enter Try.func55, Try.ntmps55
    go_wp2_with fail
    refine bodyPost_ret (results_none rfl _ _ _) rfl ?_
    exact ⟨rfl, Below.refl _ _⟩
set_option maxHeartbeats 16000000 in
set_option maxRecDepth 100000 in
theorem join_in {R wn : Nat} {Bs : List Bkm} {v : Value} {w : World} (h : St R wn Bs v w) (q : Nat) (hq : q + 1 < Bs.length) (hl : (its Bs).length ≤ 998) :
    Calls Try.prog 55 #[.pointer (some ⟨R, 1, none⟩), .int .i64 (q : Nat)] w fun e w' => e = .returned (.tuple #[]) ∧ ((wn < (Bs[q]).xs.length + (Bs[q + 1]).xs.length ∧ Below w.heap.size w w') ∨ ((Bs[q]).xs.length + (Bs[q + 1]).xs.length ≤ wn ∧ ∃ b : Bkm, b.xs = (Bs[q]).xs ++ (Bs[q + 1]).xs ∧ Mut R wn Bs v w (Bs.take q ++ [b] ++ Bs.drop (q + 2)) w')) := by
  have hq1 : q < Bs.length := by omega
  obtain ⟨g, c, ga, hv, ha, hgga, hgR, hgaR, hmc, _, hg, hga, k0, _, _, _, hth⟩ := h.at q hq1
  obtain ⟨g2, c9, gb, hv2, hab, _, _, _, _, _, _, hgb, k2, _, _, _, hth2⟩ := h.at (q + 1) hq
  subst hv
  simp only [Value.slice.injEq, Option.some.injEq, Addr.mk.injEq, and_true, true_and] at hv2
  obtain ⟨rfl, rfl⟩ := hv2
  have HST := hide h
  have hwd := h.wd
  have HBL := hide (show Bs.length ≤ 998 from by have := len_le h.one; omega)
  have HNE := hide (show g ≠ R ∧ g < w.heap.size from ⟨hgR, hg⟩)
  have HX1 := hide (h.one _ (List.getElem_mem hq1))
  have HX2 := hide (h.one _ (List.getElem_mem hq))
  have HXL := hide (show (Bs[q]).xs.length ≤ 998 ∧ (Bs[q + 1]).xs.length ≤ 998 from ⟨by have := mem_len (List.getElem_mem hq1); omega, by have := mem_len (List.getElem_mem hq); omega⟩)
  obtain ⟨X, hX⟩ : ∃ X, X = (Bs[q]).xs := ⟨_, rfl⟩
  obtain ⟨Y, hY⟩ : ∃ Y, Y = (Bs[q + 1]).xs := ⟨_, rfl⟩
  obtain ⟨ca, hca⟩ : ∃ ca, ca = (Bs[q]).cap := ⟨_, rfl⟩
  obtain ⟨cb, hcb⟩ : ∃ cb, cb = (Bs[q + 1]).cap := ⟨_, rfl⟩
  rw [← hX, ← hca] at k0 hth
  rw [← hY, ← hcb] at k2 hth2
  rw [← hX] at HX1 HXL
  rw [← hY] at HX2 HXL
  rw [← hX, ← hY]
  obtain ⟨z1, hz1⟩ : ∃ z1, z1 = X.length := ⟨_, rfl⟩
  obtain ⟨z2, hz2⟩ : ∃ z2, z2 = Y.length := ⟨_, rfl⟩
  rw [← hz1] at k0 HX1 HXL
  rw [← hz2] at k2 HX2 HXL
  rw [← hz1, ← hz2]
  have HZ1 := hide hz1
  have HZ2 := hide hz2
  obtain ⟨m, hm⟩ : ∃ m, m = Bs.length := ⟨_, rfl⟩
  have HM := hide hm
  have c2 := h.c2
  rw [← hm] at c2
  have hw1 : IntKind.i64.wrap ((q : Int) + 1) = (q : Int) + 1 := by have := HBL.out; rw [IntKind.wrap_i64]; omega
  have hw2 : IntKind.i64.wrap ((q : Int) + 2) = (q : Int) + 2 := by have := HBL.out; rw [IntKind.wrap_i64]; omega
  have hw3 : IntKind.i64.wrap ((z1 : Int) + (z2 : Int)) = (z1 : Int) + (z2 : Int) := by have := HXL.out; rw [IntKind.wrap_i64]; omega
  have f0 : ¬ (m : Int) ≤ (q : Int) + 1 := by omega
  have f1 : (q : Int) < (m : Int) := by omega
  have f2 : (q : Int) + 1 < (m : Int) := by omega
  have f3 : (0 : Int) ≤ (q : Int) + 1 := by omega
  have f4 : ((q : Int) + 1).toNat = q + 1 := by omega
  have HQ := hide hq
  have HTA := hide hth
  have HTB := hide hth2
  have HGR := hide h.row
  have HS := hide (show w.drew.cell? ⟨R, 2, none⟩ = some (.slice (some ⟨g, 0, none⟩) m c) ∧ w.drew.cell? ⟨g, q * 2, none⟩ = some (.slice (some ⟨ga, 0, none⟩) z1 ca) ∧ w.drew.cell? ⟨g, (q + 1) * 2, none⟩ = some (.slice (some ⟨gb, 0, none⟩) z2 cb) from ⟨c2, k0, k2⟩)
  have HMD := hide ((Md.of h (fun k => k = g)).later (Below.refl _ _).drew)
  clear hth hth2 ha hab hgga hgR hgaR hmc hg hga hgb h hm hz1 hz2 hca hcb hX hY k0 k2
  go_enter Try.func55, Try.ntmps55
  go_wp2_with fail
  refine wp_region_held_drew (S := fun u => u.cell? ⟨R, 2, none⟩ = some (.slice (some ⟨g, 0, none⟩) m c) ∧ u.cell? ⟨g, q * 2, none⟩ = some (.slice (some ⟨ga, 0, none⟩) z1 ca) ∧ u.cell? ⟨g, (q + 1) * 2, none⟩ = some (.slice (some ⟨gb, 0, none⟩) z2 cb)) (by kernel_rfl) HS.out (fun hHeld => ?_)
  refine Man.t1 0 hHeld ?_
  (try simp only [Act.put, Mqa, Mqb, Mqc])
  refine Man.t1 1 hHeld ?_
  (try simp only [Act.put, Mqa, Mqb, Mqc])
  refine Man.t1 2 hHeld ?_
  (try simp only [Act.put, Mqa, Mqb, Mqc])
  refine Man.t1 3 hHeld ?_
  (try simp only [Act.put, Mqa, Mqb, Mqc])
  refine Man.t1 4 hHeld ?_
  (try simp only [Act.put, Mqa, Mqb, Mqc])
  refine Man.t1 5 hHeld ?_
  (try simp only [Act.put, Mqa, Mqb, Mqc])
  refine Man.t1 6 hHeld ?_
  (try simp only [Act.put, Mqa, Mqb, Mqc])
  refine Man.t1 7 hHeld ?_
  (try simp only [Act.put, Mqa, Mqb, Mqc])
  refine Man.t1 8 hHeld ?_
  (try simp only [Act.put, Mqa, Mqb, Mqc])
  refine Man.t1 9 hHeld ?_
  (try simp only [Act.put, Mqa, Mqb, Mqc])
  refine Man.t1 10 hHeld ?_
  (try simp only [Act.put, Mqa, Mqb, Mqc])
  refine Man.t1 11 hHeld ?_
  (try simp only [Act.put, Mqa, Mqb, Mqc])
  refine Man.t1 12 hHeld ?_
  (try simp only [Act.put, Mqa, Mqb, Mqc])
  refine Man.t1 13 hHeld ?_
  (try simp only [Act.put, Mqa, Mqb, Mqc])
  refine Man.t1 14 hHeld ?_
  (try simp only [Act.put, Mqa, Mqb, Mqc])
  refine Man.t1 15 hHeld ?_
  (try simp only [Act.put, Mqa, Mqb, Mqc])
  refine Man.t1 16 hHeld ?_
  (try simp only [Act.put, Mqa, Mqb, Mqc])
  refine Man.t1 17 hHeld ?_
  (try simp only [Act.put, Mqa, Mqb, Mqc])
  refine Man.t1 18 hHeld ?_
  (try simp only [Act.put, Mqa, Mqb, Mqc])
  refine wpAnyH_done (by kernel_rfl) ?_ _
  clear hHeld c2
  have c1 := HMD.out.c1
  by_cases hfit : z1 + z2 ≤ wn
  · have g3 : (z1 : Int) + (z2 : Int) ≤ (wn : Int) := by omega
    obtain ⟨s7, hs7⟩ : ∃ s7, s7 = w.drew.drew := ⟨_, rfl⟩
    have hb7 : Below w.heap.size w s7 := by rw [hs7]; exact (Below.refl _ _).drew.drew
    have HB7 := hide hb7
    have HMD7 := hide (show Md R wn (.slice (some ⟨g, 0, none⟩) Bs.length c) (fun k => k = g) w s7 from by rw [hs7]; exact HMD.out.later (Below.refl _ _).drew)
    have HG7 := hide (HGR.out.later hb7 (Nat.le_refl _))
    have HTA7 := hide (HTA.out.later hb7 (Nat.le_refl _))
    have HTB7 := hide (HTB.out.later hb7 (Nat.le_refl _))
    have HS7 := hide (show s7.cell? ⟨R, 2, none⟩ = some (.slice (some ⟨g, 0, none⟩) m c) from by have h9 := HMD7.out.c2; rwa [← HM.out] at h9)
    have HSZ := hide (show s7.heap.size = w.heap.size from by rw [hs7]; rfl)
    clear hb7 HMD HS HTA HTB
    go_wp2_with fail
    refine Mp.region (S := fun u => u.cell? ⟨R, 2, none⟩ = some (.slice (some ⟨g, 0, none⟩) m c)) 17 (by kernel_rfl) (by rw [← hs7]; exact HS7.out) (fun hHeld => ?_)
    rw [← hs7] at hHeld ⊢
    clear hs7
    refine Mp.t1 0 hHeld ?_
    (try simp only [Act.put, Mqa, Mqb, Mqc])
    refine Mp.t1 1 hHeld ?_
    (try simp only [Act.put, Mqa, Mqb, Mqc])
    refine Mp.t1 2 hHeld ?_
    (try simp only [Act.put, Mqa, Mqb, Mqc])
    refine Mp.t1 3 hHeld ?_
    (try simp only [Act.put, Mqa, Mqb, Mqc])
    refine Mp.t1 4 hHeld ?_
    (try simp only [Act.put, Mqa, Mqb, Mqc])
    refine Mp.t1 5 hHeld ?_
    (try simp only [Act.put, Mqa, Mqb, Mqc])
    refine Mp.t1 6 hHeld ?_
    (try simp only [Act.put, Mqa, Mqb, Mqc])
    refine Mp.t1 7 hHeld ?_
    (try simp only [Act.put, Mqa, Mqb, Mqc])
    refine Mp.t1 8 hHeld ?_
    (try simp only [Act.put, Mqa, Mqb, Mqc])
    refine Mp.t1 9 hHeld ?_
    (try simp only [Act.put, Mqa, Mqb, Mqc])
    refine Mp.one (i := 10) rfl (by kernel_rfl) (fun K9 hK => ?_)
    go_simp
    have hal := below_alloc s7 (.cells #[.slice (some ⟨ga, 0, none⟩) z1 ca, .slice (some ⟨gb, 0, none⟩) z2 cb] 42)
    have HB8 := hide hal
    have HC8 := hide (show (s7.alloc (.cells #[.slice (some ⟨ga, 0, none⟩) z1 ca, .slice (some ⟨gb, 0, none⟩) z2 cb] 42)).cell? ⟨s7.heap.size, 0, none⟩ = some (.slice (some ⟨ga, 0, none⟩) z1 ca) ∧ (s7.alloc (.cells #[.slice (some ⟨ga, 0, none⟩) z1 ca, .slice (some ⟨gb, 0, none⟩) z2 cb] 42)).cell? ⟨s7.heap.size, 1, none⟩ = some (.slice (some ⟨gb, 0, none⟩) z2 cb) from ⟨by go_keep, by go_keep⟩)
    have HTA8 := hide ((HTA7.out.later hal (Nat.le_refl _)).items)
    have HTB8 := hide ((HTB7.out.later hal (Nat.le_refl _)).items)
    have HSZ8 := hide (show s7.heap.size < (s7.alloc (.cells #[.slice (some ⟨ga, 0, none⟩) z1 ca, .slice (some ⟨gb, 0, none⟩) z2 cb] 42)).heap.size from by simp)
    clear hal
    refine hK.out _ _ (cell_later HB8.out HS7.out) (fun hNew => ?_)
    clear hK K9 hHeld
    have hHeld := hNew
    clear hNew
    (try simp only [Act.put, Mqa, Mqb, Mqc])
    refine Mp.one (i := 11) rfl (by kernel_rfl) (fun K9 hK => ?_)
    go_simp
    have hcall := concat_any (by have := HX1.out; have := HZ1.out; omega) (by have := HXL.out; have := HZ1.out; have := HZ2.out; omega) HTA8.out HTB8.out (p := s7.heap.size) (pcap := 2) (by rw [← HZ1.out]; exact HC8.out.1) (by rw [← HZ2.out]; exact HC8.out.2)
    with_reducible refine hcall.mono ?_
    clear hcall
    rintro e w3 ⟨u, rfl, hu, hb⟩
    have HLN := hide (show (X ++ Y).length = z1 + z2 from by rw [List.length_append, ← HZ1.out, ← HZ2.out])
    obtain ⟨gu, uc, rfl, hgu, hgu2, huc⟩ := hu.bkm (by rw [HLN.out]; have := HX1.out; omega)
    rw [HLN.out] at hu huc ⊢
    have HB9 := hide (HB8.out.trans (hb.mono HB8.out.size))
    have HU := hide hu
    have HGU := hide (show w.heap.size ≤ gu ∧ gu < w3.heap.size from ⟨by have := HSZ.out; have := HB8.out.size; omega, hgu2⟩)
    clear hu hb hgu hgu2 huc
    refine hK.out _ _ (cell_later HB9.out HS7.out) (fun hNew => ?_)
    clear hK K9 hHeld
    have hHeld := hNew
    clear hNew
    have hit := HU.out.items
    rw [← HLN.out] at hit
    have CB := hide (block_any hit (by rw [HLN.out]; omega))
    rw [HLN.out] at CB
    clear hit
    (try simp only [Act.put, Mqa, Mqb, Mqc])
    refine Mp.one (i := 12) rfl (by kernel_rfl) (fun K9 hK => ?_)
    go_simp
    with_reducible refine CB.out.mono ?_
    rintro e w5 ⟨rfl, hb⟩
    have HB10 := hide (HB9.out.trans (hb.mono HB9.out.size))
    have HU5 := hide (HU.out.later hb (Nat.le_refl _))
    have HSB := hide hb.size
    clear hb
    refine hK.out _ _ (cell_later HB10.out HS7.out) (fun hNew => ?_)
    clear hK K9 hHeld
    have hHeld := hNew
    clear hNew
    (try simp only [Act.put, Mqa, Mqb, Mqc])
    refine Mp.one (i := 13) rfl (by kernel_rfl) (fun K9 hK => ?_)
    go_simp
    have hal := below_alloc w5 (.cells #[.slice (some ⟨gu, 0, none⟩) (z1 + z2) uc, .int .i64 (maxE (X ++ Y))] 91)
    obtain ⟨A, hA⟩ : ∃ A : Bkm, A = ⟨some ⟨gu, 0, none⟩, uc, X ++ Y⟩ := ⟨_, rfl⟩
    have HAX := hide (show A.xs = X ++ Y from by rw [hA])
    have HATH := hide (show A.th = .slice (some ⟨gu, 0, none⟩) (z1 + z2) uc from by rw [hA]; unfold Bkm.th; rw [HLN.out])
    have HV := hide (show Row2 w5.heap.size [A] (.slice (some ⟨w5.heap.size, 0, none⟩) 1 1) (w5.alloc (.cells #[.slice (some ⟨gu, 0, none⟩) (z1 + z2) uc, .int .i64 (maxE (X ++ Y))] 91)) from by have h9 := row1_lit w5 A; rw [hA] at h9 ⊢; rw [show (⟨some ⟨gu, 0, none⟩, uc, X ++ Y⟩ : Bkm).xs.length = z1 + z2 from HLN.out] at h9; exact h9)
    have HB11 := hide (HB10.out.trans (hal.mono HB10.out.size))
    have HU6 := hide (HU5.out.later hal (Nat.le_refl _))
    have HSZ11 := hide (show w5.heap.size < (w5.alloc (.cells #[.slice (some ⟨gu, 0, none⟩) (z1 + z2) uc, .int .i64 (maxE (X ++ Y))] 91)).heap.size from by simp)
    clear hal hA
    refine hK.out _ _ (cell_later HB11.out HS7.out) (fun hNew => ?_)
    clear hK K9 hHeld
    have hHeld := hNew
    clear hNew
    (try simp only [Act.put, Mqa, Mqb, Mqc])
    refine Mp.one (i := 14) rfl (by kernel_rfl) (fun K9 hK => ?_)
    go_simp
    have hcall := rep1_any (HG7.out.later HB11.out (Nat.le_refl _)) rfl HV.out (by have := HNE.out; have := HB10.out.size; have := HSZ.out; omega) (by have := HBL.out; omega) q HQ.out
    rw [← HM.out] at hcall
    with_reducible refine hcall.mono ?_
    clear hcall
    rintro e w9 ⟨u, rfl, hu, hgb, hob⟩
    have hgb : (w5.alloc (.cells #[.slice (some ⟨gu, 0, none⟩) (z1 + z2) uc, .int .i64 (maxE (X ++ Y))] 91)).grownBy w9 (some g) := hgb
    have hob : u.ownBlock = some g ∨ u.ownBlock = some (w5.alloc (.cells #[.slice (some ⟨gu, 0, none⟩) (z1 + z2) uc, .int .i64 (maxE (X ++ Y))] 91)).heap.size := hob
    obtain ⟨uo, uc2, hue, _, _⟩ := hu.form
    obtain ⟨ln, hln⟩ : ∃ ln, ln = (Bs.take q ++ [A] ++ Bs.drop (q + 2)).length := ⟨_, rfl⟩
    rw [← hln] at hue
    subst hue
    have HU9 := hide hu
    have HOB9 := hide hob
    have HMD9 := hide ((HMD7.out.later HB11.out).grown hgb (fun k hk => ⟨.inl (by cases hk; rfl), by cases hk; exact HNE.out.1⟩))
    have HA9 := hide (HU6.out.kept (w' := w9) (fun g9 h9 => hgb.block g9 (HU6.out.lt g9 h9).2 (fun e9 => by have e8 : g9 = g := Option.some.inj e9; have e7 : gu = g9 := Option.some.inj h9; have := HGU.out; have := HNE.out; omega)))
    clear hu hgb hob hln
    refine hK.out _ _ (by have h9 := HMD9.out.c2; rwa [← HM.out] at h9) (fun hNew => ?_)
    clear hK K9 hHeld
    have hHeld := hNew
    clear hNew
    have c2 := HMD9.out.c2
    rw [← HM.out] at c2
    have z2' := HMD9.out.z2
    (try simp only [Act.put, Mqa, Mqb, Mqc])
    refine Mp.t1 15 hHeld ?_
    (try simp only [Act.put, Mqa, Mqb, Mqc])
    refine Mp.t1 16 hHeld ?_
    (try simp only [Act.put, Mqa, Mqb, Mqc])
    refine Mp.last rfl (by kernel_rfl) (fun K9 hK => ?_)
    go_simp
    refine hK.out _ _ ?_
    clear hK K9 hHeld
    (try simp only [Act.put, Mqa, Mqb, Mqc])
    refine Mp.done (by kernel_rfl) ?_ _
    go_wp2_with fail
    refine bodyPost_end (results_none rfl _ _ _) rfl ?_
    first
      | refine ⟨rfl, .inr ⟨hfit, A, HAX.out, ?_⟩⟩
      | refine ⟨rfl, hfit, A, HAX.out, ?_⟩
      | refine ⟨rfl, A, HAX.out, ?_⟩
    have hneu : (Value.slice uo ln uc2).ownBlock ≠ some gu := fun e9 => by
      rcases HOB9.out with e8 | e8
      · rw [e8] at e9
        have := Option.some.inj e9
        have := HNE.out
        have := HGU.out
        omega
      · rw [e8] at e9
        have := Option.some.inj e9
        have := HGU.out
        have := HSZ11.out
        have := HSB.out
        omega
    refine HMD9.out.lay HST.out (i := q) (j := q + 2) (by omega) HQ.out (fun k hk => .inr (.inl (by rw [hk]; rfl))) HU9.out (HOB9.out.imp id (fun e => ⟨_, e, by have := HB11.out.size; have := HSZ.out; omega⟩)) (fun x hx => ?_) (List.pairwise_singleton _ _)
    rw [List.mem_singleton.1 hx]
    refine ⟨by rw [HAX.out, HATH.out]; exact HA9.out.mono (Nat.zero_le _), by rw [HAX.out, HLN.out]; have := HX1.out; omega, fun e => hneu (by rw [← e, HATH.out]; rfl), gu, by rw [HATH.out]; rfl, .inl HGU.out.1⟩
  · have g3 : ¬ (z1 : Int) + (z2 : Int) ≤ (wn : Int) := by omega
    go_wp2_with fail
    refine bodyPost_end (results_none rfl _ _ _) rfl ?_
    first
      | exact ⟨rfl, .inl ⟨by omega, (Below.refl _ _).drew⟩⟩
      | exact ⟨rfl, by omega, (Below.refl _ _).drew⟩
end Idx
end Go.Proofs.Ytapdhelioecneaa
