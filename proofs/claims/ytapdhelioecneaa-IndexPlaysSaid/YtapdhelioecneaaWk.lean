/- insert, where there are blocks. Condition: less than a thousand items. -/
import Derived.Test.YtapdhelioecneaaWj
import Derived.Test.YtapdhelioecneaaW5
import Derived.Test.YtapdhelioecneaaW8
import Derived.Test.YtapdhelioecneaaW9
import Derived.Test.YtapdhelioecneaaWc
namespace Go.Proofs.Ytapdhelioecneaa
open Go.RowKit
namespace Idx
theorem rep2_any {base2 : Nat} {l m : List Bkm} {g c vb vc : Nat} {w : World} (h : Row2 0 l (.slice (some ⟨g, 0, none⟩) l.length c) w) (hm : m.length = 2) (hv : Row2 base2 m (.slice (some ⟨vb, 0, none⟩) m.length vc) w) (hne : vb ≠ g) (hl : l.length ≤ 3000) (i : Nat) (hi : i < l.length) :
    Calls Try.prog 50 #[.slice (some ⟨g, 0, none⟩) l.length c, .int .i64 (i : Nat), .int .i64 ((i : Int) + 1), .slice (some ⟨vb, 0, none⟩) 2 vc] w fun e w' => RepP l m i (i + 1) (.slice (some ⟨g, 0, none⟩) l.length c) w e w' := by
  rcases Nat.eq_or_lt_of_le (show i + 1 ≤ l.length from hi) with e | hlt
  · exact rep2_end h hm hv hne hl i e
  · by_cases hr : l.length + 1 ≤ c
    · exact rep2_room h hm hv hne hl i hlt hr
    · exact rep2_grow h hm hv hne hl i hlt (by omega)
/-- Two blocks, newly laid, are a row. -/
theorem row2_lit (w : World) (a b : Bkm) : Row2 w.heap.size [a, b] (.slice (some ⟨w.heap.size, 0, none⟩) 2 2) (w.alloc (.cells #[.slice a.ao a.xs.length a.cap, .int .i64 (maxE a.xs), .slice b.ao b.xs.length b.cap, .int .i64 (maxE b.xs)] 91)) := by
  refine row_of_cells (heap_alloc_new w _) rfl (Nat.le_refl _) (by unfold maxLen; omega) (Nat.le_refl _) rfl (fun j hj => ?_)
  rw [cell_of_row _ _ _ _ _ (0, 0) (heap_alloc_new w _)]
  have : j < 4 := hj
  match j, this with
  | 0, _ => rfl
  | 1, _ => rfl
  | 2, _ => rfl
  | 3, _ => rfl
theorem Row4.bkm {e : TypeId} {base : Nat} {l : List It} {v : Value} {w : World} (h : Row4 e base l v w) (h1 : 1 ≤ l.length) : ∃ g c, v = .slice (some ⟨g, 0, none⟩) l.length c ∧ base ≤ g ∧ g < w.heap.size ∧ l.length ≤ c := by
  obtain ⟨g, c, e1, e2, _, e3, e4⟩ := h.held (by omega)
  exact ⟨g, c, e1, e3, e4, e2⟩
set_option maxHeartbeats 16000000 in
set_option maxRecDepth 100000 in
theorem insert_in {R wn : Nat} {Bs : List Bkm} {v : Value} {w : World} (h : St R wn Bs v w) (q i : Nat) (hq : q < Bs.length) (hi : i ≤ (Bs[q]).xs.length) (hl : (its Bs).length ≤ 998) (t : It) :
    Calls Try.prog 35 #[.pointer (some ⟨R, 1, none⟩), .agg #[.int .i64 q, .int .i64 i], .agg #[.string (S t.k), .int .i64 t.s, .int .i64 t.e, .int .i64 t.id]] w fun e w' => e = .returned (.tuple #[]) ∧ ∃ M : List Bkm, Mut R wn Bs v w (Bs.take q ++ M ++ Bs.drop (q + 1)) w' ∧
      ((((Bs[q]).xs.length + 1 ≤ 2 * wn ∧ ∃ b, M = [b] ∧ b.xs = (Bs[q]).xs.take i ++ t :: (Bs[q]).xs.drop i)) ∨ (2 * wn < (Bs[q]).xs.length + 1 ∧ ∃ a b, M = [a, b] ∧ a.xs = ((Bs[q]).xs.take i ++ t :: (Bs[q]).xs.drop i).take wn ∧ b.xs = ((Bs[q]).xs.take i ++ t :: (Bs[q]).xs.drop i).drop wn)) := by
  obtain ⟨g, c, ga, hv, ha, hgga, hgR, hgaR, hmc, _, hg, hga, k0, k1, zg, zga, hth⟩ := h.at q hq
  subst hv
  have hwd := h.wd
  have HST := hide h
  have HXL := hide (show (Bs[q]).xs.length ≤ 998 from by have := mem_len (List.getElem_mem hq); omega)
  have HBL := hide (show Bs.length ≤ 998 from by have := len_le h.one; omega)
  have HOWN := hide (show (Bs[q]).th.ownBlock = some ga from by unfold Bkm.th; rw [ha]; rfl)
  have HX1 := hide (h.one _ (List.getElem_mem hq))
  obtain ⟨xs, hxs⟩ : ∃ xs, xs = (Bs[q]).xs := ⟨_, rfl⟩
  obtain ⟨cap, hcap⟩ : ∃ cap, cap = (Bs[q]).cap := ⟨_, rfl⟩
  rw [← hxs, ← hcap] at k0 hth
  rw [← hxs] at hi HXL HX1 ⊢
  obtain ⟨z, hz⟩ : ∃ z, z = xs.length := ⟨_, rfl⟩
  obtain ⟨m, hm⟩ : ∃ m, m = Bs.length := ⟨_, rfl⟩
  rw [← hz] at k0
  have hbw := below_two w (.cells #[.int .i64 q, .int .i64 i] 74) (.cells #[.string (S t.k), .int .i64 t.s, .int .i64 t.e, .int .i64 t.id] 31)
  have hmd := (Md.of h (fun k => k = ga)).later hbw
  have c2 := hmd.c2
  rw [← hm] at c2
  have HI := hide ((Ib.new q i t w).later (Below.refl _ _).drew)
  have HMD := hide (hmd.later (Below.refl _ _).drew)
  have HTH := hide (hth.later hbw.drew (Nat.le_refl _))
  have HGR := hide (h.row.later hbw.drew (Nat.le_refl _))
  have HLE := hide (show w.heap.size ≤ (((w.alloc (.cells #[.int .i64 q, .int .i64 i] 74)).alloc (.cells #[.string (S t.k), .int .i64 t.s, .int .i64 t.e, .int .i64 t.id] 31))).drew.heap.size from hbw.size)
  have HK0 := hide (cell_later hbw.drew k0)
  have HNE := hide (show g ≠ ga ∧ g ≠ R ∧ ga ≠ R ∧ g < w.heap.size ∧ ga < w.heap.size from ⟨hgga, hgR, hgaR, hg, hga⟩)
  have hL' : (xs.take i ++ t :: xs.drop i).length = z + 1 := by rw [List.length_append, List.length_take, List.length_cons, List.length_drop]; omega
  obtain ⟨l', hl'⟩ : ∃ l', l' = xs.take i ++ t :: xs.drop i := ⟨_, rfl⟩
  obtain ⟨zz, hzz⟩ : ∃ zz, zz = z + 1 := ⟨_, rfl⟩
  rw [← hl', ← hzz] at hL'
  rw [← hl', show xs.length + 1 = zz from by rw [hzz, hz]]
  have HL' := hide hL'
  have HLD := hide hl'
  have HZ1 := hide (show 1 ≤ zz from by omega)
  have hzz1 : 1 ≤ zz ∧ zz ≤ 999 := by have := HXL.out; omega
  clear hL' hl' hzz
  have HZ := hide hz
  have HM := hide hm
  have HII := hide hi
  have g1 : (q : Int) < (m : Int) := by omega
  have f0 : ((m : Int) == 0) = false := by rw [beq_eq_false_iff_ne]; omega
  have f1 : ¬ m = 0 := by omega
  have HS := hide (show ((w.alloc (.cells #[.int .i64 q, .int .i64 i] 74)).alloc (.cells #[.string (S t.k), .int .i64 t.s, .int .i64 t.e, .int .i64 t.id] 31)).drew.cell? ⟨R, 2, none⟩ = some (.slice (some ⟨g, 0, none⟩) m c) ∧ ((w.alloc (.cells #[.int .i64 q, .int .i64 i] 74)).alloc (.cells #[.string (S t.k), .int .i64 t.s, .int .i64 t.e, .int .i64 t.id] 31)).drew.cell? ⟨g, q * 2, none⟩ = some (.slice (some ⟨ga, 0, none⟩) z cap) ∧ ((w.alloc (.cells #[.int .i64 q, .int .i64 i] 74)).alloc (.cells #[.string (S t.k), .int .i64 t.s, .int .i64 t.e, .int .i64 t.id] 31)).drew.cell? ⟨w.heap.size, 0, none⟩ = some (.int .i64 q) ∧ ((w.alloc (.cells #[.int .i64 q, .int .i64 i] 74)).alloc (.cells #[.string (S t.k), .int .i64 t.s, .int .i64 t.e, .int .i64 t.id] 31)).drew.cell? ⟨w.heap.size, 1, none⟩ = some (.int .i64 i) ∧ ((w.alloc (.cells #[.int .i64 q, .int .i64 i] 74)).alloc (.cells #[.string (S t.k), .int .i64 t.s, .int .i64 t.e, .int .i64 t.id] 31)).drew.cell? ⟨(w.heap.size + 1), 0, none⟩ = some (.string (S t.k)) ∧ ((w.alloc (.cells #[.int .i64 q, .int .i64 i] 74)).alloc (.cells #[.string (S t.k), .int .i64 t.s, .int .i64 t.e, .int .i64 t.id] 31)).drew.cell? ⟨(w.heap.size + 1), 1, none⟩ = some (.int .i64 t.s) ∧ ((w.alloc (.cells #[.int .i64 q, .int .i64 i] 74)).alloc (.cells #[.string (S t.k), .int .i64 t.s, .int .i64 t.e, .int .i64 t.id] 31)).drew.cell? ⟨(w.heap.size + 1), 2, none⟩ = some (.int .i64 t.e) ∧ ((w.alloc (.cells #[.int .i64 q, .int .i64 i] 74)).alloc (.cells #[.string (S t.k), .int .i64 t.s, .int .i64 t.e, .int .i64 t.id] 31)).drew.cell? ⟨(w.heap.size + 1), 3, none⟩ = some (.int .i64 t.id) from ⟨by have := HMD.out.c2; rwa [← hm] at this, HK0.out, HI.out.p.c0, HI.out.p.c1, HI.out.t.c0, HI.out.t.c1, HI.out.t.c2, HI.out.t.c3⟩)
  have HQ := hide hq
  clear hmd hbw hz hm hth k0 k1 zg zga hmc ha hg hga hgga hgR hgaR h hcap hxs hi
  go_enter Try.func35, Try.ntmps35
  go_wp2_with fail
  refine wp_region_held_drew (S := fun u => u.cell? ⟨R, 2, none⟩ = some (.slice (some ⟨g, 0, none⟩) m c) ∧ u.cell? ⟨g, q * 2, none⟩ = some (.slice (some ⟨ga, 0, none⟩) z cap) ∧ u.cell? ⟨w.heap.size, 0, none⟩ = some (.int .i64 q) ∧ u.cell? ⟨w.heap.size, 1, none⟩ = some (.int .i64 i) ∧ u.cell? ⟨(w.heap.size + 1), 0, none⟩ = some (.string (S t.k)) ∧ u.cell? ⟨(w.heap.size + 1), 1, none⟩ = some (.int .i64 t.s) ∧ u.cell? ⟨(w.heap.size + 1), 2, none⟩ = some (.int .i64 t.e) ∧ u.cell? ⟨(w.heap.size + 1), 3, none⟩ = some (.int .i64 t.id)) (by kernel_rfl) HS.out (fun hHeld => ?_)
  obtain ⟨wd, hwd9⟩ : ∃ wd, wd = ((w.alloc (.cells #[.int .i64 q, .int .i64 i] 74)).alloc (.cells #[.string (S t.k), .int .i64 t.s, .int .i64 t.e, .int .i64 t.id] 31)).drew := ⟨_, rfl⟩
  rw [← hwd9] at HS HI HMD HTH HGR HLE HK0 hHeld ⊢
  clear hwd9 c2
  refine Man.t1 0 hHeld ?_
  (try simp only [Act.put, Mqa, Mqb, Mqc])
  refine Man.t1 1 hHeld ?_
  (try simp only [Act.put, Mqa, Mqb, Mqc])
  refine Man.t1 2 hHeld ?_
  (try simp only [Act.put, Mqa, Mqb, Mqc])
  refine Man.t1 3 hHeld ?_
  (try simp only [Act.put, Mqa, Mqb, Mqc])
  refine Man.t1 4 hHeld ?_
  (try simp only [Act.put, Mqa, Mqb, Mqc])
  refine Man.t1 5 hHeld ?_
  (try simp only [Act.put, Mqa, Mqb, Mqc])
  refine Man.t1 6 hHeld ?_
  (try simp only [Act.put, Mqa, Mqb, Mqc])
  refine Man.t1 7 hHeld ?_
  (try simp only [Act.put, Mqa, Mqb, Mqc])
  refine Man.t1 8 hHeld ?_
  (try simp only [Act.put, Mqa, Mqb, Mqc])
  refine Man.t1 9 hHeld ?_
  (try simp only [Act.put, Mqa, Mqb, Mqc])
  refine Man.t1 10 hHeld ?_
  (try simp only [Act.put, Mqa, Mqb, Mqc])
  refine Man.t1 11 hHeld ?_
  (try simp only [Act.put, Mqa, Mqb, Mqc])
  refine Man.one (i := 12) rfl (by kernel_rfl) (fun K9 hK => ?_)
  go_simp
  have HA := hide (below_alloc wd (.cells #[.string (S t.k), .int .i64 t.s, .int .i64 t.e, .int .i64 t.id] 31))
  have HR1 := hide (row4_lit wd t)
  have HMD1 := hide (HMD.out.later HA.out)
  have HI1 := hide (HI.out.later HA.out)
  have HTH1 := hide (HTH.out.later HA.out (Nat.le_refl _))
  have HGR1 := hide (HGR.out.later HA.out (Nat.le_refl _))
  have HK1 := hide (cell_later HA.out HK0.out)
  have HSZ1 := hide (show wd.heap.size < (wd.alloc (.cells #[.string (S t.k), .int .i64 t.s, .int .i64 t.e, .int .i64 t.id] 31)).heap.size from by simp)
  refine hK.out _ _ ⟨by have h9 := HMD1.out.c2; rwa [← HM.out] at h9, HK1.out, HI1.out.p.c0, HI1.out.p.c1, HI1.out.t.c0, HI1.out.t.c1, HI1.out.t.c2, HI1.out.t.c3⟩ (fun hNew => ?_)
  clear hK K9 hHeld
  have hHeld := hNew
  clear hNew
  (try simp only [Act.put, Mqa, Mqb, Mqc])
  refine Man.one (i := 13) rfl (by kernel_rfl) (fun K9 hK => ?_)
  go_simp
  have hcall := insert_any HTH1.out t HR1.out (fun g9 h9 e9 => by have e1 : wd.heap.size = g9 := Option.some.inj h9; have e2 : ga = g9 := Option.some.inj e9; have := HLE.out; have := HNE.out; omega) (by have := HXL.out; omega) (Nat.zero_le _) i HII.out
  rw [← HZ.out] at hcall
  with_reducible refine hcall.mono ?_
  clear hcall
  rintro e w2 ⟨u, rfl, hu, hgb, hob⟩
  rw [← HLD.out] at hu
  have hgb : (wd.alloc (.cells #[.string (S t.k), .int .i64 t.s, .int .i64 t.e, .int .i64 t.id] 31)).grownBy w2 (some ga) := hgb
  obtain ⟨gu, uc, rfl, _, hgu, huc⟩ := hu.bkm (by rw [HL'.out]; exact HZ1.out)
  rw [HL'.out] at hu huc hob ⊢
  have HU := hide hu
  have HUC := hide huc
  have HGU := hide (show w.heap.size ≤ gu ∨ gu = ga from by rcases hob with e9 | e9; exact .inr (Option.some.inj e9); exact .inl (by have e8 : gu = (wd.alloc (.cells #[.string (S t.k), .int .i64 t.s, .int .i64 t.e, .int .i64 t.id] 31)).heap.size := Option.some.inj e9; have := HLE.out; have := HSZ1.out; omega))
  have HGUL := hide hgu
  have HMD2 := hide (HMD1.out.grown hgb (fun k hk => ⟨.inl (by cases hk; rfl), by cases hk; exact HNE.out.2.2.1⟩))
  have HI2 := hide (HI1.out.grown hgb HNE.out.2.2.2.2)
  have hkg : w2.heap[g]? = (wd.alloc (.cells #[.string (S t.k), .int .i64 t.s, .int .i64 t.e, .int .i64 t.id] 31)).heap[g]? := hgb.block g (HGR1.out.lt g rfl).2 (fun e9 => by have := Option.some.inj e9; exact HNE.out.1 this)
  have HGR2 := hide (HGR1.out.kept (fun g9 h9 => by have e9 : g = g9 := Option.some.inj h9; subst e9; exact hkg))
  have HK2 := hide (show w2.cell? ⟨g, q * 2, none⟩ = some (.slice (some ⟨ga, 0, none⟩) z cap) from by rw [World.cell?_of_block (a := ⟨g, q * 2, none⟩) hkg]; exact HK1.out)
  have HLE2 := hide (show w.heap.size ≤ w2.heap.size from by have := HLE.out; have := HSZ1.out; have := hgb.size; omega)
  clear hu huc hgb hob hgu hkg
  refine hK.out _ _ ⟨by have h9 := HMD2.out.c2; rwa [← HM.out] at h9, HK2.out, HI2.out.p.c0, HI2.out.p.c1, HI2.out.t.c0, HI2.out.t.c1, HI2.out.t.c2, HI2.out.t.c3⟩ (fun hNew => ?_)
  clear hK K9 hHeld
  have hHeld := hNew
  clear hNew
  (try simp only [Act.put, Mqa, Mqb, Mqc])
  refine Man.t1 14 hHeld ?_
  (try simp only [Act.put, Mqa, Mqb, Mqc])
  refine wpAnyH_done (by kernel_rfl) ?_ _
  clear HS HI HMD HTH HGR HK0 HA HR1 HMD1 HI1 HTH1 HGR1 HK1 HSZ1 hHeld
  have c1 := HMD2.out.c1
  have hw2 : IntKind.i64.wrap (2 * (wn : Int)) = 2 * (wn : Int) := by rw [IntKind.wrap_i64]; omega
  by_cases hfit : zz ≤ 2 * wn
  · have g2 : (zz : Int) ≤ 2 * (wn : Int) := by omega
    have HPB := hide (HI2.out.p.later (Below.refl _ _).drew).c0
    have HMD3 := hide (HMD2.out.later (Below.refl _ _).drew)
    have HMC := hide (show w2.drew.cell? ⟨R, 2, none⟩ = some (.slice (some ⟨g, 0, none⟩) m c) from by have h9 := HMD3.out.c2; rwa [← HM.out] at h9)
    have HU3 := hide (HU.out.later (Below.refl w2.heap.size _).drew (Nat.le_refl _))
    have HGR3 := hide (HGR2.out.later (Below.refl w2.heap.size _).drew (Nat.le_refl _))
    have hit := HU3.out.items
    rw [← HL'.out] at hit
    have CB := hide (block_any hit (by rw [HL'.out]; omega))
    rw [HL'.out] at CB
    clear hit HU HMD2 HGR2 HK2
    go_wp2_with fail
    refine Mp.region (S := fun u => u.cell? ⟨R, 2, none⟩ = some (.slice (some ⟨g, 0, none⟩) m c) ∧ u.cell? ⟨w.heap.size, 0, none⟩ = some (.int .i64 q)) 9 (by kernel_rfl) ⟨HMC.out, HPB.out⟩ (fun hHeld => ?_)
    obtain ⟨wd2, hwd2⟩ : ∃ wd2, wd2 = w2.drew := ⟨_, rfl⟩
    rw [← hwd2] at HMD3 HU3 HPB CB HMC HGR3 hHeld ⊢
    clear hwd2
    refine Mp.t1 0 hHeld ?_
    (try simp only [Act.put, Mqa, Mqb, Mqc])
    refine Mp.t1 1 hHeld ?_
    (try simp only [Act.put, Mqa, Mqb, Mqc])
    refine Mp.t1 2 hHeld ?_
    (try simp only [Act.put, Mqa, Mqb, Mqc])
    refine Mp.t1 3 hHeld ?_
    (try simp only [Act.put, Mqa, Mqb, Mqc])
    refine Mp.t1 4 hHeld ?_
    (try simp only [Act.put, Mqa, Mqb, Mqc])
    refine Mp.t1 5 hHeld ?_
    (try simp only [Act.put, Mqa, Mqb, Mqc])
    refine Mp.t1 6 hHeld ?_
    (try simp only [Act.put, Mqa, Mqb, Mqc])
    refine Mp.one (i := 7) rfl (by kernel_rfl) (fun K9 hK => ?_)
    go_simp
    with_reducible refine CB.out.mono ?_
    rintro e w5 ⟨rfl, hb⟩
    have HMD5 := hide (HMD3.out.later hb)
    have HR5 := hide (HU3.out.later hb (Nat.le_refl _))
    have HG5 := hide (HGR3.out.later hb (Nat.le_refl _))
    have HP5 := hide (cell_later hb HPB.out)
    have HM5 := hide (cell_later hb HMC.out)
    clear hb
    refine hK.out _ _ ⟨HM5.out, HP5.out⟩ (fun hNew => ?_)
    clear hK K9 hHeld
    have hHeld := hNew
    clear hNew
    obtain ⟨b9, off9, c9, he9, _, r0, r1⟩ := HG5.out.blocks.at q HQ.out
    simp only [Value.slice.injEq, Option.some.injEq, Addr.mk.injEq, and_true, true_and] at he9
    obtain ⟨⟨rfl, rfl⟩, rfl⟩ := he9
    simp only [Nat.zero_add] at r0 r1
    have zr : ∀ j, w5.frozen? ⟨g, j, none⟩ = false := fun j => HG5.out.frozenAt j
    (try simp only [Act.put, Mqa, Mqb, Mqc])
    refine Mp.t1 8 hHeld ?_
    (try simp only [Act.put, Mqa, Mqb, Mqc])
    refine Mp.last rfl (by kernel_rfl) (fun K9 hK => ?_)
    go_simp
    refine hK.out _ _ ?_
    clear hK K9 hHeld
    (try simp only [Act.put, Mqa, Mqb, Mqc])
    refine Mp.done (by kernel_rfl) ?_ _
    go_wp2_with fail
    refine bodyPost_ret (results_none rfl _ _ _) rfl ?_
    refine ⟨rfl, [⟨some ⟨gu, 0, none⟩, uc, l'⟩], ?_, .inl ⟨hfit, _, rfl, rfl⟩⟩
    have hfin := HMD5.out.put HST.out q HQ.out (fun k9 h9 => by rw [h9]; exact HOWN.out) HG5.out ⟨some ⟨gu, 0, none⟩, uc, l'⟩ (by show Row4 31 0 l' (.slice (some ⟨gu, 0, none⟩) l'.length uc) w5; rw [HL'.out]; exact HR5.out) (by show 1 ≤ l'.length; rw [HL'.out]; omega) ⟨gu, rfl, HGU.out.imp id (fun e => by rw [e]; exact HOWN.out)⟩
    have e9 : (⟨some ⟨gu, 0, none⟩, uc, l'⟩ : Bkm).xs.length = zz := HL'.out
    rw [e9] at hfin
    exact hfin
  · have g2 : ¬ (zz : Int) ≤ 2 * (wn : Int) := by omega
    have hwz : wn < zz := by omega
    have hb0 : (wn : Int) ≤ (uc : Int) := by have := HUC.out; omega
    have hb1 : (wn : Int) ≤ (zz : Int) := by omega
    have hb2 : ¬ uc = wn := by have := HUC.out; omega
    have HMD3 := hide (HMD2.out.later (Below.refl _ _).drew)
    have HI3 := hide (HI2.out.later (Below.refl _ _).drew)
    have HU3 := hide (HU.out.later (Below.refl w2.heap.size _).drew (Nat.le_refl _))
    have HGR3 := hide (HGR2.out.later (Below.refl w2.heap.size _).drew (Nat.le_refl _))
    have hlen1 : (l'.take wn).length = wn := by rw [List.length_take, HL'.out]; omega
    have hlen2 : (l'.drop wn).length = zz - wn := by rw [List.length_drop, HL'.out]
    have HLN1 := hide hlen1
    have HLN2 := hide hlen2
    have hit := HU3.out.items
    rw [← HL'.out] at hit
    have hfst := hit.first wn (by rw [HL'.out]; omega)
    have hsnd := hit.cut wn (by rw [HL'.out]; omega)
    unfold sliced at hsnd
    rw [if_neg (by omega), HL'.out] at hsnd
    have HF1 := hide (show ItemsAt (l'.take wn) (.slice (some ⟨gu, 0, none⟩) (l'.take wn).length uc) w2.drew from by rw [hlen1]; exact hfst)
    have HF2 := hide (show ItemsAt (l'.drop wn) (.slice (some ⟨gu, wn * 4, none⟩) (l'.drop wn).length (uc - wn)) w2.drew from by rw [hlen2]; simpa [add_none] using hsnd)
    have CC1 := hide (iclone_any HF1.out (by rw [hlen1]; omega))
    have CC2 := hide (show ∀ u : World, Below w2.drew.heap.size w2.drew u → Calls Try.prog 49 #[.slice (some ⟨gu, wn * 4, none⟩) (zz - wn) (uc - wn)] u fun e w' => ∃ ao' c', e = .returned (.slice ao' (zz - wn) c') ∧ w'.ownsRow u.heap.size 31 4 (.slice ao' (zz - wn) c') (zz - wn) (flat (l'.drop wn)) ∧ Below u.heap.size u w' from fun u hu => by
      have h9 := iclone_any (HF2.out.later hu (Nat.le_refl _)) (by rw [HLN2.out]; omega)
      rw [HLN2.out] at h9
      exact h9)
    rw [hlen1] at CC1
    have HSP := hide (show w2.drew.cell? ⟨R, 1, none⟩ = some (.int .i64 wn) from HMD3.out.c1)
    clear hlen1 hlen2 hit hfst hsnd HF1 HF2 HU HMD2 HGR2 HK2 HI2
    go_wp2_with fail
    refine wp_region_held_drew (S := fun u => u.cell? ⟨R, 1, none⟩ = some (.int .i64 wn)) (by kernel_rfl) HSP.out (fun hHeld => ?_)
    obtain ⟨wd2, hwd2⟩ : ∃ wd2, wd2 = w2.drew := ⟨_, rfl⟩
    have HWZ := hide (show w.heap.size ≤ wd2.heap.size from by rw [hwd2]; exact HLE2.out)
    rw [← hwd2] at HMD3 HI3 HU3 HGR3 CC1 CC2 HSP hHeld ⊢
    clear hwd2
    refine Man.t1 0 hHeld ?_
    (try simp only [Act.put, Mqa, Mqb, Mqc])
    refine Man.t1 1 hHeld ?_
    (try simp only [Act.put, Mqa, Mqb, Mqc])
    refine Man.t1 2 hHeld ?_
    (try simp only [Act.put, Mqa, Mqb, Mqc])
    refine Man.t1 3 hHeld ?_
    (try simp only [Act.put, Mqa, Mqb, Mqc])
    refine Man.t1 4 hHeld ?_
    (try simp only [Act.put, Mqa, Mqb, Mqc])
    refine Man.t1 5 hHeld ?_
    (try simp only [Act.put, Mqa, Mqb, Mqc])
    refine Man.t1 7 hHeld ?_
    (try simp only [Act.put, Mqa, Mqb, Mqc])
    refine Man.t1 8 hHeld ?_
    (try simp only [Act.put, Mqa, Mqb, Mqc])
    refine Man.t1 9 hHeld ?_
    (try simp only [Act.put, Mqa, Mqb, Mqc])
    refine Man.t1 10 hHeld ?_
    (try simp only [Act.put, Mqa, Mqb, Mqc])
    refine Man.t1 11 hHeld ?_
    (try simp only [Act.put, Mqa, Mqb, Mqc])
    refine Man.t1 12 hHeld ?_
    (try simp only [Act.put, Mqa, Mqb, Mqc])
    refine Man.one (i := 6) rfl (by kernel_rfl) (fun K9 hK => ?_)
    go_simp
    with_reducible refine CC1.out.mono ?_
    rintro e w3 ⟨ao1, cp1, rfl, ho, hb⟩
    have HOA := hide ho
    have HB3 := hide hb
    clear ho hb
    refine hK.out _ _ (cell_later HB3.out HSP.out) (fun hNew => ?_)
    clear hK K9 hHeld
    have hHeld := hNew
    clear hNew
    (try simp only [Act.put, Mqa, Mqb, Mqc])
    refine Man.one (i := 13) rfl (by kernel_rfl) (fun K9 hK => ?_)
    go_simp
    with_reducible refine (CC2.out _ HB3.out).mono ?_
    rintro e w4 ⟨ao2, cp2, rfl, ho, hb⟩
    obtain ⟨A, hA⟩ : ∃ A : Bkm, A = ⟨ao1, cp1, l'.take wn⟩ := ⟨_, rfl⟩
    obtain ⟨B, hB⟩ : ∃ B : Bkm, B = ⟨ao2, cp2, l'.drop wn⟩ := ⟨_, rfl⟩
    have HAX := hide (show A.xs = l'.take wn from by rw [hA])
    have HBX := hide (show B.xs = l'.drop wn from by rw [hB])
    have HAA := hide (show A.ao = ao1 ∧ A.cap = cp1 from by rw [hA]; exact ⟨rfl, rfl⟩)
    have HBB := hide (show B.ao = ao2 ∧ B.cap = cp2 from by rw [hB]; exact ⟨rfl, rfl⟩)
    have hra : Row4 31 wd2.heap.size A.xs A.th w3 := by rw [hA]; show w3.ownsRow _ 31 4 (.slice ao1 (l'.take wn).length cp1) (l'.take wn).length _; rw [HLN1.out]; exact HOA.out
    have hrb : Row4 31 w3.heap.size B.xs B.th w4 := by rw [hB]; show w4.ownsRow _ 31 4 (.slice ao2 (l'.drop wn).length cp2) (l'.drop wn).length _; rw [HLN2.out]; exact ho
    have HRA4 := hide ((hra.later hb (Nat.le_refl _)).mono HWZ.out)
    have HRB4 := hide (hrb.mono (Nat.le_trans HWZ.out HB3.out.size))
    have HAB := hide (show A.th.ownBlock ≠ B.th.ownBlock from fun e9 => by obtain ⟨g1, c1', e1, _, h1, _⟩ := hra.bkm (by rw [hA]; show 1 ≤ (l'.take wn).length; rw [HLN1.out]; omega); have e2 : A.th.ownBlock = some g1 := (by rw [e1]; rfl); have h2 := (hrb.lt g1 (e9.symm.trans e2)).1; omega)
    have hb34 := HB3.out.trans (hb.mono HB3.out.size)
    have HMD4 := hide (HMD3.out.later hb34)
    have HI4 := hide (HI3.out.later hb34)
    have HGR4 := hide (HGR3.out.later hb34 (Nat.le_refl _))
    have HSP4 := hide (cell_later hb34 HSP.out)
    clear hA hB hra hrb ho hb hb34
    refine hK.out _ _ HSP4.out (fun hNew => ?_)
    clear hK K9 hHeld
    have hHeld := hNew
    clear hNew
    (try simp only [Act.put, Mqa, Mqb, Mqc])
    refine Man.t1 14 hHeld ?_
    (try simp only [Act.put, Mqa, Mqb, Mqc])
    refine Man.t1 15 hHeld ?_
    (try simp only [Act.put, Mqa, Mqb, Mqc])
    refine wpAnyH_done (by kernel_rfl) ?_ _
    -- the two copies
    obtain ⟨s7, hs7⟩ : ∃ s7, s7 = w4.drew := ⟨_, rfl⟩
    have HMD7 := hide (show Md R wn (.slice (some ⟨g, 0, none⟩) Bs.length c) (fun k => k = ga) w s7 from by rw [hs7]; exact HMD4.out.later (Below.refl _ _).drew)
    have HI7 := hide (show Ib q i t w s7 from by rw [hs7]; exact HI4.out.later (Below.refl _ _).drew)
    have HG7 := hide (show Row2 0 Bs (.slice (some ⟨g, 0, none⟩) Bs.length c) s7 from by rw [hs7]; exact HGR4.out.later (Below.refl w4.heap.size _).drew (Nat.le_refl _))
    have HA7 := hide (show Row4 31 w.heap.size A.xs A.th s7 from by rw [hs7]; exact HRA4.out.later (Below.refl w4.heap.size _).drew (Nat.le_refl _))
    have HB7 := hide (show Row4 31 w.heap.size B.xs B.th s7 from by rw [hs7]; exact HRB4.out.later (Below.refl w4.heap.size _).drew (Nat.le_refl _))
    have HWS := hide (show w.heap.size ≤ s7.heap.size from by rw [hs7]; exact HMD4.out.o.size)
    have hqw : IntKind.i64.wrap ((q : Int) + 1) = (q : Int) + 1 := by have := HBL.out; have := HM.out; rw [IntKind.wrap_i64]; omega
    have HAXN := hide (show A.xs.length = wn from by rw [HAX.out]; exact HLN1.out)
    have HBXN := hide (show B.xs.length = zz - wn from by rw [HBX.out]; exact HLN2.out)
    have HS7 := hide (show s7.cell? ⟨R, 2, none⟩ = some (.slice (some ⟨g, 0, none⟩) m c) ∧ s7.cell? ⟨w.heap.size, 0, none⟩ = some (.int .i64 q) from ⟨by have h9 := HMD7.out.c2; rwa [← HM.out] at h9, HI7.out.p.c0⟩)
    have CA7 := hide (block_any (l := A.xs) (sl := A.th) HA7.out.items (by rw [HAXN.out]; omega))
    have CB7 := hide (show ∀ u : World, Below s7.heap.size s7 u → Calls Try.prog 47 #[B.th] u fun e w' => e = .returned (.agg #[B.th, .int .i64 (maxE B.xs)]) ∧ Below u.heap.size u w' from fun u hu => block_any (HB7.out.items.later hu (Nat.le_refl _)) (by rw [HBXN.out]; omega))
    have HTHA := hide (show A.th = .slice A.ao wn A.cap from by unfold Bkm.th; rw [HAXN.out])
    have HTHB := hide (show B.th = .slice B.ao (zz - wn) B.cap from by unfold Bkm.th; rw [HBXN.out])
    rw [HTHA.out, HAA.out.1, HAA.out.2] at CA7
    rw [HTHB.out, HBB.out.1, HBB.out.2] at CB7
    clear HMD4 HI4 HGR4 HRA4 HRB4 CC1 CC2 HSP HMD3 HI3 HU3 HGR3
    go_wp2_with fail
    refine Mp.region (S := fun u => u.cell? ⟨R, 2, none⟩ = some (.slice (some ⟨g, 0, none⟩) m c) ∧ u.cell? ⟨w.heap.size, 0, none⟩ = some (.int .i64 q)) 18 (by kernel_rfl) (by rw [← hs7]; exact HS7.out) (fun hHeld => ?_)
    rw [← hs7] at hHeld ⊢
    clear hs7
    refine Mp.t1 0 hHeld ?_
    (try simp only [Act.put, Mqa, Mqb, Mqc])
    refine Mp.t1 1 hHeld ?_
    (try simp only [Act.put, Mqa, Mqb, Mqc])
    refine Mp.t1 2 hHeld ?_
    (try simp only [Act.put, Mqa, Mqb, Mqc])
    refine Mp.t1 3 hHeld ?_
    (try simp only [Act.put, Mqa, Mqb, Mqc])
    refine Mp.t1 4 hHeld ?_
    (try simp only [Act.put, Mqa, Mqb, Mqc])
    refine Mp.t1 5 hHeld ?_
    (try simp only [Act.put, Mqa, Mqb, Mqc])
    refine Mp.t1 6 hHeld ?_
    (try simp only [Act.put, Mqa, Mqb, Mqc])
    refine Mp.t1 7 hHeld ?_
    (try simp only [Act.put, Mqa, Mqb, Mqc])
    refine Mp.t1 8 hHeld ?_
    (try simp only [Act.put, Mqa, Mqb, Mqc])
    refine Mp.t1 9 hHeld ?_
    (try simp only [Act.put, Mqa, Mqb, Mqc])
    refine Mp.t1 10 hHeld ?_
    (try simp only [Act.put, Mqa, Mqb, Mqc])
    refine Mp.t1 12 hHeld ?_
    (try simp only [Act.put, Mqa, Mqb, Mqc])
    refine Mp.one (i := 11) rfl (by kernel_rfl) (fun K9 hK => ?_)
    go_simp
    with_reducible refine CA7.out.mono ?_
    rintro e w5 ⟨rfl, hb⟩
    have HB5 := hide hb
    clear hb
    refine hK.out _ _ ⟨cell_later HB5.out HS7.out.1, cell_later HB5.out HS7.out.2⟩ (fun hNew => ?_)
    clear hK K9 hHeld
    have hHeld := hNew
    clear hNew
    (try simp only [Act.put, Mqa, Mqb, Mqc])
    refine Mp.one (i := 13) rfl (by kernel_rfl) (fun K9 hK => ?_)
    go_simp
    with_reducible refine (CB7.out _ HB5.out).mono ?_
    rintro e w6 ⟨rfl, hb⟩
    have HB6 := hide (HB5.out.trans (hb.mono HB5.out.size))
    clear hb
    refine hK.out _ _ ⟨cell_later HB6.out HS7.out.1, cell_later HB6.out HS7.out.2⟩ (fun hNew => ?_)
    clear hK K9 hHeld
    have hHeld := hNew
    clear hNew
    (try simp only [Act.put, Mqa, Mqb, Mqc])
    refine Mp.one (i := 14) rfl (by kernel_rfl) (fun K9 hK => ?_)
    go_simp
    have hal := below_alloc w6 (.cells #[.slice ao1 wn cp1, .int .i64 (maxE A.xs), .slice ao2 (zz - wn) cp2, .int .i64 (maxE B.xs)] 91)
    have HV := hide (show Row2 w6.heap.size [A, B] (.slice (some ⟨w6.heap.size, 0, none⟩) 2 2) (w6.alloc (.cells #[.slice ao1 wn cp1, .int .i64 (maxE A.xs), .slice ao2 (zz - wn) cp2, .int .i64 (maxE B.xs)] 91)) from by have h9 := row2_lit w6 A B; rw [HAXN.out, HBXN.out, HAA.out.1, HAA.out.2, HBB.out.1, HBB.out.2] at h9; exact h9)
    have HB8 := hide (HB6.out.trans (hal.mono HB6.out.size))
    have HSZ8 := hide (show w6.heap.size < (w6.alloc (.cells #[.slice ao1 wn cp1, .int .i64 (maxE A.xs), .slice ao2 (zz - wn) cp2, .int .i64 (maxE B.xs)] 91)).heap.size from by simp)
    clear hal
    refine hK.out _ _ ⟨cell_later HB8.out HS7.out.1, cell_later HB8.out HS7.out.2⟩ (fun hNew => ?_)
    clear hK K9 hHeld
    have hHeld := hNew
    clear hNew
    (try simp only [Act.put, Mqa, Mqb, Mqc])
    refine Mp.one (i := 15) rfl (by kernel_rfl) (fun K9 hK => ?_)
    go_simp
    have hcall := rep2_any (HG7.out.later HB8.out (Nat.le_refl _)) rfl HV.out (by have := HNE.out; have := HB6.out.size; have := HWS.out; omega) (by have := HBL.out; omega) q HQ.out
    rw [← HM.out] at hcall
    with_reducible refine hcall.mono ?_
    clear hcall
    rintro e w9 ⟨u, rfl, hu, hgb, hob⟩
    have hgb : (w6.alloc (.cells #[.slice ao1 wn cp1, .int .i64 (maxE A.xs), .slice ao2 (zz - wn) cp2, .int .i64 (maxE B.xs)] 91)).grownBy w9 (some g) := hgb
    have hob : u.ownBlock = some g ∨ u.ownBlock = some (w6.alloc (.cells #[.slice ao1 wn cp1, .int .i64 (maxE A.xs), .slice ao2 (zz - wn) cp2, .int .i64 (maxE B.xs)] 91)).heap.size := hob
    obtain ⟨uo, uc2, hue, _, _⟩ := hu.form
    obtain ⟨ln, hln⟩ : ∃ ln, ln = (Bs.take q ++ [A, B] ++ Bs.drop (q + 1)).length := ⟨_, rfl⟩
    rw [← hln] at hue
    subst hue
    have HU9 := hide hu
    have HOB9 := hide hob
    have HGB9 := hide hgb
    have hmd8 := (HMD7.out.mono (T' := fun k => k = ga ∨ k = g) (fun k h9 => .inl h9)).later HB8.out
    have HMD9 := hide (hmd8.grown hgb (fun k hk => ⟨.inl (.inr (by cases hk; rfl)), by cases hk; exact HNE.out.2.1⟩))
    have HA9 := hide ((HA7.out.later HB8.out (Nat.le_refl _)).kept (w' := w9) (fun g9 h9 => hgb.block g9 (Nat.lt_of_lt_of_le (HA7.out.lt g9 h9).2 HB8.out.size) (fun e9 => by have e8 : g9 = g := Option.some.inj e9; have := (HA7.out.lt g9 h9).1; have := HNE.out; omega)))
    have HBB9 := hide ((HB7.out.later HB8.out (Nat.le_refl _)).kept (w' := w9) (fun g9 h9 => hgb.block g9 (Nat.lt_of_lt_of_le (HB7.out.lt g9 h9).2 HB8.out.size) (fun e9 => by have e8 : g9 = g := Option.some.inj e9; have := (HB7.out.lt g9 h9).1; have := HNE.out; omega)))
    have HI9 := hide ((HI7.out.later HB8.out).grown hgb HNE.out.2.2.2.1)
    clear hu hgb hob hmd8 hln
    refine hK.out _ _ ⟨by have h9 := HMD9.out.c2; rwa [← HM.out] at h9, HI9.out.p.c0⟩ (fun hNew => ?_)
    clear hK K9 hHeld
    have hHeld := hNew
    clear hNew
    have c2 := HMD9.out.c2
    rw [← HM.out] at c2
    have z2 := HMD9.out.z2
    (try simp only [Act.put, Mqa, Mqb, Mqc])
    refine Mp.t1 16 hHeld ?_
    (try simp only [Act.put, Mqa, Mqb, Mqc])
    refine Mp.t1 17 hHeld ?_
    (try simp only [Act.put, Mqa, Mqb, Mqc])
    refine Mp.last rfl (by kernel_rfl) (fun K9 hK => ?_)
    go_simp
    refine hK.out _ _ ?_
    clear hK K9 hHeld
    (try simp only [Act.put, Mqa, Mqb, Mqc])
    refine Mp.done (by kernel_rfl) ?_ _
    go_wp2_with fail
    refine bodyPost_end (results_none rfl _ _ _) rfl ?_
    refine ⟨rfl, [A, B], ?_, .inr ⟨by omega, A, B, rfl, HAX.out, HBX.out⟩⟩
    have hone : ∀ x : Bkm, Row4 31 w.heap.size x.xs x.th s7 → 1 ≤ x.xs.length → ∃ k, x.th.ownBlock = some k ∧ w.heap.size ≤ k ∧ k < s7.heap.size := fun x hx h1 => by
      obtain ⟨g9, c9, e9, h9, h8, _⟩ := hx.bkm h1
      exact ⟨g9, by rw [e9]; rfl, h9, h8⟩
    have hneu : ∀ k, w.heap.size ≤ k → k < s7.heap.size → (Value.slice uo ln uc2).ownBlock ≠ some k := fun k h1 h2 e9 => by
      rcases HOB9.out with e8 | e8
      · rw [e8] at e9
        have := Option.some.inj e9
        have := HNE.out
        omega
      · rw [e8] at e9
        have := Option.some.inj e9
        have := HB6.out.size
        have := HSZ8.out
        omega
    have hA1 : 1 ≤ A.xs.length := by rw [HAXN.out]; omega
    have hB1 : 1 ≤ B.xs.length := by rw [HBXN.out]; omega
    obtain ⟨ka, ea, a1, a2⟩ := hone A HA7.out hA1
    obtain ⟨kb, eb, b1, b2⟩ := hone B HB7.out hB1
    refine HMD9.out.lay HST.out (Nat.le_succ q) HQ.out (fun k hk => ?_) HU9.out (HOB9.out.imp id (fun e => ⟨_, e, by have := HB6.out.size; have := HSZ8.out; have := HWS.out; omega⟩)) (fun x hx => ?_) ?_
    · rcases hk with rfl | rfl
      · exact .inr (.inr ⟨q, HQ.out, Nat.le_refl _, by omega, HOWN.out⟩)
      · exact .inr (.inl rfl)
    · rcases List.mem_cons.1 hx with rfl | hx
      · exact ⟨HA9.out.mono (Nat.zero_le _), hA1, fun e => hneu ka a1 a2 (e.symm.trans ea), ka, ea, .inl a1⟩
      · rw [List.mem_singleton.1 hx]
        exact ⟨HBB9.out.mono (Nat.zero_le _), hB1, fun e => hneu kb b1 b2 (e.symm.trans eb), kb, eb, .inl b1⟩
    · exact List.pairwise_pair.2 HAB.out

end Idx
end Go.Proofs.Ytapdhelioecneaa
