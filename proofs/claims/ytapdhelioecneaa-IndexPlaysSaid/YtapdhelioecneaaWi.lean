/- The index under change; change. Condition: less than a thousand items. -/
import Derived.Test.YtapdhelioecneaaWh
namespace Go.Proofs.Ytapdhelioecneaa
open Go.RowKit
namespace Idx
/-- The index's own block stands, while blocks of T are written. -/
structure Md (R : Nat) (n : Int) (v : Value) (T : Nat → Prop) (w u : World) : Prop where
  o : Only T w u
  c0 : u.cell? ⟨R, 0, none⟩ = some (.pointer (some ⟨R, 0, none⟩))
  c1 : u.cell? ⟨R, 1, none⟩ = some (.int .i64 n)
  c2 : u.cell? ⟨R, 2, none⟩ = some v
  z2 : u.frozen? ⟨R, 2, none⟩ = false
section
variable {R : Nat} {n : Int} {Bs : List Bkm} {v : Value} {T T' : Nat → Prop} {w u u' : World}
theorem Md.lt (h : Md R n v T w u) : R < u.heap.size := World.block_lt_of_cell? u _ h.c0
theorem Md.of (h : St R n Bs v w) (T : Nat → Prop) : Md R n v T w w := ⟨.refl _ _, h.c0, h.c1, h.c2, h.z2⟩
theorem Md.keep (h : Md R n v T w u) (hO : Only T w u') (e : u'.heap[R]? = u.heap[R]?) : Md R n v T w u' :=
  ⟨hO, by rw [World.cell?_of_block (a := ⟨R, 0, none⟩) e]; exact h.c0, by rw [World.cell?_of_block (a := ⟨R, 1, none⟩) e]; exact h.c1, by rw [World.cell?_of_block (a := ⟨R, 2, none⟩) e]; exact h.c2, by rw [World.frozen?_of_block (a := ⟨R, 2, none⟩) e]; exact h.z2⟩
theorem Md.later (h : Md R n v T w u) (hb : Below u.heap.size u u') : Md R n v T w u' := h.keep (h.o.trans (T' := fun _ => False) (.of hb) (fun _ e => e.elim)) (hb.block R h.lt)
theorem Md.set (h : Md R n v T w u) {p : Addr} (hp : T p.block) (hR : p.block ≠ R) (x : Value) : Md R n v T w (u.setCell p x) := h.keep (h.o.set (.inl hp) x) (Below.heap_setCell _ _ _ _ (Ne.symm hR))
theorem Md.grown (h : Md R n v T w u) {row : Option Nat} (hg : u.grownBy u' row) (hr : ∀ k, row = some k → (T k ∨ w.heap.size ≤ k) ∧ k ≠ R) : Md R n v T w u' := h.keep (h.o.grown hg (fun k e => (hr k e).1)) (hg.block R h.lt (fun e => (hr R e.symm).2 rfl))
theorem Md.mono (h : Md R n v T w u) (hT : ∀ k, T k → T' k) : Md R n v T' w u := ⟨h.o.mono hT, h.c0, h.c1, h.c2, h.z2⟩
/-- One block is laid in its place. -/
theorem Md.put {g c : Nat} (h : Md R n (.slice (some ⟨g, 0, none⟩) Bs.length c) T w u) (hs : St R n Bs (.slice (some ⟨g, 0, none⟩) Bs.length c) w) (q : Nat) (hq : q < Bs.length) (hT : ∀ k, T k → Bs[q].th.ownBlock = some k) (hr : Row2 0 Bs (.slice (some ⟨g, 0, none⟩) Bs.length c) u)
    (b : Bkm) (hb : Row4 31 0 b.xs b.th u) (h1 : 1 ≤ b.xs.length) (ho : ∃ k, b.th.ownBlock = some k ∧ (w.heap.size ≤ k ∨ Bs[q].th.ownBlock = some k)) :
    Mut R n Bs (.slice (some ⟨g, 0, none⟩) Bs.length c) w (Bs.take q ++ [b] ++ Bs.drop (q + 1)) ((u.setCell ⟨g, q * 2, none⟩ (.slice b.ao b.xs.length b.cap)).setCell ⟨g, q * 2 + 1, none⟩ (.int .i64 (maxE b.xs))) := by
  have hgR : g ≠ R := fun e => hs.vR (by rw [e]; rfl)
  have hglt : g < w.heap.size := (hs.row.lt g rfl).2
  obtain ⟨k, hk, hk2⟩ := ho
  have hbg : b.th.ownBlock ≠ some g := fun e => by
    rw [hk] at e
    have e2 := Option.some.inj e
    rcases hk2 with h9 | h9
    · omega
    · exact (hs.off _ (List.getElem_mem hq)).1 (by rw [h9, e2]; rfl)
  have hO : Only (ch R Bs (.slice (some ⟨g, 0, none⟩) Bs.length c) q (q + 1)) w u := h.o.mono (fun k9 h9 => .inr (.inr ⟨q, hq, Nat.le_refl _, by omega, hT k9 h9⟩))
  refine hs.rep (Nat.le_succ q) hq ((hO.set (p := ⟨g, q * 2, none⟩) (.inl (.inr (.inl rfl))) _).set (p := ⟨g, q * 2 + 1, none⟩) (.inl (.inr (.inl rfl))) _) ?_ ?_ ?_ ?_ (hr.put q hq b) (.inl rfl) (fun m hm => ?_) (List.pairwise_singleton _ _)
  · exact cell_set_other (.inl (Ne.symm hgR)) (cell_set_other (.inl (Ne.symm hgR)) h.c0)
  · exact cell_set_other (.inl (Ne.symm hgR)) (cell_set_other (.inl (Ne.symm hgR)) h.c1)
  · exact cell_set_other (.inl (Ne.symm hgR)) (cell_set_other (.inl (Ne.symm hgR)) h.c2)
  · rw [World.frozen?_setCell, World.frozen?_setCell]; exact h.z2
  · rw [List.mem_singleton.1 hm]
    refine ⟨hb.kept (fun k9 h9 => ?_), h1, hbg, k, hk, hk2.imp id (fun h9 => ⟨q, hq, Nat.le_refl _, by omega, h9⟩)⟩
    have hne : k9 ≠ g := fun e => hbg (by rw [← e]; exact h9)
    rw [heap_set_other _ _ _ _ _ hne, heap_set_other _ _ _ _ _ hne]
/-- The row of blocks is another one. -/
theorem Md.lay (h : Md R n v T w u) (hs : St R n Bs v w) {i j : Nat} {M : List Bkm} {v' : Value} (hij : i ≤ j) (hj : j ≤ Bs.length) (hT : ∀ k, T k → ch R Bs v i j k)
    (hr : Row2 0 (Bs.take i ++ M ++ Bs.drop j) v' u) (hv : v'.ownBlock = v.ownBlock ∨ ∃ g, v'.ownBlock = some g ∧ w.heap.size ≤ g)
    (hM : ∀ m, m ∈ M → Row4 31 0 m.xs m.th u ∧ 1 ≤ m.xs.length ∧ m.th.ownBlock ≠ v'.ownBlock ∧ ∃ g, m.th.ownBlock = some g ∧ (w.heap.size ≤ g ∨ ∃ (q : Nat) (hq : q < Bs.length), i ≤ q ∧ q < j ∧ Bs[q].th.ownBlock = some g))
    (hMp : M.Pairwise fun a b => a.th.ownBlock ≠ b.th.ownBlock) : Mut R n Bs v w (Bs.take i ++ M ++ Bs.drop j) (u.setCell ⟨R, 2, none⟩ v') := by
  have hvR : v'.ownBlock ≠ some R := fun e => by
    rcases hv with h9 | ⟨g, h9, h8⟩
    · exact hs.vR (h9.symm.trans e)
    · rw [h9] at e
      have e2 := Option.some.inj e
      have := hs.lt
      omega
  refine hs.rep hij hj ((h.o.mono hT).set (p := ⟨R, 2, none⟩) (.inl (.inl rfl)) _) (cell_set_other (.inr (by omega)) h.c0) (cell_set_other (.inr (by omega)) h.c1) (cell_set_same h.c2) (by rw [World.frozen?_setCell]; exact h.z2) (hr.kept (fun k9 h9 => heap_set_other _ _ _ _ _ (fun e => hvR (by rw [← e]; exact h9)))) hv (fun m hm => ?_) hMp
  obtain ⟨h1, h2, h3, g, h4, h5⟩ := hM m hm
  refine ⟨h1.kept (fun k9 h9 => heap_set_other _ _ _ _ _ (fun e => ?_)), h2, h3, g, h4, h5⟩
  rw [h4] at h9
  have e2 := Option.some.inj h9
  rcases h5 with h5 | ⟨q, hq, _, _, h5⟩
  · have := hs.lt; omega
  · exact (hs.off _ (List.getElem_mem hq)).2 (by rw [h5, e2, e])
end
theorem below_two (w : World) (a b : Obj) : Below w.heap.size w ((w.alloc a).alloc b) := (below_alloc w a).trans ((below_alloc (w.alloc a) b).mono (below_alloc w a).size)
set_option maxHeartbeats 8000000 in
set_option maxRecDepth 100000 in
theorem change_any {R : Nat} {n : Int} {Bs : List Bkm} {v : Value} {w : World} (h : St R n Bs v w) (q i : Nat) (hq : q < Bs.length) (hi : i < (Bs[q]).xs.length) (hl : (its Bs).length ≤ 999) (t : It) :
    Calls Try.prog 40 #[.pointer (some ⟨R, 1, none⟩), .agg #[.int .i64 q, .int .i64 i], .agg #[.string (S t.k), .int .i64 t.s, .int .i64 t.e, .int .i64 t.id]] w fun e w' => e = .returned (.tuple #[]) ∧ Mut R n Bs v w (Bs.take q ++ [⟨(Bs[q]).ao, (Bs[q]).cap, (Bs[q]).xs.set i t⟩] ++ Bs.drop (q + 1)) w' := by
  obtain ⟨g, c, ga, hv, ha, hgga, hgR, hgaR, hmc, _, hg, hga, k0, k1, zg, zga, hth⟩ := h.at q hq
  subst hv
  have HST := hide h
  have HROW := hide h.row
  have HLX := hide (show ((Bs[q]).xs.set i t).length ≤ 1000 from by rw [List.length_set]; have := mem_len (List.getElem_mem hq); omega)
  have HOWN := hide (show (Bs[q]).th.ownBlock = some ga from by unfold Bkm.th; rw [ha]; rfl)
  have HAO := hide ha
  obtain ⟨_, j0, j1, j2, j3⟩ := hth.items.got i hi
  simp only [Nat.zero_add] at j0 j1 j2 j3
  obtain ⟨xs, hxs⟩ : ∃ xs, xs = (Bs[q]).xs := ⟨_, rfl⟩
  obtain ⟨z, hz⟩ : ∃ z, z = (Bs[q]).xs.length := ⟨_, rfl⟩
  obtain ⟨cap, hcap⟩ : ∃ cap, cap = (Bs[q]).cap := ⟨_, rfl⟩
  obtain ⟨m, hm⟩ : ∃ m, m = Bs.length := ⟨_, rfl⟩
  rw [← hz] at hth
  rw [← hz] at k0
  rw [← hcap] at k0 hth
  have c2 := h.c2
  rw [← hm] at c2
  have g1 : (q : Int) < (m : Int) := by omega
  have g2 : (i : Int) < (z : Int) := by omega
  have HZ := hide hz
  have HCAP := hide hcap
  have HM := hide hm
  have HTH := hide hth
  have HBW := hide ((below_two w (.cells #[.int .i64 q, .int .i64 i] 74) (.cells #[.string (S t.k), .int .i64 t.s, .int .i64 t.e, .int .i64 t.id] 31)).drew)
  have hp := (B2.new w (.int .i64 q) (.int .i64 i) 74 rfl).later ((below_alloc (w.alloc (.cells #[.int .i64 q, .int .i64 i] 74)) (.cells #[.string (S t.k), .int .i64 t.s, .int .i64 t.e, .int .i64 t.id] 31)).trans (Below.refl _ _).drew)
  have hb9 : Bx t (w.heap.size + 1) (((w.alloc (.cells #[.int .i64 q, .int .i64 i] 74)).alloc (.cells #[.string (S t.k), .int .i64 t.s, .int .i64 t.e, .int .i64 t.id] 31))) := by
    have h9 := Bx.new (w.alloc (.cells #[.int .i64 q, .int .i64 i] 74)) t 31
    rw [show (w.alloc (.cells #[.int .i64 q, .int .i64 i] 74)).heap.size = w.heap.size + 1 from by simp] at h9
    exact h9
  have HT := hide (hb9.later (Below.refl _ _).drew hb9.lt)
  have HP := hide hp
  have HS := hide (show ((w.alloc (.cells #[.int .i64 q, .int .i64 i] 74)).alloc (.cells #[.string (S t.k), .int .i64 t.s, .int .i64 t.e, .int .i64 t.id] 31)).drew.cell? ⟨R, 2, none⟩ = some (.slice (some ⟨g, 0, none⟩) m c) ∧ ((w.alloc (.cells #[.int .i64 q, .int .i64 i] 74)).alloc (.cells #[.string (S t.k), .int .i64 t.s, .int .i64 t.e, .int .i64 t.id] 31)).drew.cell? ⟨g, q * 2, none⟩ = some (.slice (some ⟨ga, 0, none⟩) z cap) ∧ ((w.alloc (.cells #[.int .i64 q, .int .i64 i] 74)).alloc (.cells #[.string (S t.k), .int .i64 t.s, .int .i64 t.e, .int .i64 t.id] 31)).drew.cell? ⟨w.heap.size, 0, none⟩ = some (.int .i64 q) ∧ ((w.alloc (.cells #[.int .i64 q, .int .i64 i] 74)).alloc (.cells #[.string (S t.k), .int .i64 t.s, .int .i64 t.e, .int .i64 t.id] 31)).drew.cell? ⟨w.heap.size, 1, none⟩ = some (.int .i64 i) from ⟨cell_later HBW.out c2, cell_later HBW.out k0, hp.c0, hp.c1⟩)
  have y0 := cell_later HBW.out j0
  have y1 := cell_later HBW.out j1
  have y2 := cell_later HBW.out j2
  have y3 := cell_later HBW.out j3
  have zz : ∀ j, (((w.alloc (.cells #[.int .i64 q, .int .i64 i] 74)).alloc (.cells #[.string (S t.k), .int .i64 t.s, .int .i64 t.e, .int .i64 t.id] 31)).drew).frozen? ⟨ga, j, none⟩ = false := fun j => by rw [HBW.out.frozen (p := ⟨ga, j, none⟩) hga]; exact zga j
  have HI := hide hi
  have HQ := hide hq
  have HZG := hide zg
  have HNE := hide (show g ≠ ga ∧ g ≠ R ∧ ga ≠ R ∧ g < w.heap.size ∧ ga < w.heap.size from ⟨hgga, hgR, hgaR, hg, hga⟩)
  clear hb9 hp hz hcap hm c2 k0 k1 j0 j1 j2 j3 hth hmc ha h hg hga zg zga hgga hgR hgaR hxs
  go_enter Try.func40, Try.ntmps40
  go_wp2_with fail
  refine wp_region_held_drew (S := fun u => u.cell? ⟨R, 2, none⟩ = some (.slice (some ⟨g, 0, none⟩) m c) ∧ u.cell? ⟨g, q * 2, none⟩ = some (.slice (some ⟨ga, 0, none⟩) z cap) ∧ u.cell? ⟨w.heap.size, 0, none⟩ = some (.int .i64 q) ∧ u.cell? ⟨w.heap.size, 1, none⟩ = some (.int .i64 i)) (by kernel_rfl) HS.out (fun hHeld => ?_)
  obtain ⟨wd, hwd⟩ : ∃ wd, wd = ((w.alloc (.cells #[.int .i64 q, .int .i64 i] 74)).alloc (.cells #[.string (S t.k), .int .i64 t.s, .int .i64 t.e, .int .i64 t.id] 31)).drew := ⟨_, rfl⟩
  rw [← hwd] at HS HBW HP HT hHeld y0 y1 y2 y3 zz ⊢
  clear hwd
  refine Man.t1 0 hHeld ?_
  (try simp only [Act.put, Mqa, Mqb, Mqc])
  refine Man.t1 1 hHeld ?_
  (try simp only [Act.put, Mqa, Mqb, Mqc])
  refine Man.t1 2 hHeld ?_
  (try simp only [Act.put, Mqa, Mqb, Mqc])
  refine Man.t1 3 hHeld ?_
  (try simp only [Act.put, Mqa, Mqb, Mqc])
  refine Man.t1 4 hHeld ?_
  (try simp only [Act.put, Mqa, Mqb, Mqc])
  refine Man.t1 5 hHeld ?_
  (try simp only [Act.put, Mqa, Mqb, Mqc])
  refine Man.t1 6 hHeld ?_
  (try simp only [Act.put, Mqa, Mqb, Mqc])
  refine Man.t1 7 hHeld ?_
  (try simp only [Act.put, Mqa, Mqb, Mqc])
  refine Man.t1 8 hHeld ?_
  (try simp only [Act.put, Mqa, Mqb, Mqc])
  refine Man.t1 9 hHeld ?_
  (try simp only [Act.put, Mqa, Mqb, Mqc])
  refine wpAnyH_done (by kernel_rfl) ?_ _
  have p0 := HP.out.c0
  have p1 := HP.out.c1
  obtain ⟨t0, t1, t2, t3, _⟩ := HT.out
  clear hHeld
  obtain ⟨u2, hu2⟩ : ∃ u2, u2 = ((((wd.setCell ⟨ga, i * 4, none⟩ (.string (S t.k))).setCell ⟨ga, i * 4 + 1, none⟩ (.int .i64 t.s)).setCell ⟨ga, i * 4 + 2, none⟩ (.int .i64 t.e)).setCell ⟨ga, i * 4 + 3, none⟩ (.int .i64 t.id)) := ⟨_, rfl⟩
  have HU2 := hide hu2
  have hmd : Md R n (.slice (some ⟨g, 0, none⟩) Bs.length c) (fun k => k = ga) w u2 := by
    rw [hu2]
    exact (((((Md.of HST.out (fun k => k = ga)).later HBW.out).set (p := ⟨ga, i * 4, none⟩) rfl HNE.out.2.2.1 _).set (p := ⟨ga, i * 4 + 1, none⟩) rfl HNE.out.2.2.1 _).set (p := ⟨ga, i * 4 + 2, none⟩) rfl HNE.out.2.2.1 _).set (p := ⟨ga, i * 4 + 3, none⟩) rfl HNE.out.2.2.1 _
  have HR4 := hide (show Row4 31 0 ((Bs[q]'HQ.out).xs.set i t) (.slice (some ⟨ga, 0, none⟩) z cap) u2 from by rw [hu2]; exact (HTH.out.later HBW.out (Nat.le_refl _)).put i HI.out t)
  have HMD := hide (hmd.later (Below.refl _ _).drew)
  have HR4D := hide (HR4.out.later (Below.refl u2.heap.size _).drew (Nat.le_refl _))
  have HPB := hide (show u2.drew.cell? ⟨w.heap.size, 0, none⟩ = some (.int .i64 q) from by
    show u2.cell? _ = _
    rw [hu2]
    exact cell_set_other (.inl (by have := HNE.out; omega)) (cell_set_other (.inl (by have := HNE.out; omega)) (cell_set_other (.inl (by have := HNE.out; omega)) (cell_set_other (.inl (by have := HNE.out; omega)) p0))))
  clear hmd hu2
  go_wp2_with fail
  rw [← HU2.out]
  have HLEN := hide (show ((Bs[q]'HQ.out).xs.set i t).length = z from by rw [List.length_set, HZ.out])
  obtain ⟨l', hl'⟩ : ∃ l', l' = (Bs[q]'HQ.out).xs.set i t := ⟨_, rfl⟩
  rw [← hl'] at HR4 HR4D HLX HLEN
  have HL' := hide hl'
  have hit := HR4D.out.items
  have CB := hide (block_any hit HLX.out)
  have HMC := hide (show u2.drew.cell? ⟨R, 2, none⟩ = some (.slice (some ⟨g, 0, none⟩) m c) from by rw [HM.out]; exact HMD.out.c2)
  have HGG := hide (show Row2 0 Bs (.slice (some ⟨g, 0, none⟩) Bs.length c) u2.drew from (HROW.out.kept (fun k9 h9 => by
    have e9 : g = k9 := Option.some.inj h9
    subst e9
    exact HMD.out.o.block g HNE.out.2.2.2.1 (by have := HNE.out; omega))))
  clear hl' hit p0 p1 t0 t1 t2 t3 y0 y1 y2 y3 zz HU2 HP HT HS HBW
  refine Mp.region (S := fun u => u.cell? ⟨R, 2, none⟩ = some (.slice (some ⟨g, 0, none⟩) m c) ∧ u.cell? ⟨w.heap.size, 0, none⟩ = some (.int .i64 q)) 9 (by kernel_rfl) ⟨HMC.out, HPB.out⟩ (fun hHeld => ?_)
  obtain ⟨wd2, hwd2⟩ : ∃ wd2, wd2 = u2.drew := ⟨_, rfl⟩
  rw [← hwd2] at HMD HR4D HPB CB HMC HGG hHeld ⊢
  clear hwd2
  refine Mp.t1 0 hHeld ?_
  (try simp only [Act.put, Mqa, Mqb, Mqc])
  refine Mp.t1 1 hHeld ?_
  (try simp only [Act.put, Mqa, Mqb, Mqc])
  refine Mp.t1 2 hHeld ?_
  (try simp only [Act.put, Mqa, Mqb, Mqc])
  refine Mp.t1 3 hHeld ?_
  (try simp only [Act.put, Mqa, Mqb, Mqc])
  refine Mp.t1 4 hHeld ?_
  (try simp only [Act.put, Mqa, Mqb, Mqc])
  refine Mp.t1 5 hHeld ?_
  (try simp only [Act.put, Mqa, Mqb, Mqc])
  refine Mp.t1 6 hHeld ?_
  (try simp only [Act.put, Mqa, Mqb, Mqc])
  refine Mp.one (i := 7) rfl (by kernel_rfl) (fun K9 hK => ?_)
  go_simp
  with_reducible refine CB.out.mono ?_
  rintro e w5 ⟨rfl, hb⟩
  have HMD5 := hide (HMD.out.later hb)
  have HR5 := hide (HR4D.out.later hb (Nat.le_refl _))
  have HG5 := hide (HGG.out.later hb (Nat.le_refl _))
  have HP5 := hide (cell_later hb HPB.out)
  have HM5 := hide (cell_later hb HMC.out)
  clear hb
  refine hK.out _ _ ⟨HM5.out, HP5.out⟩ (fun hNew => ?_)
  clear hK K9 hHeld
  have hHeld := hNew
  clear hNew
  obtain ⟨b9, off9, c9, he9, _, r0, r1⟩ := HG5.out.blocks.at q HQ.out
  simp only [Value.slice.injEq, Option.some.injEq, Addr.mk.injEq, and_true, true_and] at he9
  obtain ⟨⟨rfl, rfl⟩, rfl⟩ := he9
  simp only [Nat.zero_add] at r0 r1
  have zr : ∀ j, w5.frozen? ⟨g, j, none⟩ = false := fun j => HG5.out.frozenAt j
  (try simp only [Act.put, Mqa, Mqb, Mqc])
  refine Mp.t1 8 hHeld ?_
  (try simp only [Act.put, Mqa, Mqb, Mqc])
  refine Mp.last rfl (by kernel_rfl) (fun K9 hK => ?_)
  go_simp
  refine hK.out _ _ ?_
  clear hK K9 hHeld
  (try simp only [Act.put, Mqa, Mqb, Mqc])
  refine Mp.done (by kernel_rfl) ?_ _
  go_wp2_with fail
  refine bodyPost_end (results_none rfl _ _ _) rfl ?_
  refine ⟨rfl, ?_⟩
  have hfin := HMD5.out.put HST.out q HQ.out (fun k9 h9 => by rw [h9]; exact HOWN.out) HG5.out ⟨some ⟨ga, 0, none⟩, cap, l'⟩ (by show Row4 31 0 l' (.slice (some ⟨ga, 0, none⟩) l'.length cap) w5; rw [HLEN.out]; exact HR5.out) (by show 1 ≤ l'.length; rw [HLEN.out]; omega) ⟨ga, rfl, .inr HOWN.out⟩
  rw [← HL'.out, HAO.out, ← HCAP.out]
  have e9 : (⟨some ⟨ga, 0, none⟩, cap, l'⟩ : Bkm).xs.length = z := HLEN.out
  rw [e9] at hfin
  exact hfin
end Idx
end Go.Proofs.Ytapdhelioecneaa
