/- insert, where there is no block. No condition. -/
import Derived.Test.YtapdhelioecneaaWi
import Derived.Test.YtapdhelioecneaaW9
namespace Go.Proofs.Ytapdhelioecneaa
open Go.RowKit
namespace Idx
theorem oper_row2 {base : Nat} {l m : List Bkm} {v : Value} {vb vc : Nat} {w : World} {o : Oper} {a : Act} {K : Act → World → Prop} {Qx : Exit → Act → World → Prop} (s y : Operand)
    (ho : o.op = .call { callee := .builtin .append, args := #[s, y], argTypes := #[65, 65] }) (hs : a.eval s = v) (hx : a.eval y = .slice (some ⟨vb, 0, none⟩) m.length vc)
    (h : Row2 base l v w) (hm : ∀ j u, (f2 m)[j]? = some u → w.cell? ⟨vb, j, none⟩ = some u) (hn : l.length + m.length ≤ 100000) (hb : base ≤ w.heap.size)
    (hK : ∀ u w', Row2 base (l ++ m) u w' → w.grownBy w' v.ownBlock → (u.ownBlock = v.ownBlock ∨ u.ownBlock = some w.heap.size) → K (a.put o.dst u) w') : Oper.wp Try.prog o a w K Qx := by
  obtain ⟨u, w', hr, hp, hg, hob⟩ := row2_append (ty := o.type) (vc := vc) h hm hn hb
  unfold Oper.wp execOp
  simp only [ho, resolve, invoke, builtin, Sem.run_bind, Sem.run_pure, Result.andThen_ok, List.map_toArray, List.map_cons, List.map_nil, hs, hx, hr]
  exact hK u w' hp hg hob
/-- One item, newly laid, is a row. -/
theorem row4_lit (w : World) (x : It) : Row4 31 w.heap.size [x] (.slice (some ⟨w.heap.size, 0, none⟩) 1 1) (w.alloc (.cells #[.string (S x.k), .int .i64 x.s, .int .i64 x.e, .int .i64 x.id] 31)) := by
  refine row_of_cells (heap_alloc_new w _) rfl (Nat.le_refl _) (by unfold maxLen; omega) (Nat.le_refl _) rfl (fun j hj => ?_)
  rw [cell_of_row _ _ _ _ _ (0, 0) (heap_alloc_new w _)]
  have : j < 4 := hj
  match j, this with
  | 0, _ => rfl
  | 1, _ => rfl
  | 2, _ => rfl
  | 3, _ => rfl
/-- insert's boxes. -/
structure Ib (q i : Nat) (t : It) (w u : World) : Prop where
  p : B2 (.int .i64 q) (.int .i64 i) w.heap.size u
  t : Bx t (w.heap.size + 1) u
theorem Ib.later {q i : Nat} {t : It} {w u u' : World} (h : Ib q i t w u) (hb : Below u.heap.size u u') : Ib q i t w u' := ⟨h.p.later hb, h.t.later hb h.t.lt⟩
theorem Ib.kept {q i : Nat} {t : It} {w u u' : World} (h : Ib q i t w u) (hs : u.heap.size ≤ u'.heap.size) (h0 : u'.heap[w.heap.size]? = u.heap[w.heap.size]?) (h1 : u'.heap[w.heap.size + 1]? = u.heap[w.heap.size + 1]?) : Ib q i t w u' := ⟨h.p.kept hs h0, h.t.kept hs h1⟩
theorem Ib.grown {q i ga : Nat} {t : It} {w u u' : World} (h : Ib q i t w u) (hg : u.grownBy u' (some ga)) (hlt : ga < w.heap.size) : Ib q i t w u' := h.kept hg.size (hg.block _ h.p.lt (fun e => by have := Option.some.inj e; omega)) (hg.block _ h.t.lt (fun e => by have := Option.some.inj e; omega))
theorem Ib.new (q i : Nat) (t : It) (w : World) : Ib q i t w ((w.alloc (.cells #[.int .i64 q, .int .i64 i] 74)).alloc (.cells #[.string (S t.k), .int .i64 t.s, .int .i64 t.e, .int .i64 t.id] 31)) := by
  have h9 := Bx.new (w.alloc (.cells #[.int .i64 q, .int .i64 i] 74)) t 31
  rw [show (w.alloc (.cells #[.int .i64 q, .int .i64 i] 74)).heap.size = w.heap.size + 1 from by simp] at h9
  exact ⟨(B2.new w (.int .i64 q) (.int .i64 i) 74 rfl).later (below_alloc _ _), h9⟩
set_option maxHeartbeats 8000000 in
set_option maxRecDepth 100000 in
theorem insert_nil {R : Nat} {n : Int} {v : Value} {w : World} (h : St R n [] v w) (q i : Nat) (t : It) :
    Calls Try.prog 35 #[.pointer (some ⟨R, 1, none⟩), .agg #[.int .i64 q, .int .i64 i], .agg #[.string (S t.k), .int .i64 t.s, .int .i64 t.e, .int .i64 t.id]] w fun e w' => e = .returned (.tuple #[]) ∧ ∃ b : Bkm, b.xs = [t] ∧ Mut R n [] v w [b] w' := by
  obtain ⟨ao, cap, hv, _, _⟩ := h.row.form
  subst hv
  have h : St R n [] (.slice ao 0 cap) w := h
  have HST := hide h
  have hbw := below_two w (.cells #[.int .i64 q, .int .i64 i] 74) (.cells #[.string (S t.k), .int .i64 t.s, .int .i64 t.e, .int .i64 t.id] 31)
  have hmd := (Md.of h (fun k => (Value.slice ao 0 cap).ownBlock = some k)).later hbw
  have HI := hide ((Ib.new q i t w).later (Below.refl _ _).drew)
  have c2 := hmd.c2
  have HMD := hide (hmd.later (Below.refl _ _).drew)
  have HROW := hide (h.row.later (hbw.drew) (Nat.le_refl _))
  have HLE := hide (show w.heap.size ≤ (((w.alloc (.cells #[.int .i64 q, .int .i64 i] 74)).alloc (.cells #[.string (S t.k), .int .i64 t.s, .int .i64 t.e, .int .i64 t.id] 31))).drew.heap.size from hbw.size)
  have HS := hide (show ((w.alloc (.cells #[.int .i64 q, .int .i64 i] 74)).alloc (.cells #[.string (S t.k), .int .i64 t.s, .int .i64 t.e, .int .i64 t.id] 31)).drew.cell? ⟨R, 2, none⟩ = some (.slice ao 0 cap) ∧ ((w.alloc (.cells #[.int .i64 q, .int .i64 i] 74)).alloc (.cells #[.string (S t.k), .int .i64 t.s, .int .i64 t.e, .int .i64 t.id] 31)).drew.cell? ⟨(w.heap.size + 1), 0, none⟩ = some (.string (S t.k)) ∧ ((w.alloc (.cells #[.int .i64 q, .int .i64 i] 74)).alloc (.cells #[.string (S t.k), .int .i64 t.s, .int .i64 t.e, .int .i64 t.id] 31)).drew.cell? ⟨(w.heap.size + 1), 1, none⟩ = some (.int .i64 t.s) ∧ ((w.alloc (.cells #[.int .i64 q, .int .i64 i] 74)).alloc (.cells #[.string (S t.k), .int .i64 t.s, .int .i64 t.e, .int .i64 t.id] 31)).drew.cell? ⟨(w.heap.size + 1), 2, none⟩ = some (.int .i64 t.e) ∧ ((w.alloc (.cells #[.int .i64 q, .int .i64 i] 74)).alloc (.cells #[.string (S t.k), .int .i64 t.s, .int .i64 t.e, .int .i64 t.id] 31)).drew.cell? ⟨(w.heap.size + 1), 3, none⟩ = some (.int .i64 t.id) from ⟨HMD.out.c2, HI.out.t.c0, HI.out.t.c1, HI.out.t.c2, HI.out.t.c3⟩)
  have c2 : _ = some (Value.slice ao 0 cap) := c2
  clear hmd hbw h
  go_enter Try.func35, Try.ntmps35
  go_wp2_with fail
  refine Mp.region (S := fun u => u.cell? ⟨R, 2, none⟩ = some (.slice ao 0 cap) ∧ u.cell? ⟨(w.heap.size + 1), 0, none⟩ = some (.string (S t.k)) ∧ u.cell? ⟨(w.heap.size + 1), 1, none⟩ = some (.int .i64 t.s) ∧ u.cell? ⟨(w.heap.size + 1), 2, none⟩ = some (.int .i64 t.e) ∧ u.cell? ⟨(w.heap.size + 1), 3, none⟩ = some (.int .i64 t.id)) 12 (by kernel_rfl) HS.out (fun hHeld => ?_)
  obtain ⟨wd, hwd⟩ : ∃ wd, wd = ((w.alloc (.cells #[.int .i64 q, .int .i64 i] 74)).alloc (.cells #[.string (S t.k), .int .i64 t.s, .int .i64 t.e, .int .i64 t.id] 31)).drew := ⟨_, rfl⟩
  rw [← hwd] at HS HI HMD HROW HLE hHeld ⊢
  clear hwd c2
  refine Mp.t1 0 hHeld ?_
  (try simp only [Act.put, Mqa, Mqb, Mqc])
  refine Mp.t1 1 hHeld ?_
  (try simp only [Act.put, Mqa, Mqb, Mqc])
  refine Mp.t1 2 hHeld ?_
  (try simp only [Act.put, Mqa, Mqb, Mqc])
  refine Mp.t1 3 hHeld ?_
  (try simp only [Act.put, Mqa, Mqb, Mqc])
  refine Mp.t1 4 hHeld ?_
  (try simp only [Act.put, Mqa, Mqb, Mqc])
  refine Mp.t1 5 hHeld ?_
  (try simp only [Act.put, Mqa, Mqb, Mqc])
  refine Mp.one (i := 6) rfl (by kernel_rfl) (fun K9 hK => ?_)
  go_simp
  have HA := hide (below_alloc wd (.cells #[.string (S t.k), .int .i64 t.s, .int .i64 t.e, .int .i64 t.id] 31))
  have HR1 := hide (row4_lit wd t)
  have HMD1 := hide (HMD.out.later HA.out)
  have HI1 := hide (HI.out.later HA.out)
  have HB1 := hide HA.out
  refine hK.out _ _ ⟨HMD1.out.c2, HI1.out.t.c0, HI1.out.t.c1, HI1.out.t.c2, HI1.out.t.c3⟩ (fun hNew => ?_)
  clear hK K9 hHeld
  have hHeld := hNew
  clear hNew
  (try simp only [Act.put, Mqa, Mqb, Mqc])
  refine Mp.one (i := 7) rfl (by kernel_rfl) (fun K9 hK => ?_)
  go_simp
  with_reducible refine (block_any HR1.out.items (by simp)).mono ?_
  rintro e w2 ⟨rfl, hb⟩
  have HB2 := hide (HB1.out.trans (hb.mono HB1.out.size))
  have HR2 := hide (HR1.out.later hb (Nat.le_refl _))
  have HMD2 := hide (HMD1.out.later hb)
  have HI2 := hide (HI1.out.later hb)
  clear hb
  refine hK.out _ _ ⟨HMD2.out.c2, HI2.out.t.c0, HI2.out.t.c1, HI2.out.t.c2, HI2.out.t.c3⟩ (fun hNew => ?_)
  clear hK K9 hHeld
  have hHeld := hNew
  clear hNew
  (try simp only [Act.put, Mqa, Mqb, Mqc])
  refine Mp.one (i := 8) rfl (by kernel_rfl) (fun K9 hK => ?_)
  go_simp
  have HA3 := hide (below_alloc w2 (.cells #[.slice (some ⟨wd.heap.size, 0, none⟩) 1 1, .int .i64 (maxE [t])] 91))
  have HC3 := hide (show ∀ j u, (f2 [(⟨some ⟨wd.heap.size, 0, none⟩, 1, [t]⟩ : Bkm)])[j]? = some u → (w2.alloc (.cells #[.slice (some ⟨wd.heap.size, 0, none⟩) 1 1, .int .i64 (maxE [t])] 91)).cell? ⟨w2.heap.size, j, none⟩ = some u from fun j u hj => by rw [cell_of_row _ _ _ _ _ (0, 0) (heap_alloc_new w2 _)]; match j, hj with | 0, hj => exact hj | 1, hj => exact hj | j + 2, hj => simp [f2, Bkm.cells] at hj)
  have HB3 := hide (HB2.out.trans (HA3.out.mono HB2.out.size))
  have HR3 := hide (HR2.out.later HA3.out (Nat.le_refl _))
  have HMD3 := hide (HMD2.out.later HA3.out)
  have HI3 := hide (HI2.out.later HA3.out)
  have HROW3 := hide (HROW.out.later HB3.out (Nat.le_refl _))
  refine hK.out _ _ ⟨HMD3.out.c2, HI3.out.t.c0, HI3.out.t.c1, HI3.out.t.c2, HI3.out.t.c3⟩ (fun hNew => ?_)
  clear hK K9 hHeld
  have hHeld := hNew
  clear hNew
  (try simp only [Act.put, Mqa, Mqb, Mqc])
  refine Mp.one (i := 9) rfl (by kernel_rfl) (fun K9 hK => ?_)
  refine oper_ite (by rfl) ?_
  refine oper_row2 (l := []) (m := [(⟨some ⟨wd.heap.size, 0, none⟩, 1, [t]⟩ : Bkm)]) (vb := w2.heap.size) (vc := 1) _ _ rfl rfl rfl HROW3.out HC3.out (by simp) (Nat.zero_le _) (fun u9 w4 hu hg hob => ?_)
  obtain ⟨uo, uc, rfl, _, _⟩ := hu.form
  have HU := hide hu
  have HG := hide hg
  have HOB := hide hob
  have HMD4 := hide (HMD3.out.grown hg (fun k hk => ⟨.inl (by first | exact hk.symm | exact hk), fun e => HST.out.vR (by first | exact (hk.trans (congrArg some e)) | exact (hk.symm ▸ congrArg some e))⟩))
  have HI4 := hide (HI3.out.kept hg.size (hg.block _ HI3.out.p.lt (fun e => by have := (HST.out.row.lt _ e.symm).2; omega)) (hg.block _ HI3.out.t.lt (fun e => by have := (HST.out.row.lt _ e.symm).2; omega)))
  clear hu hg hob
  refine hK.out _ _ ⟨HMD4.out.c2, HI4.out.t.c0, HI4.out.t.c1, HI4.out.t.c2, HI4.out.t.c3⟩ (fun hNew => ?_)
  clear hK K9 hHeld
  have hHeld := hNew
  clear hNew
  have c2 := HMD4.out.c2
  have z2 := HMD4.out.z2
  (try simp only [Act.put, Mqa, Mqb, Mqc])
  refine Mp.t1 10 hHeld ?_
  (try simp only [Act.put, Mqa, Mqb, Mqc])
  refine Mp.t1 11 hHeld ?_
  (try simp only [Act.put, Mqa, Mqb, Mqc])
  refine Mp.last rfl (by kernel_rfl) (fun K9 hK => ?_)
  go_simp
  refine hK.out _ _ ?_
  clear hK K9 hHeld
  (try simp only [Act.put, Mqa, Mqb, Mqc])
  refine Mp.done (by kernel_rfl) ?_ _
  go_wp2_with fail
  refine bodyPost_ret (results_none rfl _ _ _) rfl ?_
  refine ⟨rfl, ⟨some ⟨wd.heap.size, 0, none⟩, 1, [t]⟩, rfl, ?_⟩
  have hvb : ∀ g, (Value.slice ao 0 cap).ownBlock = some g → g < w.heap.size := fun g hg => (HST.out.row.lt g hg).2
  have hlt2 : wd.heap.size < w2.heap.size := (HR2.out.lt _ rfl).2
  have hszA : w2.heap.size < (w2.alloc (.cells #[.slice (some ⟨wd.heap.size, 0, none⟩) 1 1, .int .i64 (maxE [t])] 91)).heap.size := by simp
  have hlay := HMD4.out.lay HST.out (i := 0) (j := 0) (M := [(⟨some ⟨wd.heap.size, 0, none⟩, 1, [t]⟩ : Bkm)]) (Nat.le_refl _) (Nat.le_refl _) (fun k hk => .inr (.inl hk)) HU.out (HOB.out.imp id (fun e => ⟨_, e, Nat.le_trans HLE.out (Nat.le_trans HB3.out.size (by simp))⟩)) (fun m hm => ?_) (List.pairwise_singleton _ _)
  · exact hlay
  · rw [List.mem_singleton.1 hm]
    refine ⟨(HR3.out.kept (fun g hg => HG.out.block g (HR3.out.lt g hg).2 (fun e => ?_))).mono (Nat.zero_le _), Nat.le_refl _, fun e => ?_, wd.heap.size, rfl, .inl HLE.out⟩
    · have e1 := Option.some.inj hg
      have e2 := hvb g e.symm
      have := HLE.out
      have e3 : wd.heap.size = g := e1
      omega
    · have e0 : (⟨some ⟨wd.heap.size, 0, none⟩, 1, [t]⟩ : Bkm).th.ownBlock = some wd.heap.size := rfl
      rw [e0] at e
      rcases HOB.out with e9 | e9
      · have := hvb _ (e9.symm.trans e.symm)
        have := HLE.out
        omega
      · have e8 := Option.some.inj (e.trans e9)
        omega
end Idx
end Go.Proofs.Ytapdhelioecneaa
