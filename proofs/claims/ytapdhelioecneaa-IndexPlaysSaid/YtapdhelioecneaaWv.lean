/- Insert. Condition: less than a thousand items. -/
import Derived.Test.YtapdhelioecneaaWu
import Derived.Test.YtapdhelioecneaaWn
namespace Go.Proofs.Ytapdhelioecneaa
open Go.RowKit
attribute [local go_sem] Oper.semAt_some
namespace Idx
/-- The program's insert, whatever blocks there are. -/
theorem insert_all {R wn : Nat} {Bs : List Bkm} {v : Value} {w : World} (h : St R wn Bs v w) (hs : Siz wn Bs) (hl : (its Bs).length ≤ 998) (t : It) (q i : Nat) (hp : Bs ≠ [] → PlI Bs t.k t.s q i) :
    Calls Try.prog 35 #[.pointer (some ⟨R, 1, none⟩), .agg #[.int .i64 q, .int .i64 i], .agg #[.string (S t.k), .int .i64 t.s, .int .i64 t.e, .int .i64 t.id]] w fun e w' => e = .returned (.tuple #[]) ∧ ∃ Bs', Mut R wn Bs v w Bs' w' ∧ Siz wn Bs' ∧ its Bs' = ins (its Bs) t := by
  have hw := h.wd
  by_cases hne : Bs = []
  · subst hne
    refine (insert_nil h q i t).mono (fun e w' h9 => ?_)
    obtain ⟨h1, b, hb, hm⟩ := h9
    refine ⟨h1, [b], hm, ⟨fun x hx => ?_, fun j hj => by simp at hj⟩, ?_⟩
    · rw [List.mem_singleton] at hx
      subst hx
      rw [hb]
      simp only [List.length_singleton]
      omega
    · rw [its_one, hb]; rfl
  · have hp := hp hne
    have hq := hp.hq
    have hi := hp.hi
    refine (insert_in h q i hq hi hl t).mono (fun e w' h9 => ?_)
    obtain ⟨h1, M, hm, h2⟩ := h9
    have hlen : (Bs[q].xs.take i ++ t :: Bs[q].xs.drop i).length = Bs[q].xs.length + 1 := by simp only [List.length_append, List.length_cons, List.length_take, List.length_drop]; omega
    have hin : its M = Bs[q].xs.take i ++ t :: Bs[q].xs.drop i → its (Bs.take q ++ M ++ Bs.drop (q + 1)) = ins (its Bs) t := fun h9 => by
      rw [its_ins hq hi M t h9]
      unfold ins
      rw [hp.hp]
    refine ⟨h1, _, hm, ?_, ?_⟩
    · rcases h2 with ⟨h3, b, rfl, hb⟩ | ⟨h3, a, b, rfl, ha, hb⟩
      · refine siz_more hs q hq b ?_ ?_ <;> rw [hb, hlen] <;> omega
      · have h4 := (hs.one _ (List.getElem_mem hq)).2
        refine siz_two hs q hq a b (by omega) ?_ ?_ ?_
        · rw [ha, List.length_take, hlen]; omega
        · rw [hb, List.length_drop, hlen]; omega
        · rw [hb, List.length_drop, hlen]; omega
    · refine hin ?_
      rcases h2 with ⟨h3, b, rfl, hb⟩ | ⟨h3, a, b, rfl, ha, hb⟩
      · rw [its_one, hb]
      · rw [its_cons, its_one, ha, hb, List.take_append_drop]
/-- Boxes beside the index: of an item, of a place. -/
structure Zx (R : Nat) (n : Int) (Bs : List Bkm) (v : Value) (t : It) (ib : Nat) (w u : World) : Prop where
  s : St R n Bs v u
  t : Bx t ib u
  l : Below w.heap.size w u
theorem Zx.later {R : Nat} {n : Int} {Bs : List Bkm} {v : Value} {t : It} {ib : Nat} {w u u' : World} (h : Zx R n Bs v t ib w u) (hb : Below u.heap.size u u') : Zx R n Bs v t ib w u' := ⟨h.s.later hb (Nat.le_refl _), h.t.later hb h.t.lt, h.l.trans (hb.mono h.l.size)⟩
theorem Zx.ob {R : Nat} {n : Int} {Bs : List Bkm} {v : Value} {t : It} {ib : Nat} {w u : World} (h : Zx R n Bs v t ib w u) : u.cell? ⟨ib, 0, none⟩ = some (.string (S t.k)) ∧ u.cell? ⟨ib, 1, none⟩ = some (.int .i64 t.s) ∧ u.cell? ⟨ib, 2, none⟩ = some (.int .i64 t.e) ∧ u.cell? ⟨ib, 3, none⟩ = some (.int .i64 t.id) := ⟨h.t.c0, h.t.c1, h.t.c2, h.t.c3⟩
/-- One cell of another box is written. -/
theorem Zx.set {R : Nat} {n : Int} {Bs : List Bkm} {v : Value} {t : It} {ib : Nat} {w u : World} (h : Zx R n Bs v t ib w u) {p : Addr} (hp : w.heap.size ≤ p.block) (hne : ib ≠ p.block) (hR : ¬ fp R Bs v p.block) (x : Value) : Zx R n Bs v t ib w (u.setCell p x) :=
  ⟨h.s.kept (fun k hk => Below.heap_setCell _ _ _ _ (fun e => hR (e ▸ hk))), h.t.kept (by simp) (Below.heap_setCell _ _ _ _ hne), h.l.setCell hp x⟩
/-- What stays as it is. -/
theorem chg_same {R : Nat} {n c : Int} {F : Nat → Prop} {Bs : List Bkm} {v : Value} {w w' : World} (h : St R n Bs v w) (hs : Siz n Bs) (hF : ∀ k, fp R Bs v k → F k) (hf : ∀ k, F k → k < w.heap.size) (hb : Below w.heap.size w w') : ChgX PX R n F c (its Bs) w (.returned (.int .i64 c)) w' :=
  (Mut.same h hb).chg hF hf hs rfl
set_option maxHeartbeats 1000000 in
theorem ins_wrong {R : Nat} {n : Int} {F : Nat → Prop} {Bs : List Bkm} {v : Value} {w : World} (h : St R n Bs v w) (hs : Siz n Bs) (hF : ∀ k, fp R Bs v k → F k) (hf : ∀ k, F k → k < w.heap.size) (t : It) (ht : ¬ RightI t) :
    Calls Try.prog 12 #[.pointer (some ⟨R, 0, none⟩), .agg #[.string (S t.k), .int .i64 t.s, .int .i64 t.e, .int .i64 t.id]] w fun e w' => ChgX PX R n F (insC (its Bs) t) (insL (its Bs) t) w e w' := by
  have HE := hide (show insC (its Bs) t = 1 ∧ insL (its Bs) t = its Bs from ⟨by unfold insC; rw [if_neg ht], by unfold insL; rw [if_neg (fun h9 => ht h9.1)]⟩)
  have HB := hide (below_alloc w (.cells #[.string (S t.k), .int .i64 t.s, .int .i64 t.e, .int .i64 t.id] 31))
  have HC := hide (show ChgX PX R n F 1 (its Bs) w (.returned (.int .i64 1)) (w.alloc (.cells #[.string (S t.k), .int .i64 t.s, .int .i64 t.e, .int .i64 t.id] 31)) from chg_same h hs hF hf HB.out)
  have CG := hide (given_yes R _ (h.later HB.out (Nat.le_refl _)).c0)
  rw [HE.out.1, HE.out.2]
  have h3 : t.s < 0 ∨ ¬ t.s < 0 ∧ t.e ≤ t.s ∨ ¬ t.s < 0 ∧ ¬ t.e ≤ t.s ∧ t.e > 1099511627776 := by unfold RightI at ht; omega
  clear h hs hF hf ht HE HB
  rcases h3 with g1 | ⟨g1, g2⟩ | ⟨g1, g2, g3⟩
  · go_enter Try.func12, Try.ntmps12
    go_wp2_with fail
    refine CG.out.mono ?_
    rintro e w1 ⟨rfl, e9⟩
    obtain rfl : _ = w1 := e9.symm
    clear e9 CG
    go_wp2_with fail
    go_ret
    exact HC.out
  · go_enter Try.func12, Try.ntmps12
    go_wp2_with fail
    refine CG.out.mono ?_
    rintro e w1 ⟨rfl, e9⟩
    obtain rfl : _ = w1 := e9.symm
    clear e9 CG
    go_wp2_with fail
    go_ret
    exact HC.out
  · go_enter Try.func12, Try.ntmps12
    go_wp2_with fail
    refine CG.out.mono ?_
    rintro e w1 ⟨rfl, e9⟩
    obtain rfl : _ = w1 := e9.symm
    clear e9 CG
    go_wp2_with fail
    go_ret
    exact HC.out
set_option maxHeartbeats 4000000 in
set_option maxRecDepth 100000 in
theorem ins_twice {R wn : Nat} {F : Nat → Prop} {Bs : List Bkm} {v : Value} {w : World} (h : St R wn Bs v w) (hs : Siz wn Bs) (hF : ∀ k, fp R Bs v k → F k) (hf : ∀ k, F k → k < w.heap.size) (hu : Up (its Bs)) (hl : (its Bs).length ≤ 998) (t : It) (ht : RightI t) (hk : t.k.length ≤ 140737488351232) (hat : isAt (its Bs) t.k t.s = true) :
    Calls Try.prog 12 #[.pointer (some ⟨R, 0, none⟩), .agg #[.string (S t.k), .int .i64 t.s, .int .i64 t.e, .int .i64 t.id]] w fun e w' => ChgX PX R wn F (insC (its Bs) t) (insL (its Bs) t) w e w' := by
  have HE := hide (show insC (its Bs) t = 5 ∧ insL (its Bs) t = its Bs from ⟨by unfold insC; rw [if_pos ht, hat]; rfl, by unfold insL; rw [hat]; simp [ht]⟩)
  have T0 := hide (show Zx R wn Bs v t w.heap.size w (w.alloc (.cells #[.string (S t.k), .int .i64 t.s, .int .i64 t.e, .int .i64 t.id] 31)) from ⟨h.later (below_alloc _ _) (Nat.le_refl _), Bx.new w t 31, below_alloc _ _⟩)
  have CG := hide (given_yes R _ T0.out.s.c0)
  have CF := hide (show ∀ u : World, Zx R wn Bs v t w.heap.size w u → Calls Try.prog 34 #[.pointer (some ⟨R, 1, none⟩), .agg #[.string (S t.k), .int .i64 t.s, .int .i64 t.e, .int .i64 t.id]] u fun e w' => FinP Bs t.k t.s u e w' from fun u hz => find_any hz.s hu (by omega) t)
  have HAT := hide hat
  have HKP := hide (show (∀ c w', Below w.heap.size w w' → ChgX PX R wn F c (its Bs) w (.returned (.int .i64 c)) w') ∧ ∀ c Bs' w', Mut R wn Bs v w Bs' w' → Siz wn Bs' → its Bs' = ins (its Bs) t → ChgX PX R wn F c (ins (its Bs) t) w (.returned (.int .i64 c)) w' from ⟨fun c w' hb => chg_same h hs hF hf hb, fun c Bs' w' hm h1 h2 => hm.chg hF hf h1 h2⟩)
  have HS := hide hs
  have HL := hide hl
  have HK := hide hk
  have HNI := hide (show ¬ fp R Bs v w.heap.size from fun e9 => by have := h.fl _ e9; omega)
  rw [HE.out.1, HE.out.2]
  have g1 : ¬ t.s < 0 := by unfold RightI at ht; omega
  have g2 : ¬ t.e ≤ t.s := by unfold RightI at ht; omega
  have g3 : ¬ t.e > 1099511627776 := by unfold RightI at ht; omega
  clear h hs hF hf hu hl ht hk hat HE
  go_enter Try.func12, Try.ntmps12
  go_wp2_with fail
  refine CG.out.mono ?_
  rintro e w1 ⟨rfl, e9⟩
  obtain rfl : _ = w1 := e9.symm
  clear e9 CG
  go_wp2_with fail
  refine wp_region_held_drew (S := fun u => u.cell? ⟨w.heap.size, 0, none⟩ = some (.string (S t.k)) ∧ u.cell? ⟨w.heap.size, 1, none⟩ = some (.int .i64 t.s) ∧ u.cell? ⟨w.heap.size, 2, none⟩ = some (.int .i64 t.e) ∧ u.cell? ⟨w.heap.size, 3, none⟩ = some (.int .i64 t.id)) (by kernel_rfl) (T0.out.later (Below.refl _ _).drew).ob (fun hHeld => ?_)
  obtain ⟨wd, hwd⟩ : ∃ wd, wd = (w.alloc (.cells #[.string (S t.k), .int .i64 t.s, .int .i64 t.e, .int .i64 t.id] 31)).drew := ⟨_, rfl⟩
  replace T0 := hide (show Zx R wn Bs v t w.heap.size w wd from by rw [hwd]; exact T0.out.later (Below.refl _ _).drew)
  rw [← hwd] at hHeld ⊢
  clear hwd
  refine Man.t1 0 hHeld ?_
  (try simp only [Act.put, Mqa, Mqb, Mqc])
  refine Man.t1 1 hHeld ?_
  (try simp only [Act.put, Mqa, Mqb, Mqc])
  refine Man.t1 2 hHeld ?_
  (try simp only [Act.put, Mqa, Mqb, Mqc])
  refine Man.t1 3 hHeld ?_
  (try simp only [Act.put, Mqa, Mqb, Mqc])
  refine Man.two (i := 4) (j := 8) rfl rfl (by kernel_rfl) (fun K hK => ?_) (fun K hK => ?_)
  · go_simp
    with_reducible refine (CF.out _ T0.out).mono ?_
    rintro e w2 ⟨q, i, rfl, hp, _, hb⟩
    rw [HAT.out] at *
    have T1 := hide (T0.out.later hb)
    replace T0 := T1
    clear T1
    have HP := hide hp
    clear hp hb
    refine hK.out _ _ T0.out.ob (fun hNew => ?_)
    clear hK K
    have hHeld := hNew
    clear hNew
    (try simp only [Act.put, Mqa, Mqb, Mqc])
    refine Man.t1 5 hHeld ?_
    (try simp only [Act.put, Mqa, Mqb, Mqc])
    refine Man.t1 6 hHeld ?_
    (try simp only [Act.put, Mqa, Mqb, Mqc])
    refine Man.t1 7 hHeld ?_
    (try simp only [Act.put, Mqa, Mqb, Mqc])
    refine Man.one (i := 8) rfl (by kernel_rfl) (fun K hK => ?_)
    go_simp
    have PB := hide (show B2 (.int .i64 0) (.int .i64 0) w2.heap.size (w2.alloc (.cells #[.int .i64 0, .int .i64 0] 74)) from B2.new w2 _ _ 74 rfl)
    have PN := hide (show ¬ fp R Bs v w2.heap.size ∧ w.heap.size ≤ w2.heap.size ∧ w.heap.size ≠ w2.heap.size from ⟨fun e9 => by have := T0.out.s.fl _ e9; omega, T0.out.l.size, by have := T0.out.t.lt; omega⟩)
    have T1 := hide (T0.out.later (below_alloc w2 (.cells #[.int .i64 0, .int .i64 0] 74)))
    replace T0 := T1
    clear T1
    obtain ⟨pb, hpb⟩ : ∃ pb, pb = w2.heap.size := ⟨_, rfl⟩
    rw [← hpb] at PB PN ⊢
    obtain ⟨w5, hw5⟩ : ∃ w5, w5 = w2.alloc (.cells #[.int .i64 0, .int .i64 0] 74) := ⟨_, rfl⟩
    rw [← hw5] at T0 PB ⊢
    clear hpb hw5
    refine hK.out _ _ T0.out.ob (fun hNew => ?_)
    clear hK K
    have hHeld := hNew
    clear hNew
    (try simp only [Act.put, Mqa, Mqb, Mqc])
    refine Man.one (i := 9) rfl (by kernel_rfl) (fun K hK => ?_)
    obtain ⟨p0, p1, z0, z1, _⟩ := PB.out
    go_simp
    have T1 := hide ((T0.out.set (p := ⟨pb, 0, none⟩) PN.out.2.1 PN.out.2.2 PN.out.1 (.int .i64 q)).set (p := ⟨pb, 1, none⟩) PN.out.2.1 PN.out.2.2 PN.out.1 (.int .i64 i))
    have PC := hide ((PB.out.set0 (.int .i64 q)).set1 (.int .i64 i))
    clear p0 p1 z0 z1 T0 PB
    refine hK.out _ _ T1.out.ob (fun hNew => ?_)
    clear hK K
    have hHeld := hNew
    clear hNew
    (try simp only [Act.put, Mqa, Mqb, Mqc])
    refine Man.t1 10 hHeld ?_
    (try simp only [Act.put, Mqa, Mqb, Mqc])
    refine wpAnyH_done (by kernel_rfl) ?_ _
    go_wp2_with fail
    go_ret
    exact HKP.out.1 5 _ T1.out.l
  · go_simp
    have PB := hide (show B2 (.int .i64 0) (.int .i64 0) wd.heap.size (wd.alloc (.cells #[.int .i64 0, .int .i64 0] 74)) from B2.new wd _ _ 74 rfl)
    have PN := hide (show ¬ fp R Bs v wd.heap.size ∧ w.heap.size ≤ wd.heap.size ∧ w.heap.size ≠ wd.heap.size from ⟨fun e9 => by have := T0.out.s.fl _ e9; omega, T0.out.l.size, by have := T0.out.t.lt; omega⟩)
    have T1 := hide (T0.out.later (below_alloc wd (.cells #[.int .i64 0, .int .i64 0] 74)))
    replace T0 := T1
    clear T1
    obtain ⟨pb, hpb⟩ : ∃ pb, pb = wd.heap.size := ⟨_, rfl⟩
    rw [← hpb] at PB PN ⊢
    obtain ⟨w5, hw5⟩ : ∃ w5, w5 = wd.alloc (.cells #[.int .i64 0, .int .i64 0] 74) := ⟨_, rfl⟩
    rw [← hw5] at T0 PB ⊢
    clear hpb hw5
    refine hK.out _ _ T0.out.ob (fun hNew => ?_)
    clear hK K
    have hHeld := hNew
    clear hNew
    (try simp only [Act.put, Mqa, Mqb, Mqc])
    refine Man.one (i := 4) rfl (by kernel_rfl) (fun K hK => ?_)
    go_simp
    with_reducible refine (CF.out _ T0.out).mono ?_
    rintro e w2 ⟨q, i, rfl, hp, _, hb⟩
    rw [HAT.out] at *
    have PB := hide (PB.out.later hb)
    have T1 := hide (T0.out.later hb)
    replace T0 := T1
    clear T1
    have HP := hide hp
    clear hp hb
    refine hK.out _ _ T0.out.ob (fun hNew => ?_)
    clear hK K
    have hHeld := hNew
    clear hNew
    (try simp only [Act.put, Mqa, Mqb, Mqc])
    refine Man.t1 5 hHeld ?_
    (try simp only [Act.put, Mqa, Mqb, Mqc])
    refine Man.t1 6 hHeld ?_
    (try simp only [Act.put, Mqa, Mqb, Mqc])
    refine Man.t1 7 hHeld ?_
    (try simp only [Act.put, Mqa, Mqb, Mqc])
    refine Man.one (i := 9) rfl (by kernel_rfl) (fun K hK => ?_)
    obtain ⟨p0, p1, z0, z1, _⟩ := PB.out
    go_simp
    have T1 := hide ((T0.out.set (p := ⟨pb, 0, none⟩) PN.out.2.1 PN.out.2.2 PN.out.1 (.int .i64 q)).set (p := ⟨pb, 1, none⟩) PN.out.2.1 PN.out.2.2 PN.out.1 (.int .i64 i))
    have PC := hide ((PB.out.set0 (.int .i64 q)).set1 (.int .i64 i))
    clear p0 p1 z0 z1 T0 PB
    refine hK.out _ _ T1.out.ob (fun hNew => ?_)
    clear hK K
    have hHeld := hNew
    clear hNew
    (try simp only [Act.put, Mqa, Mqb, Mqc])
    refine Man.t1 10 hHeld ?_
    (try simp only [Act.put, Mqa, Mqb, Mqc])
    refine wpAnyH_done (by kernel_rfl) ?_ _
    go_wp2_with fail
    go_ret
    exact HKP.out.1 5 _ T1.out.l
set_option maxHeartbeats 4000000 in
set_option maxRecDepth 100000 in
theorem ins_new {R wn : Nat} {F : Nat → Prop} {Bs : List Bkm} {v : Value} {w : World} (h : St R wn Bs v w) (hs : Siz wn Bs) (hF : ∀ k, fp R Bs v k → F k) (hf : ∀ k, F k → k < w.heap.size) (hu : Up (its Bs)) (hl : (its Bs).length ≤ 998) (t : It) (ht : RightI t) (hk : t.k.length ≤ 140737488351232) (hat : isAt (its Bs) t.k t.s = false) :
    Calls Try.prog 12 #[.pointer (some ⟨R, 0, none⟩), .agg #[.string (S t.k), .int .i64 t.s, .int .i64 t.e, .int .i64 t.id]] w fun e w' => ChgX PX R wn F (insC (its Bs) t) (insL (its Bs) t) w e w' := by
  have HE := hide (show insC (its Bs) t = 0 ∧ insL (its Bs) t = ins (its Bs) t from ⟨by unfold insC; rw [if_pos ht, hat]; rfl, by unfold insL; rw [hat]; simp [ht]⟩)
  have T0 := hide (show Zx R wn Bs v t w.heap.size w (w.alloc (.cells #[.string (S t.k), .int .i64 t.s, .int .i64 t.e, .int .i64 t.id] 31)) from ⟨h.later (below_alloc _ _) (Nat.le_refl _), Bx.new w t 31, below_alloc _ _⟩)
  have CG := hide (given_yes R _ T0.out.s.c0)
  have CF := hide (show ∀ u : World, Zx R wn Bs v t w.heap.size w u → Calls Try.prog 34 #[.pointer (some ⟨R, 1, none⟩), .agg #[.string (S t.k), .int .i64 t.s, .int .i64 t.e, .int .i64 t.id]] u fun e w' => FinP Bs t.k t.s u e w' from fun u hz => find_any hz.s hu (by omega) t)
  have HAT := hide hat
  have HKP := hide (show (∀ c w', Below w.heap.size w w' → ChgX PX R wn F c (its Bs) w (.returned (.int .i64 c)) w') ∧ ∀ c Bs' w', Mut R wn Bs v w Bs' w' → Siz wn Bs' → its Bs' = ins (its Bs) t → ChgX PX R wn F c (ins (its Bs) t) w (.returned (.int .i64 c)) w' from ⟨fun c w' hb => chg_same h hs hF hf hb, fun c Bs' w' hm h1 h2 => hm.chg hF hf h1 h2⟩)
  have HS := hide hs
  have HL := hide hl
  have HK := hide hk
  have HNI := hide (show ¬ fp R Bs v w.heap.size from fun e9 => by have := h.fl _ e9; omega)
  rw [HE.out.1, HE.out.2]
  have g1 : ¬ t.s < 0 := by unfold RightI at ht; omega
  have g2 : ¬ t.e ≤ t.s := by unfold RightI at ht; omega
  have g3 : ¬ t.e > 1099511627776 := by unfold RightI at ht; omega
  clear h hs hF hf hu hl ht hk hat HE
  go_enter Try.func12, Try.ntmps12
  go_wp2_with fail
  refine CG.out.mono ?_
  rintro e w1 ⟨rfl, e9⟩
  obtain rfl : _ = w1 := e9.symm
  clear e9 CG
  go_wp2_with fail
  refine wp_region_held_drew (S := fun u => u.cell? ⟨w.heap.size, 0, none⟩ = some (.string (S t.k)) ∧ u.cell? ⟨w.heap.size, 1, none⟩ = some (.int .i64 t.s) ∧ u.cell? ⟨w.heap.size, 2, none⟩ = some (.int .i64 t.e) ∧ u.cell? ⟨w.heap.size, 3, none⟩ = some (.int .i64 t.id)) (by kernel_rfl) (T0.out.later (Below.refl _ _).drew).ob (fun hHeld => ?_)
  obtain ⟨wd, hwd⟩ : ∃ wd, wd = (w.alloc (.cells #[.string (S t.k), .int .i64 t.s, .int .i64 t.e, .int .i64 t.id] 31)).drew := ⟨_, rfl⟩
  replace T0 := hide (show Zx R wn Bs v t w.heap.size w wd from by rw [hwd]; exact T0.out.later (Below.refl _ _).drew)
  rw [← hwd] at hHeld ⊢
  clear hwd
  refine Man.t1 0 hHeld ?_
  (try simp only [Act.put, Mqa, Mqb, Mqc])
  refine Man.t1 1 hHeld ?_
  (try simp only [Act.put, Mqa, Mqb, Mqc])
  refine Man.t1 2 hHeld ?_
  (try simp only [Act.put, Mqa, Mqb, Mqc])
  refine Man.t1 3 hHeld ?_
  (try simp only [Act.put, Mqa, Mqb, Mqc])
  refine Man.two (i := 4) (j := 8) rfl rfl (by kernel_rfl) (fun K hK => ?_) (fun K hK => ?_)
  · go_simp
    with_reducible refine (CF.out _ T0.out).mono ?_
    rintro e w2 ⟨q, i, rfl, hp, _, hb⟩
    rw [HAT.out] at *
    have T1 := hide (T0.out.later hb)
    replace T0 := T1
    clear T1
    have HP := hide hp
    clear hp hb
    refine hK.out _ _ T0.out.ob (fun hNew => ?_)
    clear hK K
    have hHeld := hNew
    clear hNew
    (try simp only [Act.put, Mqa, Mqb, Mqc])
    refine Man.t1 5 hHeld ?_
    (try simp only [Act.put, Mqa, Mqb, Mqc])
    refine Man.t1 6 hHeld ?_
    (try simp only [Act.put, Mqa, Mqb, Mqc])
    refine Man.t1 7 hHeld ?_
    (try simp only [Act.put, Mqa, Mqb, Mqc])
    refine Man.one (i := 8) rfl (by kernel_rfl) (fun K hK => ?_)
    go_simp
    have PB := hide (show B2 (.int .i64 0) (.int .i64 0) w2.heap.size (w2.alloc (.cells #[.int .i64 0, .int .i64 0] 74)) from B2.new w2 _ _ 74 rfl)
    have PN := hide (show ¬ fp R Bs v w2.heap.size ∧ w.heap.size ≤ w2.heap.size ∧ w.heap.size ≠ w2.heap.size from ⟨fun e9 => by have := T0.out.s.fl _ e9; omega, T0.out.l.size, by have := T0.out.t.lt; omega⟩)
    have T1 := hide (T0.out.later (below_alloc w2 (.cells #[.int .i64 0, .int .i64 0] 74)))
    replace T0 := T1
    clear T1
    obtain ⟨pb, hpb⟩ : ∃ pb, pb = w2.heap.size := ⟨_, rfl⟩
    rw [← hpb] at PB PN ⊢
    obtain ⟨w5, hw5⟩ : ∃ w5, w5 = w2.alloc (.cells #[.int .i64 0, .int .i64 0] 74) := ⟨_, rfl⟩
    rw [← hw5] at T0 PB ⊢
    clear hpb hw5
    refine hK.out _ _ T0.out.ob (fun hNew => ?_)
    clear hK K
    have hHeld := hNew
    clear hNew
    (try simp only [Act.put, Mqa, Mqb, Mqc])
    refine Man.one (i := 9) rfl (by kernel_rfl) (fun K hK => ?_)
    obtain ⟨p0, p1, z0, z1, _⟩ := PB.out
    go_simp
    have T1 := hide ((T0.out.set (p := ⟨pb, 0, none⟩) PN.out.2.1 PN.out.2.2 PN.out.1 (.int .i64 q)).set (p := ⟨pb, 1, none⟩) PN.out.2.1 PN.out.2.2 PN.out.1 (.int .i64 i))
    have PC := hide ((PB.out.set0 (.int .i64 q)).set1 (.int .i64 i))
    clear p0 p1 z0 z1 T0 PB
    refine hK.out _ _ T1.out.ob (fun hNew => ?_)
    clear hK K
    have hHeld := hNew
    clear hNew
    (try simp only [Act.put, Mqa, Mqb, Mqc])
    refine Man.t1 10 hHeld ?_
    (try simp only [Act.put, Mqa, Mqb, Mqc])
    refine wpAnyH_done (by kernel_rfl) ?_ _
    go_wp2_with fail
    refine wp_region_held_drew (S := fun u => u.cell? ⟨pb, 0, none⟩ = some (.int .i64 q) ∧ u.cell? ⟨pb, 1, none⟩ = some (.int .i64 i) ∧ u.cell? ⟨w.heap.size, 0, none⟩ = some (.string (S t.k)) ∧ u.cell? ⟨w.heap.size, 1, none⟩ = some (.int .i64 t.s) ∧ u.cell? ⟨w.heap.size, 2, none⟩ = some (.int .i64 t.e) ∧ u.cell? ⟨w.heap.size, 3, none⟩ = some (.int .i64 t.id)) (by kernel_rfl) ⟨PC.out.c0, PC.out.c1, T1.out.ob⟩ (fun hHeld2 => ?_)
    clear hHeld
    have hHeld := hHeld2
    clear hHeld2
    obtain ⟨w6, hw6⟩ : ∃ w6, w6 = World.drew ((w5.setCell ⟨pb, 0, none⟩ (.int .i64 q)).setCell ⟨pb, 1, none⟩ (.int .i64 i)) := ⟨_, rfl⟩
    have T2 := hide (show Zx R wn Bs v t w.heap.size w w6 from by rw [hw6]; exact T1.out.later (Below.refl _ _).drew)
    replace PC := hide (show B2 (.int .i64 q) (.int .i64 i) pb w6 from by rw [hw6]; exact PC.out.later (Below.refl _ _).drew)
    rw [← hw6] at hHeld ⊢
    clear hw6 T1
    refine Man.t1 0 hHeld ?_
    (try simp only [Act.put, Mqa, Mqb, Mqc])
    refine Man.t1 1 hHeld ?_
    (try simp only [Act.put, Mqa, Mqb, Mqc])
    refine Man.t1 2 hHeld ?_
    (try simp only [Act.put, Mqa, Mqb, Mqc])
    refine Man.t1 3 hHeld ?_
    (try simp only [Act.put, Mqa, Mqb, Mqc])
    refine Man.t1 4 hHeld ?_
    (try simp only [Act.put, Mqa, Mqb, Mqc])
    refine Man.one (i := 5) rfl (by kernel_rfl) (fun K9 hK => ?_)
    go_simp
    with_reducible refine (copied_any t HK.out _).mono ?_
    rintro e w7 ⟨rfl, hb⟩
    have T3 := hide (T2.out.later hb)
    have PD := hide (PC.out.later hb)
    clear hb T2 PC
    refine hK.out _ _ ⟨PD.out.c0, PD.out.c1, T3.out.ob⟩ (fun hNew => ?_)
    clear hK K9 hHeld
    have hHeld := hNew
    clear hNew
    (try simp only [Act.put, Mqa, Mqb, Mqc])
    refine Man.one (i := 6) rfl (by kernel_rfl) (fun K9 hK => ?_)
    go_simp
    with_reducible refine (insert_all T3.out.s HS.out HL.out t q i HP.out).mono ?_
    rintro e w8 ⟨rfl, Bs', hm, h1, h2⟩
    have HC := hide (show ChgX PX R wn F 0 (ins (its Bs) t) w (.returned (.int .i64 0)) w8 from HKP.out.2 0 Bs' w8 (hm.pre T3.out.l) h1 h2)
    obtain ⟨_, _, hO, _⟩ := hm
    have P8 := PD.out.kept hO.size (hO.block pb PD.out.lt PN.out.1)
    have T8 := T3.out.t.kept hO.size (hO.block _ T3.out.t.lt HNI.out)
    clear hO h1 h2
    refine hK.out _ _ ⟨P8.c0, P8.c1, T8.c0, T8.c1, T8.c2, T8.c3⟩ (fun hNew => ?_)
    clear P8 T8
    clear hK K9 hHeld
    have hHeld := hNew
    clear hNew
    (try simp only [Act.put, Mqa, Mqb, Mqc])
    refine wpAnyH_done (by kernel_rfl) ?_ _
    go_wp2_with fail
    go_ret
    exact HC.out
  · go_simp
    have PB := hide (show B2 (.int .i64 0) (.int .i64 0) wd.heap.size (wd.alloc (.cells #[.int .i64 0, .int .i64 0] 74)) from B2.new wd _ _ 74 rfl)
    have PN := hide (show ¬ fp R Bs v wd.heap.size ∧ w.heap.size ≤ wd.heap.size ∧ w.heap.size ≠ wd.heap.size from ⟨fun e9 => by have := T0.out.s.fl _ e9; omega, T0.out.l.size, by have := T0.out.t.lt; omega⟩)
    have T1 := hide (T0.out.later (below_alloc wd (.cells #[.int .i64 0, .int .i64 0] 74)))
    replace T0 := T1
    clear T1
    obtain ⟨pb, hpb⟩ : ∃ pb, pb = wd.heap.size := ⟨_, rfl⟩
    rw [← hpb] at PB PN ⊢
    obtain ⟨w5, hw5⟩ : ∃ w5, w5 = wd.alloc (.cells #[.int .i64 0, .int .i64 0] 74) := ⟨_, rfl⟩
    rw [← hw5] at T0 PB ⊢
    clear hpb hw5
    refine hK.out _ _ T0.out.ob (fun hNew => ?_)
    clear hK K
    have hHeld := hNew
    clear hNew
    (try simp only [Act.put, Mqa, Mqb, Mqc])
    refine Man.one (i := 4) rfl (by kernel_rfl) (fun K hK => ?_)
    go_simp
    with_reducible refine (CF.out _ T0.out).mono ?_
    rintro e w2 ⟨q, i, rfl, hp, _, hb⟩
    rw [HAT.out] at *
    have PB := hide (PB.out.later hb)
    have T1 := hide (T0.out.later hb)
    replace T0 := T1
    clear T1
    have HP := hide hp
    clear hp hb
    refine hK.out _ _ T0.out.ob (fun hNew => ?_)
    clear hK K
    have hHeld := hNew
    clear hNew
    (try simp only [Act.put, Mqa, Mqb, Mqc])
    refine Man.t1 5 hHeld ?_
    (try simp only [Act.put, Mqa, Mqb, Mqc])
    refine Man.t1 6 hHeld ?_
    (try simp only [Act.put, Mqa, Mqb, Mqc])
    refine Man.t1 7 hHeld ?_
    (try simp only [Act.put, Mqa, Mqb, Mqc])
    refine Man.one (i := 9) rfl (by kernel_rfl) (fun K hK => ?_)
    obtain ⟨p0, p1, z0, z1, _⟩ := PB.out
    go_simp
    have T1 := hide ((T0.out.set (p := ⟨pb, 0, none⟩) PN.out.2.1 PN.out.2.2 PN.out.1 (.int .i64 q)).set (p := ⟨pb, 1, none⟩) PN.out.2.1 PN.out.2.2 PN.out.1 (.int .i64 i))
    have PC := hide ((PB.out.set0 (.int .i64 q)).set1 (.int .i64 i))
    clear p0 p1 z0 z1 T0 PB
    refine hK.out _ _ T1.out.ob (fun hNew => ?_)
    clear hK K
    have hHeld := hNew
    clear hNew
    (try simp only [Act.put, Mqa, Mqb, Mqc])
    refine Man.t1 10 hHeld ?_
    (try simp only [Act.put, Mqa, Mqb, Mqc])
    refine wpAnyH_done (by kernel_rfl) ?_ _
    go_wp2_with fail
    refine wp_region_held_drew (S := fun u => u.cell? ⟨pb, 0, none⟩ = some (.int .i64 q) ∧ u.cell? ⟨pb, 1, none⟩ = some (.int .i64 i) ∧ u.cell? ⟨w.heap.size, 0, none⟩ = some (.string (S t.k)) ∧ u.cell? ⟨w.heap.size, 1, none⟩ = some (.int .i64 t.s) ∧ u.cell? ⟨w.heap.size, 2, none⟩ = some (.int .i64 t.e) ∧ u.cell? ⟨w.heap.size, 3, none⟩ = some (.int .i64 t.id)) (by kernel_rfl) ⟨PC.out.c0, PC.out.c1, T1.out.ob⟩ (fun hHeld2 => ?_)
    clear hHeld
    have hHeld := hHeld2
    clear hHeld2
    obtain ⟨w6, hw6⟩ : ∃ w6, w6 = World.drew ((w2.setCell ⟨pb, 0, none⟩ (.int .i64 q)).setCell ⟨pb, 1, none⟩ (.int .i64 i)) := ⟨_, rfl⟩
    have T2 := hide (show Zx R wn Bs v t w.heap.size w w6 from by rw [hw6]; exact T1.out.later (Below.refl _ _).drew)
    replace PC := hide (show B2 (.int .i64 q) (.int .i64 i) pb w6 from by rw [hw6]; exact PC.out.later (Below.refl _ _).drew)
    rw [← hw6] at hHeld ⊢
    clear hw6 T1
    refine Man.t1 0 hHeld ?_
    (try simp only [Act.put, Mqa, Mqb, Mqc])
    refine Man.t1 1 hHeld ?_
    (try simp only [Act.put, Mqa, Mqb, Mqc])
    refine Man.t1 2 hHeld ?_
    (try simp only [Act.put, Mqa, Mqb, Mqc])
    refine Man.t1 3 hHeld ?_
    (try simp only [Act.put, Mqa, Mqb, Mqc])
    refine Man.t1 4 hHeld ?_
    (try simp only [Act.put, Mqa, Mqb, Mqc])
    refine Man.one (i := 5) rfl (by kernel_rfl) (fun K9 hK => ?_)
    go_simp
    with_reducible refine (copied_any t HK.out _).mono ?_
    rintro e w7 ⟨rfl, hb⟩
    have T3 := hide (T2.out.later hb)
    have PD := hide (PC.out.later hb)
    clear hb T2 PC
    refine hK.out _ _ ⟨PD.out.c0, PD.out.c1, T3.out.ob⟩ (fun hNew => ?_)
    clear hK K9 hHeld
    have hHeld := hNew
    clear hNew
    (try simp only [Act.put, Mqa, Mqb, Mqc])
    refine Man.one (i := 6) rfl (by kernel_rfl) (fun K9 hK => ?_)
    go_simp
    with_reducible refine (insert_all T3.out.s HS.out HL.out t q i HP.out).mono ?_
    rintro e w8 ⟨rfl, Bs', hm, h1, h2⟩
    have HC := hide (show ChgX PX R wn F 0 (ins (its Bs) t) w (.returned (.int .i64 0)) w8 from HKP.out.2 0 Bs' w8 (hm.pre T3.out.l) h1 h2)
    obtain ⟨_, _, hO, _⟩ := hm
    have P8 := PD.out.kept hO.size (hO.block pb PD.out.lt PN.out.1)
    have T8 := T3.out.t.kept hO.size (hO.block _ T3.out.t.lt HNI.out)
    clear hO h1 h2
    refine hK.out _ _ ⟨P8.c0, P8.c1, T8.c0, T8.c1, T8.c2, T8.c3⟩ (fun hNew => ?_)
    clear P8 T8
    clear hK K9 hHeld
    have hHeld := hNew
    clear hNew
    (try simp only [Act.put, Mqa, Mqb, Mqc])
    refine wpAnyH_done (by kernel_rfl) ?_ _
    go_wp2_with fail
    go_ret
    exact HC.out
theorem pinsert_any {R : Nat} {n : Int} {F : Nat → Prop} {L : List It} {w : World} (h : PX R n F L w) (hf : Fit 998 L) (t : It) (hi : t.inn) :
    Calls Try.prog 12 #[.pointer (some ⟨R, 0, none⟩), .agg #[.string (S t.k), .int .i64 t.s, .int .i64 t.e, .int .i64 t.id]] w fun e w' => ChgX PX R n F (insC L t) (insL L t) w e w' := by
  obtain ⟨Bs, v, h1, h2, rfl, h4, h5⟩ := h
  obtain ⟨wn, rfl⟩ := Int.eq_ofNat_of_zero_le (show 0 ≤ n by have := h1.wd; omega)
  by_cases ht : RightI t
  · cases hat : isAt (its Bs) t.k t.s with
    | true => exact ins_twice h1 h2 h4 h5 hf.ok.up hf.n t ht hi.k hat
    | false => exact ins_new h1 h2 h4 h5 hf.ok.up hf.n t ht hi.k hat
  · exact ins_wrong h1 h2 h4 h5 t ht
end Idx
end Go.Proofs.Ytapdhelioecneaa
