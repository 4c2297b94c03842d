/- remove. Condition: less than a thousand items. -/
import Derived.Test.YtapdhelioecneaaWm
namespace Go.Proofs.Ytapdhelioecneaa
open Go.RowKit
namespace Idx
/-- Behind the first of the two joins. -/
def Tw (n q : Nat) (Bs : List Bkm) : Prop := Siz n Bs ∨ ∃ A x C, Bs = A ++ [x] ++ C ∧ A.length = q ∧ Near n A x C ∧ Adj n (x :: C)
theorem join_split {R wn : Nat} {A C : List Bkm} {x y : Bkm} {v : Value} {w : World} (h : St R wn (A ++ x :: y :: C) v w) (hl : (its (A ++ x :: y :: C)).length ≤ 998) :
    Calls Try.prog 55 #[.pointer (some ⟨R, 1, none⟩), .int .i64 (A.length : Nat)] w fun e w' => e = .returned (.tuple #[]) ∧ ((wn < x.xs.length + y.xs.length ∧ Below w.heap.size w w') ∨ (x.xs.length + y.xs.length ≤ wn ∧ ∃ b : Bkm, b.xs = x.xs ++ y.xs ∧ Mut R wn (A ++ x :: y :: C) v w (A ++ [b] ++ C) w')) := by
  have h9 := join_in h A.length (by simp) hl
  have e1 : (A ++ x :: y :: C)[A.length]'(by simp) = x := by simp
  have e2 : (A ++ x :: y :: C)[A.length + 1]'(by simp) = y := by rw [List.getElem_append_right (by omega)]; simp
  have e3 : (A ++ x :: y :: C).take A.length = A := by simp
  have e4 : (A ++ x :: y :: C).drop (A.length + 2) = C := by rw [List.drop_append, List.drop_eq_nil_of_le (by omega), show A.length + 2 - A.length = 2 by omega]; rfl
  rw [e1, e2, e3, e4] at h9
  exact h9
theorem its_join {A C : List Bkm} {x y b : Bkm} (hb : b.xs = x.xs ++ y.xs) : its (A ++ [b] ++ C) = its (A ++ x :: y :: C) := by
  simp [its, hb]
theorem join_one {R wn : Nat} {A C : List Bkm} {x : Bkm} {v : Value} {w : World} (h : St R wn (A ++ [x] ++ C) v w) (hn : Near wn A x C) (hw : 1 ≤ wn) (hl : (its (A ++ [x] ++ C)).length ≤ 998) :
    Calls Try.prog 55 #[.pointer (some ⟨R, 1, none⟩), .int .i64 (A.length : Nat)] w fun e w' => e = .returned (.tuple #[]) ∧ ∃ Bs, Mut R wn (A ++ [x] ++ C) v w Bs w' ∧ its Bs = its (A ++ [x] ++ C) ∧ Tw wn A.length Bs := by
  cases C with
  | nil =>
    have hlen := len_le h.one
    have hA : (A ++ [x] ++ []).length = A.length + 1 := by simp
    refine (join_out h (A.length : Nat) (.inr (by rw [hA]; omega)) ⟨by omega, by omega⟩).mono ?_
    rintro e w' ⟨rfl, hb⟩
    exact ⟨rfl, _, .same h hb, rfl, .inr ⟨A, x, [], rfl, rfl, hn, trivial⟩⟩
  | cons y C =>
    have e9 : A ++ [x] ++ y :: C = A ++ x :: y :: C := by simp
    rw [e9] at h hl ⊢
    refine (join_split h hl).mono ?_
    rintro e w' ⟨rfl, hc | ⟨hc, b, hb, hm⟩⟩
    · exact ⟨rfl, _, .same h hc.2, rfl, .inr ⟨A, x, y :: C, e9.symm, rfl, hn, ⟨hc.1, hn.c⟩⟩⟩
    · exact ⟨rfl, _, hm, its_join hb, .inl (near_next hn hb hc hw)⟩
theorem join_two {R wn q : Nat} {Bs : List Bkm} {v : Value} {w : World} (h : St R wn Bs v w) (ht : Tw wn q Bs) (hq : q ≤ 998) (hl : (its Bs).length ≤ 998) :
    Calls Try.prog 55 #[.pointer (some ⟨R, 1, none⟩), .int .i64 ((q : Int) - 1)] w fun e w' => e = .returned (.tuple #[]) ∧ ∃ Bs', Mut R wn Bs v w Bs' w' ∧ its Bs' = its Bs ∧ Siz wn Bs' := by
  rcases ht with hs | ⟨A, x, C, rfl, rfl, hn, hr⟩
  · by_cases h0 : q = 0 ∨ Bs.length ≤ q
    · refine (join_out h ((q : Int) - 1) (by omega) (by omega)).mono ?_
      rintro e w' ⟨rfl, hb⟩
      exact ⟨rfl, Bs, .same h hb, rfl, hs⟩
    · have hi : (q - 1) + 1 < Bs.length := by omega
      have h9 := join_in h (q - 1) hi hl
      rw [show ((q - 1 : Nat) : Int) = (q : Int) - 1 by omega] at h9
      refine h9.mono ?_
      have h2 := hs.two (q - 1) hi
      rintro e w' ⟨rfl, hc | ⟨hc, _⟩⟩
      · exact ⟨rfl, Bs, .same h hc.2, rfl, hs⟩
      · omega
  · rcases List.eq_nil_or_concat A with rfl | ⟨A, p, rfl⟩
    · refine (join_out h (((0 : Nat) : Int) - 1) (.inl (by omega)) (by omega)).mono ?_
      rintro e w' ⟨rfl, hb⟩
      exact ⟨rfl, _, .same h hb, rfl, near_none hn trivial hr⟩
    · rw [List.concat_eq_append] at h hn hl ⊢
      have e9 : A ++ [p] ++ [x] ++ C = A ++ p :: x :: C := by simp
      rw [e9] at h hl ⊢
      have h9 := join_split h hl
      rw [show ((A ++ [p]).length : Int) - 1 = ((A.length : Nat) : Int) by simp]
      refine h9.mono ?_
      rintro e w' ⟨rfl, hc | ⟨hc, b, hb, hm⟩⟩
      · refine ⟨rfl, _, .same h hc.2, rfl, ?_⟩
        have h8 := near_none hn ((adj_end p x A).2 ⟨hn.a, hc.1⟩) hr
        rwa [e9] at h8
      · exact ⟨rfl, _, hm, its_join hb, near_prev hn hr hb hc⟩
set_option maxHeartbeats 16000000 in
set_option maxRecDepth 100000 in
theorem remove_any {R wn : Nat} {Bs : List Bkm} {v : Value} {w : World} (h : St R wn Bs v w) (hs : Siz wn Bs) (q i : Nat) (hq : q < Bs.length) (hi : i < (Bs[q]).xs.length) (hl : (its Bs).length ≤ 998) :
    Calls Try.prog 41 #[.pointer (some ⟨R, 1, none⟩), .agg #[.int .i64 q, .int .i64 i]] w fun e w' => e = .returned (.tuple #[]) ∧ ∃ Bs', Mut R wn Bs v w Bs' w' ∧ Siz wn Bs' ∧ its Bs' = (its Bs).take (cnt Bs q + i) ++ (its Bs).drop (cnt Bs q + i + 1) := by
  obtain ⟨g, c, ga, hv, ha, hgga, hgR, hgaR, hmc, _, hg, hga, k0, k1, zg, zga, hth⟩ := h.at q hq
  subst hv
  have hwd := h.wd
  have HST := hide h
  have HXL := hide (show (Bs[q]).xs.length ≤ 998 from by have := mem_len (List.getElem_mem hq); omega)
  have HBL := hide (show Bs.length ≤ 998 from by have := len_le h.one; omega)
  have HOWN := hide (show (Bs[q]).th.ownBlock = some ga from by unfold Bkm.th; rw [ha]; rfl)
  have HX1 := hide (h.one _ (List.getElem_mem hq))
  have HNEAR := hide (show ∀ b : Bkm, b.xs = (Bs[q]).xs.take i ++ (Bs[q]).xs.drop (i + 1) → 1 ≤ b.xs.length → Near wn (Bs.take q) b (Bs.drop (q + 1)) from fun b hb h1 => near_of hs q hq b (by rw [hb, List.length_append, List.length_take, List.length_drop]; omega) h1 (by omega))
  have HOUT := hide (show (Bs[q]).xs.length = 1 → Siz wn (Bs.take q ++ [] ++ Bs.drop (q + 1)) from fun e => siz_out hs q hq e)
  have HITS := hide (show ∀ M, its M = (Bs[q]).xs.take i ++ (Bs[q]).xs.drop (i + 1) → its (Bs.take q ++ M ++ Bs.drop (q + 1)) = (its Bs).take (cnt Bs q + i) ++ (its Bs).drop (cnt Bs q + i + 1) from fun M hM => its_del hq hi M hM)
  have HLIM := hide (show ((its Bs).take (cnt Bs q + i) ++ (its Bs).drop (cnt Bs q + i + 1)).length ≤ 998 from by rw [List.length_append, List.length_take, List.length_drop]; omega)
  obtain ⟨xs, hxs⟩ : ∃ xs, xs = (Bs[q]).xs := ⟨_, rfl⟩
  obtain ⟨cap, hcap⟩ : ∃ cap, cap = (Bs[q]).cap := ⟨_, rfl⟩
  rw [← hxs, ← hcap] at k0 hth
  rw [← hxs] at hi HXL HX1 HNEAR HOUT HITS
  obtain ⟨rest, hrest⟩ : ∃ rest, rest = (its Bs).take (cnt Bs q + i) ++ (its Bs).drop (cnt Bs q + i + 1) := ⟨_, rfl⟩
  rw [← hrest] at HITS HLIM ⊢
  obtain ⟨z, hz⟩ : ∃ z, z = xs.length := ⟨_, rfl⟩
  obtain ⟨m, hm⟩ : ∃ m, m = Bs.length := ⟨_, rfl⟩
  obtain ⟨l', hl'⟩ : ∃ l', l' = xs.take i ++ xs.drop (i + 1) := ⟨_, rfl⟩
  have hL' : l'.length = z - 1 := by rw [hl', List.length_append, List.length_take, List.length_drop]; omega
  rw [← hz] at k0 hi HXL HX1 HOUT
  rw [← hl'] at HNEAR HITS
  have HLD := hide hl'
  have HL' := hide hL'
  have hbw := below_alloc w (.cells #[.int .i64 q, .int .i64 i] 74)
  have hmd := (Md.of h (fun k => k = ga)).later hbw
  have HP := hide ((B2.new w (.int .i64 q) (.int .i64 i) 74 rfl).later (Below.refl _ _).drew)
  have HMD := hide (hmd.later (Below.refl _ _).drew)
  have HTH := hide (hth.later hbw.drew (Nat.le_refl _))
  have HGR := hide (h.row.later hbw.drew (Nat.le_refl _))
  have HLE := hide (show w.heap.size < (w.alloc (.cells #[.int .i64 q, .int .i64 i] 74)).drew.heap.size from by show w.heap.size < (w.alloc (.cells #[.int .i64 q, .int .i64 i] 74)).heap.size; simp)
  have HK0 := hide (cell_later hbw.drew k0)
  have HNE := hide (show g ≠ ga ∧ g ≠ R ∧ ga ≠ R ∧ g < w.heap.size ∧ ga < w.heap.size from ⟨hgga, hgR, hgaR, hg, hga⟩)
  have HZ := hide hz
  have HM := hide hm
  have HI := hide (show i < xs.length from by rw [← hz]; exact hi)
  have g1 : (q : Int) < (m : Int) := by omega
  have g9 : (i : Int) < (z : Int) := by omega
  have hwi : IntKind.i64.wrap ((i : Int) + 1) = (i : Int) + 1 := by have := HXL.out; rw [IntKind.wrap_i64]; omega
  have hwq : IntKind.i64.wrap ((q : Int) + 1) = (q : Int) + 1 := by have := HBL.out; rw [IntKind.wrap_i64]; omega
  have hwq2 : IntKind.i64.wrap ((q : Int) - 1) = (q : Int) - 1 := by have := HBL.out; rw [IntKind.wrap_i64]; omega
  have HS := hide (show (w.alloc (.cells #[.int .i64 q, .int .i64 i] 74)).drew.cell? ⟨R, 2, none⟩ = some (.slice (some ⟨g, 0, none⟩) m c) ∧ (w.alloc (.cells #[.int .i64 q, .int .i64 i] 74)).drew.cell? ⟨g, q * 2, none⟩ = some (.slice (some ⟨ga, 0, none⟩) z cap) ∧ (w.alloc (.cells #[.int .i64 q, .int .i64 i] 74)).drew.cell? ⟨w.heap.size, 0, none⟩ = some (.int .i64 q) ∧ (w.alloc (.cells #[.int .i64 q, .int .i64 i] 74)).drew.cell? ⟨w.heap.size, 1, none⟩ = some (.int .i64 i) from ⟨by have := HMD.out.c2; rwa [← hm] at this, HK0.out, HP.out.c0, HP.out.c1⟩)
  have HQ := hide hq
  clear hmd hbw hz hm hth k0 k1 zg zga hmc ha hg hga hgga hgR hgaR h hs hcap hxs hl' hL' hrest
  go_enter Try.func41, Try.ntmps41
  go_wp2_with fail
  refine wp_region_held_drew (S := fun u => u.cell? ⟨R, 2, none⟩ = some (.slice (some ⟨g, 0, none⟩) m c) ∧ u.cell? ⟨g, q * 2, none⟩ = some (.slice (some ⟨ga, 0, none⟩) z cap) ∧ u.cell? ⟨w.heap.size, 0, none⟩ = some (.int .i64 q) ∧ u.cell? ⟨w.heap.size, 1, none⟩ = some (.int .i64 i)) (by kernel_rfl) HS.out (fun hHeld => ?_)
  obtain ⟨wd, hwd9⟩ : ∃ wd, wd = (w.alloc (.cells #[.int .i64 q, .int .i64 i] 74)).drew := ⟨_, rfl⟩
  rw [← hwd9] at HS HP HMD HTH HGR HLE HK0 hHeld ⊢
  clear hwd9
  refine Man.t1 0 hHeld ?_
  (try simp only [Act.put, Mqa, Mqb, Mqc])
  refine Man.t1 1 hHeld ?_
  (try simp only [Act.put, Mqa, Mqb, Mqc])
  refine Man.t1 2 hHeld ?_
  (try simp only [Act.put, Mqa, Mqb, Mqc])
  refine Man.t1 3 hHeld ?_
  (try simp only [Act.put, Mqa, Mqb, Mqc])
  refine Man.t1 4 hHeld ?_
  (try simp only [Act.put, Mqa, Mqb, Mqc])
  refine Man.t1 5 hHeld ?_
  (try simp only [Act.put, Mqa, Mqb, Mqc])
  refine Man.t1 6 hHeld ?_
  (try simp only [Act.put, Mqa, Mqb, Mqc])
  refine Man.t1 7 hHeld ?_
  (try simp only [Act.put, Mqa, Mqb, Mqc])
  refine Man.t1 8 hHeld ?_
  (try simp only [Act.put, Mqa, Mqb, Mqc])
  refine Man.t1 9 hHeld ?_
  (try simp only [Act.put, Mqa, Mqb, Mqc])
  refine Man.t1 10 hHeld ?_
  (try simp only [Act.put, Mqa, Mqb, Mqc])
  refine Man.t1 11 hHeld ?_
  (try simp only [Act.put, Mqa, Mqb, Mqc])
  refine Man.t1 12 hHeld ?_
  (try simp only [Act.put, Mqa, Mqb, Mqc])
  refine Man.t1 13 hHeld ?_
  (try simp only [Act.put, Mqa, Mqb, Mqc])
  refine Man.one (i := 14) rfl (by kernel_rfl) (fun K9 hK => ?_)
  go_simp
  have hcall := delI_any (l := xs) (g := ga) (c := cap) (w := wd) HTH.out i HI.out (by rw [← HZ.out]; have := HXL.out; omega)
  rw [← HZ.out, ← HLD.out] at hcall
  with_reducible refine hcall.mono ?_
  clear hcall
  rintro e w2 ⟨rfl, hu, hgb⟩
  have HU := hide hu
  have HMD2 := hide (HMD.out.grown hgb (fun k hk => ⟨.inl (by cases hk; rfl), by cases hk; exact HNE.out.2.2.1⟩))
  have HP2 := hide (HP.out.kept hgb.size (hgb.block _ HP.out.lt (fun e9 => by have := Option.some.inj e9; have := HNE.out; omega)))
  have hkg : w2.heap[g]? = wd.heap[g]? := hgb.block g (HGR.out.lt g rfl).2 (fun e9 => by have := Option.some.inj e9; exact HNE.out.1 this)
  have HGR2 := hide (HGR.out.kept (fun g9 h9 => by have e9 : g = g9 := Option.some.inj h9; subst e9; exact hkg))
  have HK2 := hide (show w2.cell? ⟨g, q * 2, none⟩ = some (.slice (some ⟨ga, 0, none⟩) z cap) from by rw [World.cell?_of_block (a := ⟨g, q * 2, none⟩) hkg]; exact HK0.out)
  have HLE2 := hide (show w.heap.size < w2.heap.size from Nat.lt_of_lt_of_le HLE.out hgb.size)
  clear hu hgb hkg
  refine hK.out _ _ ⟨by have h9 := HMD2.out.c2; rwa [← HM.out] at h9, HK2.out, HP2.out.c0, HP2.out.c1⟩ (fun hNew => ?_)
  clear hK K9 hHeld
  have hHeld := hNew
  clear hNew
  (try simp only [Act.put, Mqa, Mqb, Mqc])
  refine Man.t1 15 hHeld ?_
  (try simp only [Act.put, Mqa, Mqb, Mqc])
  refine wpAnyH_done (by kernel_rfl) ?_ _
  clear HS HP HMD HTH HGR HK0 HLE hHeld HK2
  have HMD3 := hide (HMD2.out.later (Below.refl _ _).drew)
  have HP3 := hide (HP2.out.later (Below.refl _ _).drew)
  have HU3 := hide (HU.out.later (Below.refl w2.heap.size _).drew (Nat.le_refl _))
  have HGR3 := hide (HGR2.out.later (Below.refl w2.heap.size _).drew (Nat.le_refl _))
  have HMC := hide (show w2.drew.cell? ⟨R, 2, none⟩ = some (.slice (some ⟨g, 0, none⟩) m c) from by have h9 := HMD3.out.c2; rwa [← HM.out] at h9)
  have HLE3 := hide (show w.heap.size < w2.drew.heap.size from HLE2.out)
  by_cases hz1 : z = 1
  · have f2 : ((z - 1 : Nat) == 0) = true := by rw [hz1]; rfl
    have f3 : z - 1 = 0 := by omega
    have HZ1 := hide hz1
    rw [f3]
    clear hz1 f2 HMD2 HP2 HU HGR2
    go_wp2_with fail
    refine Mp.region (S := fun u => u.cell? ⟨R, 2, none⟩ = some (.slice (some ⟨g, 0, none⟩) m c) ∧ u.cell? ⟨w.heap.size, 0, none⟩ = some (.int .i64 q)) 13 (by kernel_rfl) ⟨HMC.out, HP3.out.c0⟩ (fun hHeld => ?_)
    obtain ⟨wd2, hwd2⟩ : ∃ wd2, wd2 = w2.drew := ⟨_, rfl⟩
    rw [← hwd2] at HMD3 HP3 HGR3 HMC HLE3 hHeld ⊢
    clear hwd2
    refine Mp.t1 0 hHeld ?_
    (try simp only [Act.put, Mqa, Mqb, Mqc])
    refine Mp.t1 1 hHeld ?_
    (try simp only [Act.put, Mqa, Mqb, Mqc])
    refine Mp.t1 2 hHeld ?_
    (try simp only [Act.put, Mqa, Mqb, Mqc])
    refine Mp.t1 3 hHeld ?_
    (try simp only [Act.put, Mqa, Mqb, Mqc])
    refine Mp.t1 4 hHeld ?_
    (try simp only [Act.put, Mqa, Mqb, Mqc])
    refine Mp.t1 5 hHeld ?_
    (try simp only [Act.put, Mqa, Mqb, Mqc])
    refine Mp.t1 6 hHeld ?_
    (try simp only [Act.put, Mqa, Mqb, Mqc])
    refine Mp.t1 7 hHeld ?_
    (try simp only [Act.put, Mqa, Mqb, Mqc])
    refine Mp.t1 8 hHeld ?_
    (try simp only [Act.put, Mqa, Mqb, Mqc])
    refine Mp.t1 9 hHeld ?_
    (try simp only [Act.put, Mqa, Mqb, Mqc])
    refine Mp.one (i := 10) rfl (by kernel_rfl) (fun K9 hK => ?_)
    go_simp
    have hcall := delB_any HGR3.out q HQ.out (by have := HBL.out; omega)
    rw [← HM.out] at hcall
    with_reducible refine hcall.mono ?_
    clear hcall
    rintro e w9 ⟨rfl, hu, hgb⟩
    have HU9 := hide hu
    have HMD9 := hide ((HMD3.out.mono (T' := fun k => k = ga ∨ k = g) (fun k h9 => .inl h9)).grown hgb (fun k hk => ⟨.inl (.inr (by cases hk; rfl)), by cases hk; exact HNE.out.2.1⟩))
    have HP9 := hide (HP3.out.kept hgb.size (hgb.block _ HP3.out.lt (fun e9 => by have := Option.some.inj e9; have := HNE.out; omega)))
    clear hu hgb
    refine hK.out _ _ ⟨by have h9 := HMD9.out.c2; rwa [← HM.out] at h9, HP9.out.c0⟩ (fun hNew => ?_)
    clear hK K9 hHeld
    have hHeld := hNew
    clear hNew
    have c2 := HMD9.out.c2
    rw [← HM.out] at c2
    have z2 := HMD9.out.z2
    (try simp only [Act.put, Mqa, Mqb, Mqc])
    refine Mp.t1 11 hHeld ?_
    (try simp only [Act.put, Mqa, Mqb, Mqc])
    refine Mp.t1 12 hHeld ?_
    (try simp only [Act.put, Mqa, Mqb, Mqc])
    refine Mp.last rfl (by kernel_rfl) (fun K9 hK => ?_)
    go_simp
    refine hK.out _ _ ?_
    clear hK K9 hHeld
    (try simp only [Act.put, Mqa, Mqb, Mqc])
    refine Mp.done (by kernel_rfl) ?_ _
    go_wp2_with fail
    refine bodyPost_ret (results_none rfl _ _ _) rfl ?_
    refine ⟨rfl, Bs.take q ++ [] ++ Bs.drop (q + 1), ?_, HOUT.out HZ1.out, HITS.out [] (by
      have h9 : l'.length = 0 := by rw [HL'.out, f3]
      rw [List.eq_nil_of_length_eq_zero h9]; rfl)⟩
    refine HMD9.out.lay HST.out (i := q) (j := q + 1) (M := []) (by omega) HQ.out (fun k hk => ?_) (by rw [List.append_nil]; exact HU9.out) (.inl rfl) (fun x hx => by cases hx) List.Pairwise.nil
    rcases hk with rfl | rfl
    · exact .inr (.inr ⟨q, HQ.out, Nat.le_refl _, by omega, HOWN.out⟩)
    · exact .inr (.inl rfl)
  · have f3 : ¬ z - 1 = 0 := by omega
    have f2 : ((z - 1 : Nat) == 0) = false := by rw [beq_eq_false_iff_ne]; exact f3
    have f4 : (((z - 1 : Nat) : Int) == 0) = false := by rw [beq_eq_false_iff_ne]; omega
    obtain ⟨zz, hzz⟩ : ∃ zz, zz = z - 1 := ⟨_, rfl⟩
    have hzz1 : 1 ≤ zz ∧ zz ≤ 998 := by have := HXL.out; omega
    rw [← hzz] at HL' HU3 f2 f3 f4 ⊢
    have hit := HU3.out.items
    rw [← HL'.out] at hit
    have CB := hide (block_any hit (by rw [HL'.out]; omega))
    rw [HL'.out] at CB
    clear hit hzz HMD2 HP2 HU HGR2
    go_wp2_with fail
    refine Mp.region (S := fun u => u.cell? ⟨R, 2, none⟩ = some (.slice (some ⟨g, 0, none⟩) m c) ∧ u.cell? ⟨w.heap.size, 0, none⟩ = some (.int .i64 q)) 9 (by kernel_rfl) ⟨HMC.out, HP3.out.c0⟩ (fun hHeld => ?_)
    obtain ⟨wd2, hwd2⟩ : ∃ wd2, wd2 = w2.drew := ⟨_, rfl⟩
    rw [← hwd2] at HMD3 HP3 HGR3 HU3 CB HMC HLE3 hHeld ⊢
    clear hwd2
    refine Mp.t1 0 hHeld ?_
    (try simp only [Act.put, Mqa, Mqb, Mqc])
    refine Mp.t1 1 hHeld ?_
    (try simp only [Act.put, Mqa, Mqb, Mqc])
    refine Mp.t1 2 hHeld ?_
    (try simp only [Act.put, Mqa, Mqb, Mqc])
    refine Mp.t1 3 hHeld ?_
    (try simp only [Act.put, Mqa, Mqb, Mqc])
    refine Mp.t1 4 hHeld ?_
    (try simp only [Act.put, Mqa, Mqb, Mqc])
    refine Mp.t1 5 hHeld ?_
    (try simp only [Act.put, Mqa, Mqb, Mqc])
    refine Mp.t1 6 hHeld ?_
    (try simp only [Act.put, Mqa, Mqb, Mqc])
    refine Mp.one (i := 7) rfl (by kernel_rfl) (fun K9 hK => ?_)
    go_simp
    with_reducible refine CB.out.mono ?_
    rintro e w5 ⟨rfl, hb⟩
    have HMD5 := hide (HMD3.out.later hb)
    have HR5 := hide (HU3.out.later hb (Nat.le_refl _))
    have HG5 := hide (HGR3.out.later hb (Nat.le_refl _))
    have HP5 := hide (HP3.out.later hb)
    have HM5 := hide (cell_later hb HMC.out)
    have HLE5 := hide (show w.heap.size < w5.heap.size from Nat.lt_of_lt_of_le HLE3.out hb.size)
    clear hb
    refine hK.out _ _ ⟨HM5.out, HP5.out.c0⟩ (fun hNew => ?_)
    clear hK K9 hHeld
    have hHeld := hNew
    clear hNew
    obtain ⟨b9, off9, c9, he9, _, r0, r1⟩ := HG5.out.blocks.at q HQ.out
    simp only [Value.slice.injEq, Option.some.injEq, Addr.mk.injEq, and_true, true_and] at he9
    obtain ⟨⟨rfl, rfl⟩, rfl⟩ := he9
    simp only [Nat.zero_add] at r0 r1
    have zr : ∀ j, w5.frozen? ⟨g, j, none⟩ = false := fun j => HG5.out.frozenAt j
    (try simp only [Act.put, Mqa, Mqb, Mqc])
    refine Mp.t1 8 hHeld ?_
    (try simp only [Act.put, Mqa, Mqb, Mqc])
    refine Mp.last rfl (by kernel_rfl) (fun K9 hK => ?_)
    go_simp
    refine hK.out _ _ ?_
    clear hK K9 hHeld
    (try simp only [Act.put, Mqa, Mqb, Mqc])
    refine Mp.done (by kernel_rfl) ?_ _
    have hfin := HMD5.out.put HST.out q HQ.out (fun k9 h9 => by rw [h9]; exact HOWN.out) HG5.out ⟨some ⟨ga, 0, none⟩, cap, l'⟩ (by show Row4 31 0 l' (.slice (some ⟨ga, 0, none⟩) l'.length cap) w5; rw [HL'.out]; exact HR5.out) (by show 1 ≤ l'.length; rw [HL'.out]; omega) ⟨ga, rfl, .inr HOWN.out⟩
    have e9 : (⟨some ⟨ga, 0, none⟩, cap, l'⟩ : Bkm).xs.length = zz := HL'.out
    rw [e9] at hfin
    obtain ⟨s6, hs6⟩ : ∃ s6, s6 = (w5.setCell ⟨g, q * 2, none⟩ (.slice (some ⟨ga, 0, none⟩) zz cap)).setCell ⟨g, q * 2 + 1, none⟩ (.int .i64 (maxE l')) := ⟨_, rfl⟩
    have hP6 : B2 (.int .i64 q) (.int .i64 i) w.heap.size s6 := by rw [hs6]; exact (HP5.out.other (by have := HNE.out; omega) _).other (by have := HNE.out; omega) _
    obtain ⟨b, hbd⟩ : ∃ b : Bkm, b = ⟨some ⟨ga, 0, none⟩, cap, l'⟩ := ⟨_, rfl⟩
    have hbx : b.xs = l' := by rw [hbd]
    have hfin2 : Mut R wn Bs (.slice (some ⟨g, 0, none⟩) Bs.length c) w (Bs.take q ++ [b] ++ Bs.drop (q + 1)) s6 := by rw [hbd, hs6]; exact hfin
    have hlt6 : w.heap.size < s6.heap.size := hP6.lt
    have hv6 : s6.cell? ⟨R, 2, none⟩ = some (.slice (some ⟨g, 0, none⟩) Bs.length c) := by rw [hs6]; exact cell_set_other (.inl (Ne.symm HNE.out.2.1)) (cell_set_other (.inl (Ne.symm HNE.out.2.1)) HMD5.out.c2)
    have hbo : b.th.ownBlock = some ga := by rw [hbd]; rfl
    obtain ⟨v1, hst1, hO1, hf1⟩ := hfin2
    have ev : v1 = .slice (some ⟨g, 0, none⟩) Bs.length c := by have := hst1.c2; rw [hv6] at this; exact (Option.some.inj this).symm
    have hfl : ∀ k, fp R (Bs.take q ++ [b] ++ Bs.drop (q + 1)) v1 k → k ≠ w.heap.size := fun k hk => by
      rcases hk with rfl | hk | ⟨x, hx, hk⟩
      · have := HST.out.lt; omega
      · rw [ev] at hk
        have := (HST.out.row.lt k hk).2
        omega
      · simp only [List.mem_append, List.mem_singleton] at hx
        rcases hx with (hx | hx) | hx
        · have := ((HST.out.th x (List.mem_of_mem_take hx)).lt k hk).2; omega
        · rw [hx, hbo] at hk
          have := Option.some.inj hk
          have := HNE.out
          omega
        · have := ((HST.out.th x (List.mem_of_mem_drop hx)).lt k hk).2; omega
    have HMUT := hide (show Mut R wn Bs (.slice (some ⟨g, 0, none⟩) Bs.length c) w (Bs.take q ++ [b] ++ Bs.drop (q + 1)) s6 from ⟨v1, hst1, hO1, hf1⟩)
    have HIT1 := hide (HITS.out [b] (by rw [its_one, hbx]))
    have hlen1 : (Bs.take q).length = q := by rw [List.length_take]; have := HQ.out; omega
    have hj1 := join_one hst1 (HNEAR.out b hbx (by rw [hbx, HL'.out]; omega)) (by omega) (by rw [HIT1.out]; exact HLIM.out)
    rw [hlen1] at hj1
    have J1 := hide hj1
    have HP6 := hide hP6
    have HFL := hide hfl
    have HST1 := hide hst1
    have p0 := hP6.c0
    rw [← hs6]
    have HVE := hide (show ∀ v', St R wn (Bs.take q ++ [b] ++ Bs.drop (q + 1)) v' s6 → v1 = v' from fun v' h' => by have h1 := hst1.c2; rw [h'.c2] at h1; exact (Option.some.inj h1).symm)
    clear hfin hj1 hs6 hP6 hbd hbx hlt6 hv6 hbo hst1 hO1 hf1 ev hfl hlen1 r0 r1 zr e9
    go_wp2_with fail
    refine J1.out.mono ?_
    rintro e s7 ⟨rfl, Bs2, hm2, hi2, ht2⟩
    have HM2 := hide hm2
    obtain ⟨v2, hst2, hO2, _⟩ := hm2
    have hP7 := HP6.out.kept hO2.size (hO2.block _ HP6.out.lt (fun e => HFL.out _ e rfl))
    have p7 := hP7.c0
    have J2 := hide (join_two hst2 ht2 (by have := HBL.out; have := HQ.out; omega) (by rw [hi2, HIT1.out]; exact HLIM.out))
    have HVE2 := hide (show ∀ v', St R wn Bs2 v' s7 → v2 = v' from fun v' h' => by have h1 := hst2.c2; rw [h'.c2] at h1; exact (Option.some.inj h1).symm)
    have HI2 := hide hi2
    clear hst2 hO2 hi2 ht2 hP7 p0
    go_wp2_with fail
    refine J2.out.mono ?_
    rintro e s8 ⟨rfl, Bs3, hm3, hi3, hs3⟩
    have HM3 := hide hm3
    have HI3 := hide hi3
    have HS3 := hide hs3
    clear hm3 hi3 hs3 p7
    go_wp2_with fail
    refine bodyPost_end (results_none rfl _ _ _) rfl ?_
    have hA1 : Mut R wn Bs (.slice (some ⟨g, 0, none⟩) Bs.length c) w Bs2 s7 := HMUT.out.trans (fun v' h' => by
      obtain rfl := HVE.out v' h'
      exact HM2.out)
    have hA2 : Mut R wn Bs (.slice (some ⟨g, 0, none⟩) Bs.length c) w Bs3 s8 := hA1.trans (fun v' h' => by
      obtain rfl := HVE2.out v' h'
      exact HM3.out)
    exact ⟨rfl, Bs3, hA2, HS3.out, HI3.out.trans (HI2.out.trans HIT1.out)⟩
end Idx
end Go.Proofs.Ytapdhelioecneaa
