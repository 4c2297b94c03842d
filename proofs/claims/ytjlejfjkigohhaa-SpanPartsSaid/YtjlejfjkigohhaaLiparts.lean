/- SpanParts: what is cut, and what meets, put together again, is the span; cut by itself nothing is left: for all spans. No other condition. -/
import Derived.Test.YtjlejfjkigohhaaIr
import Derived.Test.YtjlejfjkigohhaaIp
import Derived.Test.YtjlejfjkigohhaaFra
import Derived.WideKeyPair
import Derived.SizedLaws
namespace Go.Proofs.Ytjlejfjkigohhaa
open Go.ChangeShapes Go.WideShapes Go.ChangeAt Go.RowKit
open Go.ChangeMaps (open_string shut_string)
namespace LaSpanParts
open Spn
set_option maxHeartbeats 8000000 in
set_option maxRecDepth 100000 in
theorem walk (a b c d : Int) (w : World) :
    Calls Try.prog 9 #[.agg #[.int .i64 a, .int .i64 b], .agg #[.int .i64 c, .int .i64 d]] w fun x w' => x = .returned (.bool true) ∧ Below w.heap.size w w' := by
  by_cases hr : Right (a, b)
  · obtain ⟨m1, m2, is, hm⟩ := as_pair (meet (a, b) (c, d))
    have HPN := hide (show norm (cut (a, b) (c, d) ++ [(m1, m2)]) = [(a, b)] from by have := parts_norm (b := (c, d)) hr; rwa [hm] at this)
    have HPC := hide (show covB (cut (a, b) (c, d) ++ [(m1, m2)]) (a, b) = true from by have := parts_cov (a := (a, b)) (b := (c, d)); rwa [hm] at this)
    have HSELF := hide (cut_self hr)
    have HLN := hide (show (cut (a, b) (c, d)).length ≤ 2 from by rw [cut_eq]; exact rcut_len _ _)
    have CR := hide (fun w => right_yes hr w)
    have CM := hide (fun w => meet_v hm w)
    clear hr hm
    go_enter Try.func9, Try.ntmps9
    have HB0 := hide (bx2 w a b c d)
    go_wp2_with fail
    refine (CR.out _).mono ?_
    rintro e z1 ⟨rfl, hb⟩
    have HB1 := hide (HB0.out.later hb)
    clear HB0
    clear hb
    obtain ⟨a_0, a_1, _, _, a_l⟩ := HB1.out.get 1 rfl
    obtain ⟨b_0, b_1, _, _, b_l⟩ := HB1.out.get 0 rfl
    go_wp2_with fail
    refine (cut_any a b c d _).mono ?_
    rintro e z2 ⟨v, rfl, hrow, hb⟩
    have HB2 := hide (HB1.out.later hb)
    clear a_0 a_1 a_l b_0 b_1 b_l
    clear HB1
    have HS := hide hrow.spans
    obtain ⟨l, hl⟩ : ∃ l, l = cut (a, b) (c, d) := ⟨_, rfl⟩
    rw [← hl] at HS HLN HPN HPC
    clear hl hrow
    clear hb
    obtain ⟨a_0, a_1, _, _, a_l⟩ := HB2.out.get 1 rfl
    obtain ⟨b_0, b_1, _, _, b_l⟩ := HB2.out.get 0 rfl
    go_wp2_with fail
    refine (CM.out _).mono ?_
    rintro e z3 ⟨rfl, hb⟩
    have HB3 := hide (HB2.out.later hb)
    clear a_0 a_1 a_l b_0 b_1 b_l
    clear HB2
    have HS2 := hide (HS.out.later hb (Nat.le_refl _))
    clear HS
    clear hb
    go_wp2_with fail
    have HS3 := hide (HS2.out.later (below_alloc z3 (.cells #[.int .i64 m1, .int .i64 m2] 23)) (Nat.le_refl _))
    clear HS2
    have HX3 := hide (HB3.out.push m1 m2 (k := z3.heap.size) rfl)
    obtain ⟨B_m, hB_m⟩ : ∃ B_m, B_m = z3.heap.size := ⟨_, rfl⟩
    rw [← hB_m] at HX3 ⊢
    clear hB_m HB3
    obtain ⟨z, hz⟩ : ∃ z, z = (z3.alloc (.cells #[.int .i64 m1, .int .i64 m2] 23)).drew := ⟨_, rfl⟩
    have HZ := hide (show Bx w [(B_m, (m1, m2)), (w.heap.size + 1, (c, d)), (w.heap.size, (a, b))] z from by rw [hz]; exact HX3.out.later (Below.refl _ _).drew)
    have HS := hide (show SpansAt l v z from by rw [hz]; exact HS3.out.later (Below.refl _ _).drew (Nat.le_refl _))
    have CE := hide (show ∀ u, Below z.heap.size z u → u.cell? ⟨B_m, 0, none⟩ = some (.int .i64 m1) ∧ u.cell? ⟨B_m, 1, none⟩ = some (.int .i64 m2) from fun u hu => ⟨((HZ.out.get 0 rfl).both hu).c0, ((HZ.out.get 0 rfl).both hu).c1⟩)
    have CA := hide (show ∀ u, Below z.heap.size z u → u.cell? ⟨w.heap.size, 0, none⟩ = some (.int .i64 a) ∧ u.cell? ⟨w.heap.size, 1, none⟩ = some (.int .i64 b) from fun u hu => ⟨((HZ.out.get 2 rfl).both hu).c0, ((HZ.out.get 2 rfl).both hu).c1⟩)
    refine wp_region_held_drew (S := fun u => u.cell? ⟨B_m, 0, none⟩ = some (.int .i64 m1) ∧ u.cell? ⟨B_m, 1, none⟩ = some (.int .i64 m2)) (by kernel_rfl) (by rw [← hz]; exact CE.out z (Below.refl _ _)) (fun hHeld => ?_)
    rw [← hz] at hHeld ⊢
    clear hz HS3 HX3
    refine Man.t1 1 (by assumption) ?_
    (try simp only [Act.put, Mqa, Mqb, Mqc])
    refine Man.t1 3 (by assumption) ?_
    (try simp only [Act.put, Mqa, Mqb, Mqc])
    refine Man.two (i := 0) (j := 4) rfl rfl (by kernel_rfl) (fun K9 hK => ?_) (fun K9 hK => ?_)
    · go_simp
      obtain ⟨u1, hu1⟩ : ∃ u, u = z.alloc (.cells #[] 23) := ⟨_, rfl⟩
      have HB_u1 := hide (show Below z.heap.size z u1 from by rw [hu1]; exact (Below.refl z.heap.size z).trans ((below_alloc _ _).mono (Below.refl z.heap.size z).size))
      have HR_u1 := hide (show Row z.heap.size [] (.slice (some ⟨z.heap.size, 0, none⟩) 0 0) u1 from by rw [hu1]; exact row_none _ _ (Below.refl z.heap.size z).size rfl)
      rw [← hu1]
      clear hu1
      refine hK.out _ _ (CE.out _ HB_u1.out) (fun hNew => ?_)
      clear hK K9 hHeld
      have hHeld := hNew
      clear hNew
      (try simp only [Act.put, Mqa, Mqb, Mqc])
      refine Man.two (i := 2) (j := 4) rfl rfl (by kernel_rfl) (fun K9 hK => ?_) (fun K9 hK => ?_)
      · refine ite_go (by rfl) ?_
        refine oper_row (l := []) (m := l) _ _ rfl rfl rfl HR_u1.out (HS.out.later HB_u1.out (Nat.le_refl _)) (by have := HLN.out; simp; omega) HB_u1.out.size (fun r_u2 u2 hu hg hob => ?_)
        have HB_u2 := hide (Row.grownB HR_u1.out HB_u1.out HB_u1.out.size hg)
        have HR_u2 := hide hu
        clear hu hg hob
        refine hK.out _ _ (CE.out _ HB_u2.out) (fun hNew => ?_)
        clear hK K9 hHeld
        have hHeld := hNew
        clear hNew
        (try simp only [Act.put, Mqa, Mqb, Mqc])
        refine Man.one (i := 4) rfl (by kernel_rfl) (fun K9 hK => ?_)
        go_simp
        obtain ⟨u3, hu3⟩ : ∃ u, u = u2.alloc (.cells #[.int .i64 m1, .int .i64 m2] 23) := ⟨_, rfl⟩
        have HB_u3 := hide (show Below z.heap.size z u3 from by rw [hu3]; exact HB_u2.out.trans ((below_alloc _ _).mono HB_u2.out.size))
        have HM_u3 := hide (show SpansAt [(m1, m2)] (.slice (some ⟨u2.heap.size, 0, none⟩) 1 1) u3 from by rw [hu3]; exact one_at' _ m1 m2 rfl)
        have HQ_u3 := hide (show Below u2.heap.size u2 u3 from by rw [hu3]; exact below_alloc _ _)
        have HR_u3 := hide (HR_u2.out.later HQ_u3.out (Nat.le_refl _))
        rw [← hu3]
        clear hu3
        refine hK.out _ _ (CE.out _ HB_u3.out) (fun hNew => ?_)
        clear hK K9 hHeld
        have hHeld := hNew
        clear hNew
        (try simp only [Act.put, Mqa, Mqb, Mqc])
        refine Man.one (i := 5) rfl (by kernel_rfl) (fun K9 hK => ?_)
        refine ite_go (by rfl) ?_
        refine oper_row (l := [] ++ l) (m := [(m1, m2)]) _ _ rfl rfl rfl HR_u3.out HM_u3.out (by have := HLN.out; simp; omega) HB_u3.out.size (fun r9 u9 hu hg hob => ?_)
        have HB_u9 := hide (Row.grownB HR_u3.out HB_u3.out HB_u3.out.size hg)
        have HR9 := hide (show Row z.heap.size (l ++ [(m1, m2)]) r9 u9 from by simpa using hu)
        clear hu hg hob
        refine hK.out _ _ (CE.out _ HB_u9.out) (fun hNew => ?_)
        clear hK K9 hHeld
        have hHeld := hNew
        clear hNew
        (try simp only [Act.put, Mqa, Mqb, Mqc])
        refine Man.t1 6 (by assumption) ?_
        (try simp only [Act.put, Mqa, Mqb, Mqc])
        refine wpAnyH_done (by kernel_rfl) ?_ _
        go_wp2_with fail
        obtain ⟨y, hy⟩ : ∃ y, y = u9.drew := ⟨_, rfl⟩
        have HBy := hide (show Below z.heap.size z y from by rw [hy]; exact HB_u9.out.drew)
        have HRy := hide (show SpansAt (l ++ [(m1, m2)]) r9 y from by rw [hy]; exact HR9.out.spans.later (Below.refl _ _).drew (Nat.le_refl _))
        refine wp_region_held_drew (S := fun u => u.cell? ⟨w.heap.size, 0, none⟩ = some (.int .i64 a) ∧ u.cell? ⟨w.heap.size, 1, none⟩ = some (.int .i64 b)) (by kernel_rfl) (by rw [← hy]; exact CA.out y HBy.out) (fun hHeld => ?_)
        rw [← hy] at hHeld ⊢
        clear hy HR9 HB_u9
        refine Man.t1 0 (by assumption) ?_
        (try simp only [Act.put, Mqa, Mqb, Mqc])
        refine Man.t1 2 (by assumption) ?_
        (try simp only [Act.put, Mqa, Mqb, Mqc])
        refine Man.two (i := 1) (j := 3) rfl rfl (by kernel_rfl) (fun K9 hK => ?_) (fun K9 hK => ?_)
        · go_simp
          with_reducible refine (norm_any HRy.out (by have := HLN.out; simp; omega)).mono ?_
          rintro e y1 ⟨vn, rfl, hrow, hb⟩
          have HBy1 := hide (HBy.out.trans (hb.mono HBy.out.size))
          have HRy1 := hide (HRy.out.later hb (Nat.le_refl _))
          rw [HPN.out] at hrow
          have HN1 := hide hrow.spans
          clear hrow
          clear hb HBy HRy
          refine hK.out _ _ (CA.out _ HBy1.out) (fun hNew => ?_)
          clear hK K9 hHeld
          have hHeld := hNew
          clear hNew
          (try simp only [Act.put, Mqa, Mqb, Mqc])
          refine Man.one (i := 3) rfl (by kernel_rfl) (fun K9 hK => ?_)
          go_simp
          obtain ⟨y2, hy2⟩ : ∃ u, u = y1.alloc (.cells #[.int .i64 a, .int .i64 b] 23) := ⟨_, rfl⟩
          have HAy2 := hide (show SpansAt [(a, b)] (.slice (some ⟨y1.heap.size, 0, none⟩) 1 1) y2 from by rw [hy2]; exact one_at' _ a b rfl)
          have HQy2 := hide (show Below y1.heap.size y1 y2 from by rw [hy2]; exact below_alloc _ _)
          have HBy2 := hide (HBy1.out.trans (HQy2.out.mono HBy1.out.size))
          have HRy2 := hide (HRy1.out.later HQy2.out (Nat.le_refl _))
          have HN2 := hide (HN1.out.later HQy2.out (Nat.le_refl _))
          have HA2 := HAy2
          clear HN1 HAy2
          rw [← hy2]
          clear hy2 HBy1 HRy1 HQy2
          refine hK.out _ _ (CA.out _ HBy2.out) (fun hNew => ?_)
          clear hK K9 hHeld
          have hHeld := hNew
          clear hNew
          (try simp only [Act.put, Mqa, Mqb, Mqc])
          refine Man.one (i := 4) rfl (by kernel_rfl) (fun K9 hK => ?_)
          go_simp
          with_reducible refine (same_y HN2.out HA2.out (by simp)).mono ?_
          rintro e y3 ⟨rfl, hb⟩
          have HBy3 := hide (HBy2.out.trans (hb.mono HBy2.out.size))
          have HRy3 := hide (HRy2.out.later hb (Nat.le_refl _))
          clear HN2 HA2
          clear hb HBy2 HRy2
          refine hK.out _ _ (CA.out _ HBy3.out) (fun hNew => ?_)
          clear hK K9 hHeld
          have hHeld := hNew
          clear hNew
          (try simp only [Act.put, Mqa, Mqb, Mqc])
          refine Man.t1 5 (by assumption) ?_
          (try simp only [Act.put, Mqa, Mqb, Mqc])
          refine Man.t1 6 (by assumption) ?_
          (try simp only [Act.put, Mqa, Mqb, Mqc])
          refine Man.t1 7 (by assumption) ?_
          (try simp only [Act.put, Mqa, Mqb, Mqc])
          refine Man.one (i := 8) rfl (by kernel_rfl) (fun K9 hK => ?_)
          go_simp
          with_reducible refine (cut_any a b a b _).mono ?_
          rintro e y4 ⟨vs, rfl, hrow, hb⟩
          have HBy4 := hide (HBy3.out.trans (hb.mono HBy3.out.size))
          have HRy4 := hide (HRy3.out.later hb (Nat.le_refl _))
          rw [HSELF.out] at hrow
          obtain ⟨so, sp, rfl, _, _⟩ := hrow.form
          rw [show ([] : List Sp).length = 0 from rfl]
          clear hrow
          clear hb HBy3 HRy3
          refine hK.out _ _ (CA.out _ HBy4.out) (fun hNew => ?_)
          clear hK K9 hHeld
          have hHeld := hNew
          clear hNew
          (try simp only [Act.put, Mqa, Mqb, Mqc])
          refine Man.t1 9 (by assumption) ?_
          (try simp only [Act.put, Mqa, Mqb, Mqc])
          refine Man.t1 10 (by assumption) ?_
          (try simp only [Act.put, Mqa, Mqb, Mqc])
          refine Man.t1 11 (by assumption) ?_
          (try simp only [Act.put, Mqa, Mqb, Mqc])
          refine Man.t1 12 (by assumption) ?_
          (try simp only [Act.put, Mqa, Mqb, Mqc])
          refine Man.t1 13 (by assumption) ?_
          (try simp only [Act.put, Mqa, Mqb, Mqc])
          refine Man.t1 14 (by assumption) ?_
          (try simp only [Act.put, Mqa, Mqb, Mqc])
          refine Man.one (i := 15) rfl (by kernel_rfl) (fun K9 hK => ?_)
          go_simp
          with_reducible refine (covers_y HRy4.out (by have := HLN.out; simp; omega) HPC.out).mono ?_
          rintro e y5 ⟨rfl, hb⟩
          have HBy5 := hide (HBy4.out.trans (hb.mono HBy4.out.size))
          have HRy5 := hide (HRy4.out.later hb (Nat.le_refl _))
          clear hb HBy4 HRy4
          refine hK.out _ _ (CA.out _ HBy5.out) (fun hNew => ?_)
          clear hK K9 hHeld
          have hHeld := hNew
          clear hNew
          (try simp only [Act.put, Mqa, Mqb, Mqc])
          refine Man.t1 16 (by assumption) ?_
          (try simp only [Act.put, Mqa, Mqb, Mqc])
          refine Man.t1 17 (by assumption) ?_
          (try simp only [Act.put, Mqa, Mqb, Mqc])
          refine Man.one (i := 18) rfl (by kernel_rfl) (fun K9 hK => ?_)
          go_simp
          with_reducible refine (known_any _).mono ?_
          rintro e y6 ⟨rfl, hb⟩
          have HBy6 := hide (HBy5.out.trans (hb.mono HBy5.out.size))
          have HRy6 := hide (HRy5.out.later hb (Nat.le_refl _))
          clear hb HBy5 HRy5
          refine hK.out _ _ (CA.out _ HBy6.out) (fun hNew => ?_)
          clear hK K9 hHeld
          have hHeld := hNew
          clear hNew
          (try simp only [Act.put, Mqa, Mqb, Mqc])
          refine Man.t1 19 (by assumption) ?_
          (try simp only [Act.put, Mqa, Mqb, Mqc])
          refine Man.t1 20 (by assumption) ?_
          (try simp only [Act.put, Mqa, Mqb, Mqc])
          refine wpAnyH_done (by kernel_rfl) ?_ _
          go_wp2_with fail
          go_ret
          exact ⟨rfl, HZ.out.bel.trans (HBy6.out.mono HZ.out.bel.size)⟩
        · go_simp
          obtain ⟨y1, hy1⟩ : ∃ u, u = y.alloc (.cells #[.int .i64 a, .int .i64 b] 23) := ⟨_, rfl⟩
          have HAy1 := hide (show SpansAt [(a, b)] (.slice (some ⟨y.heap.size, 0, none⟩) 1 1) y1 from by rw [hy1]; exact one_at' _ a b rfl)
          have HQy1 := hide (show Below y.heap.size y y1 from by rw [hy1]; exact below_alloc _ _)
          have HBy1 := hide (HBy.out.trans (HQy1.out.mono HBy.out.size))
          have HRy1 := hide (HRy.out.later HQy1.out (Nat.le_refl _))
          rw [← hy1]
          clear hy1 HBy HRy HQy1
          refine hK.out _ _ (CA.out _ HBy1.out) (fun hNew => ?_)
          clear hK K9 hHeld
          have hHeld := hNew
          clear hNew
          (try simp only [Act.put, Mqa, Mqb, Mqc])
          refine Man.one (i := 1) rfl (by kernel_rfl) (fun K9 hK => ?_)
          go_simp
          with_reducible refine (norm_any HRy1.out (by have := HLN.out; simp; omega)).mono ?_
          rintro e y2 ⟨vn, rfl, hrow, hb⟩
          have HBy2 := hide (HBy1.out.trans (hb.mono HBy1.out.size))
          have HRy2 := hide (HRy1.out.later hb (Nat.le_refl _))
          rw [HPN.out] at hrow
          have HN2 := hide hrow.spans
          have HA2 := hide (HAy1.out.later hb (Nat.le_refl _))
          clear hrow HAy1
          clear hb HBy1 HRy1
          refine hK.out _ _ (CA.out _ HBy2.out) (fun hNew => ?_)
          clear hK K9 hHeld
          have hHeld := hNew
          clear hNew
          (try simp only [Act.put, Mqa, Mqb, Mqc])
          refine Man.one (i := 4) rfl (by kernel_rfl) (fun K9 hK => ?_)
          go_simp
          with_reducible refine (same_y HN2.out HA2.out (by simp)).mono ?_
          rintro e y3 ⟨rfl, hb⟩
          have HBy3 := hide (HBy2.out.trans (hb.mono HBy2.out.size))
          have HRy3 := hide (HRy2.out.later hb (Nat.le_refl _))
          clear HN2 HA2
          clear hb HBy2 HRy2
          refine hK.out _ _ (CA.out _ HBy3.out) (fun hNew => ?_)
          clear hK K9 hHeld
          have hHeld := hNew
          clear hNew
          (try simp only [Act.put, Mqa, Mqb, Mqc])
          refine Man.t1 5 (by assumption) ?_
          (try simp only [Act.put, Mqa, Mqb, Mqc])
          refine Man.t1 6 (by assumption) ?_
          (try simp only [Act.put, Mqa, Mqb, Mqc])
          refine Man.t1 7 (by assumption) ?_
          (try simp only [Act.put, Mqa, Mqb, Mqc])
          refine Man.one (i := 8) rfl (by kernel_rfl) (fun K9 hK => ?_)
          go_simp
          with_reducible refine (cut_any a b a b _).mono ?_
          rintro e y4 ⟨vs, rfl, hrow, hb⟩
          have HBy4 := hide (HBy3.out.trans (hb.mono HBy3.out.size))
          have HRy4 := hide (HRy3.out.later hb (Nat.le_refl _))
          rw [HSELF.out] at hrow
          obtain ⟨so, sp, rfl, _, _⟩ := hrow.form
          rw [show ([] : List Sp).length = 0 from rfl]
          clear hrow
          clear hb HBy3 HRy3
          refine hK.out _ _ (CA.out _ HBy4.out) (fun hNew => ?_)
          clear hK K9 hHeld
          have hHeld := hNew
          clear hNew
          (try simp only [Act.put, Mqa, Mqb, Mqc])
          refine Man.t1 9 (by assumption) ?_
          (try simp only [Act.put, Mqa, Mqb, Mqc])
          refine Man.t1 10 (by assumption) ?_
          (try simp only [Act.put, Mqa, Mqb, Mqc])
          refine Man.t1 11 (by assumption) ?_
          (try simp only [Act.put, Mqa, Mqb, Mqc])
          refine Man.t1 12 (by assumption) ?_
          (try simp only [Act.put, Mqa, Mqb, Mqc])
          refine Man.t1 13 (by assumption) ?_
          (try simp only [Act.put, Mqa, Mqb, Mqc])
          refine Man.t1 14 (by assumption) ?_
          (try simp only [Act.put, Mqa, Mqb, Mqc])
          refine Man.one (i := 15) rfl (by kernel_rfl) (fun K9 hK => ?_)
          go_simp
          with_reducible refine (covers_y HRy4.out (by have := HLN.out; simp; omega) HPC.out).mono ?_
          rintro e y5 ⟨rfl, hb⟩
          have HBy5 := hide (HBy4.out.trans (hb.mono HBy4.out.size))
          have HRy5 := hide (HRy4.out.later hb (Nat.le_refl _))
          clear hb HBy4 HRy4
          refine hK.out _ _ (CA.out _ HBy5.out) (fun hNew => ?_)
          clear hK K9 hHeld
          have hHeld := hNew
          clear hNew
          (try simp only [Act.put, Mqa, Mqb, Mqc])
          refine Man.t1 16 (by assumption) ?_
          (try simp only [Act.put, Mqa, Mqb, Mqc])
          refine Man.t1 17 (by assumption) ?_
          (try simp only [Act.put, Mqa, Mqb, Mqc])
          refine Man.one (i := 18) rfl (by kernel_rfl) (fun K9 hK => ?_)
          go_simp
          with_reducible refine (known_any _).mono ?_
          rintro e y6 ⟨rfl, hb⟩
          have HBy6 := hide (HBy5.out.trans (hb.mono HBy5.out.size))
          have HRy6 := hide (HRy5.out.later hb (Nat.le_refl _))
          clear hb HBy5 HRy5
          refine hK.out _ _ (CA.out _ HBy6.out) (fun hNew => ?_)
          clear hK K9 hHeld
          have hHeld := hNew
          clear hNew
          (try simp only [Act.put, Mqa, Mqb, Mqc])
          refine Man.t1 19 (by assumption) ?_
          (try simp only [Act.put, Mqa, Mqb, Mqc])
          refine Man.t1 20 (by assumption) ?_
          (try simp only [Act.put, Mqa, Mqb, Mqc])
          refine wpAnyH_done (by kernel_rfl) ?_ _
          go_wp2_with fail
          go_ret
          exact ⟨rfl, HZ.out.bel.trans (HBy6.out.mono HZ.out.bel.size)⟩
      · go_simp
        have hsz := hide (show u1.heap.size ≠ z.heap.size from by have := HR_u1.out.lt z.heap.size rfl; omega)
        obtain ⟨u2, hu2⟩ : ∃ u, u = u1.alloc (.cells #[.int .i64 m1, .int .i64 m2] 23) := ⟨_, rfl⟩
        have HB_u2 := hide (show Below z.heap.size z u2 from by rw [hu2]; exact HB_u1.out.trans ((below_alloc _ _).mono HB_u1.out.size))
        have HM_u2 := hide (show SpansAt [(m1, m2)] (.slice (some ⟨u1.heap.size, 0, none⟩) 1 1) u2 from by rw [hu2]; exact one_at' _ m1 m2 rfl)
        have HQ_u2 := hide (show Below u1.heap.size u1 u2 from by rw [hu2]; exact below_alloc _ _)
        have HR_u2 := hide (HR_u1.out.later HQ_u2.out (Nat.le_refl _))
        have hlt := hide (show u1.heap.size < u2.heap.size from by rw [hu2]; simp)
        rw [← hu2]
        clear hu2
        refine hK.out _ _ (CE.out _ HB_u2.out) (fun hNew => ?_)
        clear hK K9 hHeld
        have hHeld := hNew
        clear hNew
        (try simp only [Act.put, Mqa, Mqb, Mqc])
        refine Man.one (i := 2) rfl (by kernel_rfl) (fun K9 hK => ?_)
        refine ite_go (by rfl) ?_
        refine oper_row (l := []) (m := l) _ _ rfl rfl rfl HR_u2.out (HS.out.later HB_u2.out (Nat.le_refl _)) (by have := HLN.out; simp; omega) HB_u2.out.size (fun r_u3 u3 hu hg hob => ?_)
        have HB_u3 := hide (Row.grownB HR_u2.out HB_u2.out HB_u2.out.size hg)
        have HR_u3 := hide hu
        have HM_u3 := hide (HM_u2.out.grown hg hlt.out (fun e => hsz.out (Option.some.inj e).symm))
        clear hu hg hob
        refine hK.out _ _ (CE.out _ HB_u3.out) (fun hNew => ?_)
        clear hK K9 hHeld
        have hHeld := hNew
        clear hNew
        (try simp only [Act.put, Mqa, Mqb, Mqc])
        refine Man.one (i := 5) rfl (by kernel_rfl) (fun K9 hK => ?_)
        refine ite_go (by rfl) ?_
        refine oper_row (l := [] ++ l) (m := [(m1, m2)]) _ _ rfl rfl rfl HR_u3.out HM_u3.out (by have := HLN.out; simp; omega) HB_u3.out.size (fun r9 u9 hu hg hob => ?_)
        have HB_u9 := hide (Row.grownB HR_u3.out HB_u3.out HB_u3.out.size hg)
        have HR9 := hide (show Row z.heap.size (l ++ [(m1, m2)]) r9 u9 from by simpa using hu)
        clear hu hg hob
        refine hK.out _ _ (CE.out _ HB_u9.out) (fun hNew => ?_)
        clear hK K9 hHeld
        have hHeld := hNew
        clear hNew
        (try simp only [Act.put, Mqa, Mqb, Mqc])
        refine Man.t1 6 (by assumption) ?_
        (try simp only [Act.put, Mqa, Mqb, Mqc])
        refine wpAnyH_done (by kernel_rfl) ?_ _
        go_wp2_with fail
        obtain ⟨y, hy⟩ : ∃ y, y = u9.drew := ⟨_, rfl⟩
        have HBy := hide (show Below z.heap.size z y from by rw [hy]; exact HB_u9.out.drew)
        have HRy := hide (show SpansAt (l ++ [(m1, m2)]) r9 y from by rw [hy]; exact HR9.out.spans.later (Below.refl _ _).drew (Nat.le_refl _))
        refine wp_region_held_drew (S := fun u => u.cell? ⟨w.heap.size, 0, none⟩ = some (.int .i64 a) ∧ u.cell? ⟨w.heap.size, 1, none⟩ = some (.int .i64 b)) (by kernel_rfl) (by rw [← hy]; exact CA.out y HBy.out) (fun hHeld => ?_)
        rw [← hy] at hHeld ⊢
        clear hy HR9 HB_u9
        refine Man.t1 0 (by assumption) ?_
        (try simp only [Act.put, Mqa, Mqb, Mqc])
        refine Man.t1 2 (by assumption) ?_
        (try simp only [Act.put, Mqa, Mqb, Mqc])
        refine Man.two (i := 1) (j := 3) rfl rfl (by kernel_rfl) (fun K9 hK => ?_) (fun K9 hK => ?_)
        · go_simp
          with_reducible refine (norm_any HRy.out (by have := HLN.out; simp; omega)).mono ?_
          rintro e y1 ⟨vn, rfl, hrow, hb⟩
          have HBy1 := hide (HBy.out.trans (hb.mono HBy.out.size))
          have HRy1 := hide (HRy.out.later hb (Nat.le_refl _))
          rw [HPN.out] at hrow
          have HN1 := hide hrow.spans
          clear hrow
          clear hb HBy HRy
          refine hK.out _ _ (CA.out _ HBy1.out) (fun hNew => ?_)
          clear hK K9 hHeld
          have hHeld := hNew
          clear hNew
          (try simp only [Act.put, Mqa, Mqb, Mqc])
          refine Man.one (i := 3) rfl (by kernel_rfl) (fun K9 hK => ?_)
          go_simp
          obtain ⟨y2, hy2⟩ : ∃ u, u = y1.alloc (.cells #[.int .i64 a, .int .i64 b] 23) := ⟨_, rfl⟩
          have HAy2 := hide (show SpansAt [(a, b)] (.slice (some ⟨y1.heap.size, 0, none⟩) 1 1) y2 from by rw [hy2]; exact one_at' _ a b rfl)
          have HQy2 := hide (show Below y1.heap.size y1 y2 from by rw [hy2]; exact below_alloc _ _)
          have HBy2 := hide (HBy1.out.trans (HQy2.out.mono HBy1.out.size))
          have HRy2 := hide (HRy1.out.later HQy2.out (Nat.le_refl _))
          have HN2 := hide (HN1.out.later HQy2.out (Nat.le_refl _))
          have HA2 := HAy2
          clear HN1 HAy2
          rw [← hy2]
          clear hy2 HBy1 HRy1 HQy2
          refine hK.out _ _ (CA.out _ HBy2.out) (fun hNew => ?_)
          clear hK K9 hHeld
          have hHeld := hNew
          clear hNew
          (try simp only [Act.put, Mqa, Mqb, Mqc])
          refine Man.one (i := 4) rfl (by kernel_rfl) (fun K9 hK => ?_)
          go_simp
          with_reducible refine (same_y HN2.out HA2.out (by simp)).mono ?_
          rintro e y3 ⟨rfl, hb⟩
          have HBy3 := hide (HBy2.out.trans (hb.mono HBy2.out.size))
          have HRy3 := hide (HRy2.out.later hb (Nat.le_refl _))
          clear HN2 HA2
          clear hb HBy2 HRy2
          refine hK.out _ _ (CA.out _ HBy3.out) (fun hNew => ?_)
          clear hK K9 hHeld
          have hHeld := hNew
          clear hNew
          (try simp only [Act.put, Mqa, Mqb, Mqc])
          refine Man.t1 5 (by assumption) ?_
          (try simp only [Act.put, Mqa, Mqb, Mqc])
          refine Man.t1 6 (by assumption) ?_
          (try simp only [Act.put, Mqa, Mqb, Mqc])
          refine Man.t1 7 (by assumption) ?_
          (try simp only [Act.put, Mqa, Mqb, Mqc])
          refine Man.one (i := 8) rfl (by kernel_rfl) (fun K9 hK => ?_)
          go_simp
          with_reducible refine (cut_any a b a b _).mono ?_
          rintro e y4 ⟨vs, rfl, hrow, hb⟩
          have HBy4 := hide (HBy3.out.trans (hb.mono HBy3.out.size))
          have HRy4 := hide (HRy3.out.later hb (Nat.le_refl _))
          rw [HSELF.out] at hrow
          obtain ⟨so, sp, rfl, _, _⟩ := hrow.form
          rw [show ([] : List Sp).length = 0 from rfl]
          clear hrow
          clear hb HBy3 HRy3
          refine hK.out _ _ (CA.out _ HBy4.out) (fun hNew => ?_)
          clear hK K9 hHeld
          have hHeld := hNew
          clear hNew
          (try simp only [Act.put, Mqa, Mqb, Mqc])
          refine Man.t1 9 (by assumption) ?_
          (try simp only [Act.put, Mqa, Mqb, Mqc])
          refine Man.t1 10 (by assumption) ?_
          (try simp only [Act.put, Mqa, Mqb, Mqc])
          refine Man.t1 11 (by assumption) ?_
          (try simp only [Act.put, Mqa, Mqb, Mqc])
          refine Man.t1 12 (by assumption) ?_
          (try simp only [Act.put, Mqa, Mqb, Mqc])
          refine Man.t1 13 (by assumption) ?_
          (try simp only [Act.put, Mqa, Mqb, Mqc])
          refine Man.t1 14 (by assumption) ?_
          (try simp only [Act.put, Mqa, Mqb, Mqc])
          refine Man.one (i := 15) rfl (by kernel_rfl) (fun K9 hK => ?_)
          go_simp
          with_reducible refine (covers_y HRy4.out (by have := HLN.out; simp; omega) HPC.out).mono ?_
          rintro e y5 ⟨rfl, hb⟩
          have HBy5 := hide (HBy4.out.trans (hb.mono HBy4.out.size))
          have HRy5 := hide (HRy4.out.later hb (Nat.le_refl _))
          clear hb HBy4 HRy4
          refine hK.out _ _ (CA.out _ HBy5.out) (fun hNew => ?_)
          clear hK K9 hHeld
          have hHeld := hNew
          clear hNew
          (try simp only [Act.put, Mqa, Mqb, Mqc])
          refine Man.t1 16 (by assumption) ?_
          (try simp only [Act.put, Mqa, Mqb, Mqc])
          refine Man.t1 17 (by assumption) ?_
          (try simp only [Act.put, Mqa, Mqb, Mqc])
          refine Man.one (i := 18) rfl (by kernel_rfl) (fun K9 hK => ?_)
          go_simp
          with_reducible refine (known_any _).mono ?_
          rintro e y6 ⟨rfl, hb⟩
          have HBy6 := hide (HBy5.out.trans (hb.mono HBy5.out.size))
          have HRy6 := hide (HRy5.out.later hb (Nat.le_refl _))
          clear hb HBy5 HRy5
          refine hK.out _ _ (CA.out _ HBy6.out) (fun hNew => ?_)
          clear hK K9 hHeld
          have hHeld := hNew
          clear hNew
          (try simp only [Act.put, Mqa, Mqb, Mqc])
          refine Man.t1 19 (by assumption) ?_
          (try simp only [Act.put, Mqa, Mqb, Mqc])
          refine Man.t1 20 (by assumption) ?_
          (try simp only [Act.put, Mqa, Mqb, Mqc])
          refine wpAnyH_done (by kernel_rfl) ?_ _
          go_wp2_with fail
          go_ret
          exact ⟨rfl, HZ.out.bel.trans (HBy6.out.mono HZ.out.bel.size)⟩
        · go_simp
          obtain ⟨y1, hy1⟩ : ∃ u, u = y.alloc (.cells #[.int .i64 a, .int .i64 b] 23) := ⟨_, rfl⟩
          have HAy1 := hide (show SpansAt [(a, b)] (.slice (some ⟨y.heap.size, 0, none⟩) 1 1) y1 from by rw [hy1]; exact one_at' _ a b rfl)
          have HQy1 := hide (show Below y.heap.size y y1 from by rw [hy1]; exact below_alloc _ _)
          have HBy1 := hide (HBy.out.trans (HQy1.out.mono HBy.out.size))
          have HRy1 := hide (HRy.out.later HQy1.out (Nat.le_refl _))
          rw [← hy1]
          clear hy1 HBy HRy HQy1
          refine hK.out _ _ (CA.out _ HBy1.out) (fun hNew => ?_)
          clear hK K9 hHeld
          have hHeld := hNew
          clear hNew
          (try simp only [Act.put, Mqa, Mqb, Mqc])
          refine Man.one (i := 1) rfl (by kernel_rfl) (fun K9 hK => ?_)
          go_simp
          with_reducible refine (norm_any HRy1.out (by have := HLN.out; simp; omega)).mono ?_
          rintro e y2 ⟨vn, rfl, hrow, hb⟩
          have HBy2 := hide (HBy1.out.trans (hb.mono HBy1.out.size))
          have HRy2 := hide (HRy1.out.later hb (Nat.le_refl _))
          rw [HPN.out] at hrow
          have HN2 := hide hrow.spans
          have HA2 := hide (HAy1.out.later hb (Nat.le_refl _))
          clear hrow HAy1
          clear hb HBy1 HRy1
          refine hK.out _ _ (CA.out _ HBy2.out) (fun hNew => ?_)
          clear hK K9 hHeld
          have hHeld := hNew
          clear hNew
          (try simp only [Act.put, Mqa, Mqb, Mqc])
          refine Man.one (i := 4) rfl (by kernel_rfl) (fun K9 hK => ?_)
          go_simp
          with_reducible refine (same_y HN2.out HA2.out (by simp)).mono ?_
          rintro e y3 ⟨rfl, hb⟩
          have HBy3 := hide (HBy2.out.trans (hb.mono HBy2.out.size))
          have HRy3 := hide (HRy2.out.later hb (Nat.le_refl _))
          clear HN2 HA2
          clear hb HBy2 HRy2
          refine hK.out _ _ (CA.out _ HBy3.out) (fun hNew => ?_)
          clear hK K9 hHeld
          have hHeld := hNew
          clear hNew
          (try simp only [Act.put, Mqa, Mqb, Mqc])
          refine Man.t1 5 (by assumption) ?_
          (try simp only [Act.put, Mqa, Mqb, Mqc])
          refine Man.t1 6 (by assumption) ?_
          (try simp only [Act.put, Mqa, Mqb, Mqc])
          refine Man.t1 7 (by assumption) ?_
          (try simp only [Act.put, Mqa, Mqb, Mqc])
          refine Man.one (i := 8) rfl (by kernel_rfl) (fun K9 hK => ?_)
          go_simp
          with_reducible refine (cut_any a b a b _).mono ?_
          rintro e y4 ⟨vs, rfl, hrow, hb⟩
          have HBy4 := hide (HBy3.out.trans (hb.mono HBy3.out.size))
          have HRy4 := hide (HRy3.out.later hb (Nat.le_refl _))
          rw [HSELF.out] at hrow
          obtain ⟨so, sp, rfl, _, _⟩ := hrow.form
          rw [show ([] : List Sp).length = 0 from rfl]
          clear hrow
          clear hb HBy3 HRy3
          refine hK.out _ _ (CA.out _ HBy4.out) (fun hNew => ?_)
          clear hK K9 hHeld
          have hHeld := hNew
          clear hNew
          (try simp only [Act.put, Mqa, Mqb, Mqc])
          refine Man.t1 9 (by assumption) ?_
          (try simp only [Act.put, Mqa, Mqb, Mqc])
          refine Man.t1 10 (by assumption) ?_
          (try simp only [Act.put, Mqa, Mqb, Mqc])
          refine Man.t1 11 (by assumption) ?_
          (try simp only [Act.put, Mqa, Mqb, Mqc])
          refine Man.t1 12 (by assumption) ?_
          (try simp only [Act.put, Mqa, Mqb, Mqc])
          refine Man.t1 13 (by assumption) ?_
          (try simp only [Act.put, Mqa, Mqb, Mqc])
          refine Man.t1 14 (by assumption) ?_
          (try simp only [Act.put, Mqa, Mqb, Mqc])
          refine Man.one (i := 15) rfl (by kernel_rfl) (fun K9 hK => ?_)
          go_simp
          with_reducible refine (covers_y HRy4.out (by have := HLN.out; simp; omega) HPC.out).mono ?_
          rintro e y5 ⟨rfl, hb⟩
          have HBy5 := hide (HBy4.out.trans (hb.mono HBy4.out.size))
          have HRy5 := hide (HRy4.out.later hb (Nat.le_refl _))
          clear hb HBy4 HRy4
          refine hK.out _ _ (CA.out _ HBy5.out) (fun hNew => ?_)
          clear hK K9 hHeld
          have hHeld := hNew
          clear hNew
          (try simp only [Act.put, Mqa, Mqb, Mqc])
          refine Man.t1 16 (by assumption) ?_
          (try simp only [Act.put, Mqa, Mqb, Mqc])
          refine Man.t1 17 (by assumption) ?_
          (try simp only [Act.put, Mqa, Mqb, Mqc])
          refine Man.one (i := 18) rfl (by kernel_rfl) (fun K9 hK => ?_)
          go_simp
          with_reducible refine (known_any _).mono ?_
          rintro e y6 ⟨rfl, hb⟩
          have HBy6 := hide (HBy5.out.trans (hb.mono HBy5.out.size))
          have HRy6 := hide (HRy5.out.later hb (Nat.le_refl _))
          clear hb HBy5 HRy5
          refine hK.out _ _ (CA.out _ HBy6.out) (fun hNew => ?_)
          clear hK K9 hHeld
          have hHeld := hNew
          clear hNew
          (try simp only [Act.put, Mqa, Mqb, Mqc])
          refine Man.t1 19 (by assumption) ?_
          (try simp only [Act.put, Mqa, Mqb, Mqc])
          refine Man.t1 20 (by assumption) ?_
          (try simp only [Act.put, Mqa, Mqb, Mqc])
          refine wpAnyH_done (by kernel_rfl) ?_ _
          go_wp2_with fail
          go_ret
          exact ⟨rfl, HZ.out.bel.trans (HBy6.out.mono HZ.out.bel.size)⟩
    · go_simp
      obtain ⟨u1, hu1⟩ : ∃ u, u = z.alloc (.cells #[.int .i64 m1, .int .i64 m2] 23) := ⟨_, rfl⟩
      have HB_u1 := hide (show Below z.heap.size z u1 from by rw [hu1]; exact (Below.refl z.heap.size z).trans ((below_alloc _ _).mono (Below.refl z.heap.size z).size))
      have HM_u1 := hide (show SpansAt [(m1, m2)] (.slice (some ⟨z.heap.size, 0, none⟩) 1 1) u1 from by rw [hu1]; exact one_at' _ m1 m2 rfl)
      have HQ_u1 := hide (show Below z.heap.size z u1 from by rw [hu1]; exact below_alloc _ _)
      have hlt := hide (show z.heap.size < u1.heap.size from by rw [hu1]; simp)
      rw [← hu1]
      clear hu1
      refine hK.out _ _ (CE.out _ HB_u1.out) (fun hNew => ?_)
      clear hK K9 hHeld
      have hHeld := hNew
      clear hNew
      (try simp only [Act.put, Mqa, Mqb, Mqc])
      refine Man.one (i := 0) rfl (by kernel_rfl) (fun K9 hK => ?_)
      go_simp
      obtain ⟨u2, hu2⟩ : ∃ u, u = u1.alloc (.cells #[] 23) := ⟨_, rfl⟩
      have HB_u2 := hide (show Below z.heap.size z u2 from by rw [hu2]; exact HB_u1.out.trans ((below_alloc _ _).mono HB_u1.out.size))
      have HR_u2 := hide (show Row z.heap.size [] (.slice (some ⟨u1.heap.size, 0, none⟩) 0 0) u2 from by rw [hu2]; exact row_none _ _ HB_u1.out.size rfl)
      have HM_u2 := hide (show SpansAt [(m1, m2)] (.slice (some ⟨z.heap.size, 0, none⟩) 1 1) u2 from by rw [hu2]; exact HM_u1.out.later (below_alloc _ _) (Nat.le_refl _))
      have hlt2 := hide (show z.heap.size < u2.heap.size from Nat.lt_of_lt_of_le hlt.out (by rw [hu2]; simp))
      rw [← hu2]
      clear hu2
      refine hK.out _ _ (CE.out _ HB_u2.out) (fun hNew => ?_)
      clear hK K9 hHeld
      have hHeld := hNew
      clear hNew
      (try simp only [Act.put, Mqa, Mqb, Mqc])
      refine Man.one (i := 2) rfl (by kernel_rfl) (fun K9 hK => ?_)
      refine ite_go (by rfl) ?_
      refine oper_row (l := []) (m := l) _ _ rfl rfl rfl HR_u2.out (HS.out.later HB_u2.out (Nat.le_refl _)) (by have := HLN.out; simp; omega) HB_u2.out.size (fun r_u3 u3 hu hg hob => ?_)
      have HB_u3 := hide (Row.grownB HR_u2.out HB_u2.out HB_u2.out.size hg)
      have HR_u3 := hide hu
      have HM_u3 := hide (HM_u2.out.grown hg hlt2.out (fun e => by have := hlt.out; have e9 : u1.heap.size = z.heap.size := Option.some.inj e; omega))
      clear hu hg hob
      refine hK.out _ _ (CE.out _ HB_u3.out) (fun hNew => ?_)
      clear hK K9 hHeld
      have hHeld := hNew
      clear hNew
      (try simp only [Act.put, Mqa, Mqb, Mqc])
      refine Man.one (i := 5) rfl (by kernel_rfl) (fun K9 hK => ?_)
      refine ite_go (by rfl) ?_
      refine oper_row (l := [] ++ l) (m := [(m1, m2)]) _ _ rfl rfl rfl HR_u3.out HM_u3.out (by have := HLN.out; simp; omega) HB_u3.out.size (fun r9 u9 hu hg hob => ?_)
      have HB_u9 := hide (Row.grownB HR_u3.out HB_u3.out HB_u3.out.size hg)
      have HR9 := hide (show Row z.heap.size (l ++ [(m1, m2)]) r9 u9 from by simpa using hu)
      clear hu hg hob
      refine hK.out _ _ (CE.out _ HB_u9.out) (fun hNew => ?_)
      clear hK K9 hHeld
      have hHeld := hNew
      clear hNew
      (try simp only [Act.put, Mqa, Mqb, Mqc])
      refine Man.t1 6 (by assumption) ?_
      (try simp only [Act.put, Mqa, Mqb, Mqc])
      refine wpAnyH_done (by kernel_rfl) ?_ _
      go_wp2_with fail
      obtain ⟨y, hy⟩ : ∃ y, y = u9.drew := ⟨_, rfl⟩
      have HBy := hide (show Below z.heap.size z y from by rw [hy]; exact HB_u9.out.drew)
      have HRy := hide (show SpansAt (l ++ [(m1, m2)]) r9 y from by rw [hy]; exact HR9.out.spans.later (Below.refl _ _).drew (Nat.le_refl _))
      refine wp_region_held_drew (S := fun u => u.cell? ⟨w.heap.size, 0, none⟩ = some (.int .i64 a) ∧ u.cell? ⟨w.heap.size, 1, none⟩ = some (.int .i64 b)) (by kernel_rfl) (by rw [← hy]; exact CA.out y HBy.out) (fun hHeld => ?_)
      rw [← hy] at hHeld ⊢
      clear hy HR9 HB_u9
      refine Man.t1 0 (by assumption) ?_
      (try simp only [Act.put, Mqa, Mqb, Mqc])
      refine Man.t1 2 (by assumption) ?_
      (try simp only [Act.put, Mqa, Mqb, Mqc])
      refine Man.two (i := 1) (j := 3) rfl rfl (by kernel_rfl) (fun K9 hK => ?_) (fun K9 hK => ?_)
      · go_simp
        with_reducible refine (norm_any HRy.out (by have := HLN.out; simp; omega)).mono ?_
        rintro e y1 ⟨vn, rfl, hrow, hb⟩
        have HBy1 := hide (HBy.out.trans (hb.mono HBy.out.size))
        have HRy1 := hide (HRy.out.later hb (Nat.le_refl _))
        rw [HPN.out] at hrow
        have HN1 := hide hrow.spans
        clear hrow
        clear hb HBy HRy
        refine hK.out _ _ (CA.out _ HBy1.out) (fun hNew => ?_)
        clear hK K9 hHeld
        have hHeld := hNew
        clear hNew
        (try simp only [Act.put, Mqa, Mqb, Mqc])
        refine Man.one (i := 3) rfl (by kernel_rfl) (fun K9 hK => ?_)
        go_simp
        obtain ⟨y2, hy2⟩ : ∃ u, u = y1.alloc (.cells #[.int .i64 a, .int .i64 b] 23) := ⟨_, rfl⟩
        have HAy2 := hide (show SpansAt [(a, b)] (.slice (some ⟨y1.heap.size, 0, none⟩) 1 1) y2 from by rw [hy2]; exact one_at' _ a b rfl)
        have HQy2 := hide (show Below y1.heap.size y1 y2 from by rw [hy2]; exact below_alloc _ _)
        have HBy2 := hide (HBy1.out.trans (HQy2.out.mono HBy1.out.size))
        have HRy2 := hide (HRy1.out.later HQy2.out (Nat.le_refl _))
        have HN2 := hide (HN1.out.later HQy2.out (Nat.le_refl _))
        have HA2 := HAy2
        clear HN1 HAy2
        rw [← hy2]
        clear hy2 HBy1 HRy1 HQy2
        refine hK.out _ _ (CA.out _ HBy2.out) (fun hNew => ?_)
        clear hK K9 hHeld
        have hHeld := hNew
        clear hNew
        (try simp only [Act.put, Mqa, Mqb, Mqc])
        refine Man.one (i := 4) rfl (by kernel_rfl) (fun K9 hK => ?_)
        go_simp
        with_reducible refine (same_y HN2.out HA2.out (by simp)).mono ?_
        rintro e y3 ⟨rfl, hb⟩
        have HBy3 := hide (HBy2.out.trans (hb.mono HBy2.out.size))
        have HRy3 := hide (HRy2.out.later hb (Nat.le_refl _))
        clear HN2 HA2
        clear hb HBy2 HRy2
        refine hK.out _ _ (CA.out _ HBy3.out) (fun hNew => ?_)
        clear hK K9 hHeld
        have hHeld := hNew
        clear hNew
        (try simp only [Act.put, Mqa, Mqb, Mqc])
        refine Man.t1 5 (by assumption) ?_
        (try simp only [Act.put, Mqa, Mqb, Mqc])
        refine Man.t1 6 (by assumption) ?_
        (try simp only [Act.put, Mqa, Mqb, Mqc])
        refine Man.t1 7 (by assumption) ?_
        (try simp only [Act.put, Mqa, Mqb, Mqc])
        refine Man.one (i := 8) rfl (by kernel_rfl) (fun K9 hK => ?_)
        go_simp
        with_reducible refine (cut_any a b a b _).mono ?_
        rintro e y4 ⟨vs, rfl, hrow, hb⟩
        have HBy4 := hide (HBy3.out.trans (hb.mono HBy3.out.size))
        have HRy4 := hide (HRy3.out.later hb (Nat.le_refl _))
        rw [HSELF.out] at hrow
        obtain ⟨so, sp, rfl, _, _⟩ := hrow.form
        rw [show ([] : List Sp).length = 0 from rfl]
        clear hrow
        clear hb HBy3 HRy3
        refine hK.out _ _ (CA.out _ HBy4.out) (fun hNew => ?_)
        clear hK K9 hHeld
        have hHeld := hNew
        clear hNew
        (try simp only [Act.put, Mqa, Mqb, Mqc])
        refine Man.t1 9 (by assumption) ?_
        (try simp only [Act.put, Mqa, Mqb, Mqc])
        refine Man.t1 10 (by assumption) ?_
        (try simp only [Act.put, Mqa, Mqb, Mqc])
        refine Man.t1 11 (by assumption) ?_
        (try simp only [Act.put, Mqa, Mqb, Mqc])
        refine Man.t1 12 (by assumption) ?_
        (try simp only [Act.put, Mqa, Mqb, Mqc])
        refine Man.t1 13 (by assumption) ?_
        (try simp only [Act.put, Mqa, Mqb, Mqc])
        refine Man.t1 14 (by assumption) ?_
        (try simp only [Act.put, Mqa, Mqb, Mqc])
        refine Man.one (i := 15) rfl (by kernel_rfl) (fun K9 hK => ?_)
        go_simp
        with_reducible refine (covers_y HRy4.out (by have := HLN.out; simp; omega) HPC.out).mono ?_
        rintro e y5 ⟨rfl, hb⟩
        have HBy5 := hide (HBy4.out.trans (hb.mono HBy4.out.size))
        have HRy5 := hide (HRy4.out.later hb (Nat.le_refl _))
        clear hb HBy4 HRy4
        refine hK.out _ _ (CA.out _ HBy5.out) (fun hNew => ?_)
        clear hK K9 hHeld
        have hHeld := hNew
        clear hNew
        (try simp only [Act.put, Mqa, Mqb, Mqc])
        refine Man.t1 16 (by assumption) ?_
        (try simp only [Act.put, Mqa, Mqb, Mqc])
        refine Man.t1 17 (by assumption) ?_
        (try simp only [Act.put, Mqa, Mqb, Mqc])
        refine Man.one (i := 18) rfl (by kernel_rfl) (fun K9 hK => ?_)
        go_simp
        with_reducible refine (known_any _).mono ?_
        rintro e y6 ⟨rfl, hb⟩
        have HBy6 := hide (HBy5.out.trans (hb.mono HBy5.out.size))
        have HRy6 := hide (HRy5.out.later hb (Nat.le_refl _))
        clear hb HBy5 HRy5
        refine hK.out _ _ (CA.out _ HBy6.out) (fun hNew => ?_)
        clear hK K9 hHeld
        have hHeld := hNew
        clear hNew
        (try simp only [Act.put, Mqa, Mqb, Mqc])
        refine Man.t1 19 (by assumption) ?_
        (try simp only [Act.put, Mqa, Mqb, Mqc])
        refine Man.t1 20 (by assumption) ?_
        (try simp only [Act.put, Mqa, Mqb, Mqc])
        refine wpAnyH_done (by kernel_rfl) ?_ _
        go_wp2_with fail
        go_ret
        exact ⟨rfl, HZ.out.bel.trans (HBy6.out.mono HZ.out.bel.size)⟩
      · go_simp
        obtain ⟨y1, hy1⟩ : ∃ u, u = y.alloc (.cells #[.int .i64 a, .int .i64 b] 23) := ⟨_, rfl⟩
        have HAy1 := hide (show SpansAt [(a, b)] (.slice (some ⟨y.heap.size, 0, none⟩) 1 1) y1 from by rw [hy1]; exact one_at' _ a b rfl)
        have HQy1 := hide (show Below y.heap.size y y1 from by rw [hy1]; exact below_alloc _ _)
        have HBy1 := hide (HBy.out.trans (HQy1.out.mono HBy.out.size))
        have HRy1 := hide (HRy.out.later HQy1.out (Nat.le_refl _))
        rw [← hy1]
        clear hy1 HBy HRy HQy1
        refine hK.out _ _ (CA.out _ HBy1.out) (fun hNew => ?_)
        clear hK K9 hHeld
        have hHeld := hNew
        clear hNew
        (try simp only [Act.put, Mqa, Mqb, Mqc])
        refine Man.one (i := 1) rfl (by kernel_rfl) (fun K9 hK => ?_)
        go_simp
        with_reducible refine (norm_any HRy1.out (by have := HLN.out; simp; omega)).mono ?_
        rintro e y2 ⟨vn, rfl, hrow, hb⟩
        have HBy2 := hide (HBy1.out.trans (hb.mono HBy1.out.size))
        have HRy2 := hide (HRy1.out.later hb (Nat.le_refl _))
        rw [HPN.out] at hrow
        have HN2 := hide hrow.spans
        have HA2 := hide (HAy1.out.later hb (Nat.le_refl _))
        clear hrow HAy1
        clear hb HBy1 HRy1
        refine hK.out _ _ (CA.out _ HBy2.out) (fun hNew => ?_)
        clear hK K9 hHeld
        have hHeld := hNew
        clear hNew
        (try simp only [Act.put, Mqa, Mqb, Mqc])
        refine Man.one (i := 4) rfl (by kernel_rfl) (fun K9 hK => ?_)
        go_simp
        with_reducible refine (same_y HN2.out HA2.out (by simp)).mono ?_
        rintro e y3 ⟨rfl, hb⟩
        have HBy3 := hide (HBy2.out.trans (hb.mono HBy2.out.size))
        have HRy3 := hide (HRy2.out.later hb (Nat.le_refl _))
        clear HN2 HA2
        clear hb HBy2 HRy2
        refine hK.out _ _ (CA.out _ HBy3.out) (fun hNew => ?_)
        clear hK K9 hHeld
        have hHeld := hNew
        clear hNew
        (try simp only [Act.put, Mqa, Mqb, Mqc])
        refine Man.t1 5 (by assumption) ?_
        (try simp only [Act.put, Mqa, Mqb, Mqc])
        refine Man.t1 6 (by assumption) ?_
        (try simp only [Act.put, Mqa, Mqb, Mqc])
        refine Man.t1 7 (by assumption) ?_
        (try simp only [Act.put, Mqa, Mqb, Mqc])
        refine Man.one (i := 8) rfl (by kernel_rfl) (fun K9 hK => ?_)
        go_simp
        with_reducible refine (cut_any a b a b _).mono ?_
        rintro e y4 ⟨vs, rfl, hrow, hb⟩
        have HBy4 := hide (HBy3.out.trans (hb.mono HBy3.out.size))
        have HRy4 := hide (HRy3.out.later hb (Nat.le_refl _))
        rw [HSELF.out] at hrow
        obtain ⟨so, sp, rfl, _, _⟩ := hrow.form
        rw [show ([] : List Sp).length = 0 from rfl]
        clear hrow
        clear hb HBy3 HRy3
        refine hK.out _ _ (CA.out _ HBy4.out) (fun hNew => ?_)
        clear hK K9 hHeld
        have hHeld := hNew
        clear hNew
        (try simp only [Act.put, Mqa, Mqb, Mqc])
        refine Man.t1 9 (by assumption) ?_
        (try simp only [Act.put, Mqa, Mqb, Mqc])
        refine Man.t1 10 (by assumption) ?_
        (try simp only [Act.put, Mqa, Mqb, Mqc])
        refine Man.t1 11 (by assumption) ?_
        (try simp only [Act.put, Mqa, Mqb, Mqc])
        refine Man.t1 12 (by assumption) ?_
        (try simp only [Act.put, Mqa, Mqb, Mqc])
        refine Man.t1 13 (by assumption) ?_
        (try simp only [Act.put, Mqa, Mqb, Mqc])
        refine Man.t1 14 (by assumption) ?_
        (try simp only [Act.put, Mqa, Mqb, Mqc])
        refine Man.one (i := 15) rfl (by kernel_rfl) (fun K9 hK => ?_)
        go_simp
        with_reducible refine (covers_y HRy4.out (by have := HLN.out; simp; omega) HPC.out).mono ?_
        rintro e y5 ⟨rfl, hb⟩
        have HBy5 := hide (HBy4.out.trans (hb.mono HBy4.out.size))
        have HRy5 := hide (HRy4.out.later hb (Nat.le_refl _))
        clear hb HBy4 HRy4
        refine hK.out _ _ (CA.out _ HBy5.out) (fun hNew => ?_)
        clear hK K9 hHeld
        have hHeld := hNew
        clear hNew
        (try simp only [Act.put, Mqa, Mqb, Mqc])
        refine Man.t1 16 (by assumption) ?_
        (try simp only [Act.put, Mqa, Mqb, Mqc])
        refine Man.t1 17 (by assumption) ?_
        (try simp only [Act.put, Mqa, Mqb, Mqc])
        refine Man.one (i := 18) rfl (by kernel_rfl) (fun K9 hK => ?_)
        go_simp
        with_reducible refine (known_any _).mono ?_
        rintro e y6 ⟨rfl, hb⟩
        have HBy6 := hide (HBy5.out.trans (hb.mono HBy5.out.size))
        have HRy6 := hide (HRy5.out.later hb (Nat.le_refl _))
        clear hb HBy5 HRy5
        refine hK.out _ _ (CA.out _ HBy6.out) (fun hNew => ?_)
        clear hK K9 hHeld
        have hHeld := hNew
        clear hNew
        (try simp only [Act.put, Mqa, Mqb, Mqc])
        refine Man.t1 19 (by assumption) ?_
        (try simp only [Act.put, Mqa, Mqb, Mqc])
        refine Man.t1 20 (by assumption) ?_
        (try simp only [Act.put, Mqa, Mqb, Mqc])
        refine wpAnyH_done (by kernel_rfl) ?_ _
        go_wp2_with fail
        go_ret
        exact ⟨rfl, HZ.out.bel.trans (HBy6.out.mono HZ.out.bel.size)⟩
  · have CR := hide (fun w => right_no hr w)
    have HCU := hide (rcut_wrong (b := (c, d)) hr)
    clear hr
    go_enter Try.func9, Try.ntmps9
    have HB0 := hide (bx2 w a b c d)
    go_wp2_with fail
    refine (CR.out _).mono ?_
    rintro e z1 ⟨rfl, hb⟩
    have HB1 := hide (HB0.out.later hb)
    clear HB0
    clear hb
    obtain ⟨a_0, a_1, _, _, a_l⟩ := HB1.out.get 1 rfl
    obtain ⟨b_0, b_1, _, _, b_l⟩ := HB1.out.get 0 rfl
    go_wp2_with fail
    refine (cut_any a b c d _).mono ?_
    rintro e z2 ⟨v, rfl, hrow, hb⟩
    have HB2 := hide (HB1.out.later hb)
    clear a_0 a_1 a_l b_0 b_1 b_l
    clear HB1
    rw [HCU.out] at hrow
    obtain ⟨ao, cp, rfl, _, _⟩ := hrow.form
    rw [show ([] : List Sp).length = 0 from rfl]
    clear hb
    go_wp2_with fail
    refine (known_any _).mono ?_
    rintro e z3 ⟨rfl, hb⟩
    have HB3 := hide (HB2.out.later hb)
    clear HB2
    clear hb
    go_wp2_with fail
    go_ret
    exact ⟨rfl, HB3.out.bel⟩
theorem laidOut : laidOutB Try.prog = true := by kernel_rfl
set_option maxRecDepth 100000 in
theorem contract (H : Type) (enc : TypeId × Value → H) (W : World) (base : Nat) (args : Array Value) (ds gs : List (DataW H)) (before : List MemPlace)
    (hval : ∀ (j : Nat) t v, Try.f9.params[j]? = some t → args[j]? = some v → Value.okWide Try.prog W .any base t v)
    (hW : DataW.Whole enc Try.prog Try.f9.params.toList Rows.spanPartsSpec.vars false W args.toList ds gs before)
    (hsz0 : (DataW.weightsEach Try.prog (Try.f9.params.toList ++ Rows.spanPartsSpec.plain.varTypes Try.prog) (ds ++ gs)).all (· ≤ reachBytes) = true) :
    Calls Try.prog 9 args W fun e W' => ∃ v, e = .returned v ∧ Rows.spanPartsSpec.post enc Try.prog Try.f9 false true false false W args v W' := by
  have hW' := hW
  obtain ⟨p, q, hA0, hV, rfl, hfz, hnd⟩ := hW
  have hA : DataW.TrodAll enc Try.prog W 0 (fun _ => true) true Try.f9.params.toList args.toList ds p := hA0
  rw [Try.params9] at hA hval hsz0
  obtain ⟨v0, vs0, d0, ds0, p0, q0, hargs, rfl, rfl, h0, r0⟩ := trodAll_cons hA
  obtain ⟨v1, vs1, d1, ds1, p1, q1, rfl, rfl, rfl, h1, r1⟩ := trodAll_cons r0
  obtain ⟨rfl, rfl, rfl⟩ := trodAll_nil r1
  obtain rfl : args = #[v0, v1] := by cases args; simp_all
  obtain ⟨rfl, rfl⟩ := trodVars_none hV
  have hsz := fun n hn => of_decide_eq_true (List.all_eq_true.1 hsz0 n hn)
  obtain ⟨aa, ab, rfl⟩ := Spn.open_span (hval 0 23 v0 rfl rfl) h0
  obtain ⟨ba, bb, rfl⟩ := Spn.open_span (hval 1 23 v1 rfl rfl) h1
  clear hA0 hsz0
  simp only [List.append_nil] at hW'
  have hlt : ∀ x ∈ p0 ++ p1, x.block < W.heap.size := fun x hx => hW'.lt x (by simpa using hx)
  have walk := walk aa ab ba bb W
  refine walk.mono fun e W' ⟨he, hg⟩ => ?_
  subst he
  refine ⟨_, rfl, Fr.post_made (pa := p0 ++ p1) (pv := []) hW' (fun _ _ _ => trodAll_cons_mk (shut_bool Try.underlying4 _) trodAll_mk0) (fun sp hsp => ?_) (fun _ _ => rfl) (by simp) hg (ok_one (by kernel_rfl) rfl (okWide_bool_mk Try.underlying4 _))⟩
  have g0 : DataW.Trod enc Try.prog W' 0 sp true 23 _ d0 p0 := WideElems.Trod_stays laidOut (by kernel_rfl) (of_decide_eq_true (by kernel_rfl)) h0 (fun x hx => hg.same (hlt x (by simp [hx]))) (fun x hx => hsp x (by simp [hx]))
  have g1 : DataW.Trod enc Try.prog W' 0 sp true 23 _ d1 p1 := WideElems.Trod_stays laidOut (by kernel_rfl) (of_decide_eq_true (by kernel_rfl)) h1 (fun x hx => hg.same (hlt x (by simp [hx]))) (fun x hx => hsp x (by simp [hx]))
  have hT := (trodAll_cons_mk g0 (trodAll_cons_mk g1 trodAll_mk0))
  simp only [List.append_nil] at hT
  exact hT
set_option maxRecDepth 100000 in
theorem lifted (os : Os) (started : os.Started) (H : Type) (enc : TypeId × Value → H) :
    ReturnsInHanded {} Try.checked os 9 .any (Rows.spanPartsSpec.pre6 enc Try.prog Try.f9 Rows.spanPartsRow.domain false) (Rows.spanPartsSpec.post enc Try.prog Try.f9 false true false false) := by
  refine returnsInHanded_of_change_sized (C := Try.checked) Fr.own started (by kernel_rfl) Try.func9
    (ChangeSpec.witness6 (enc := enc) (C := Try.checked) false ⟨#[], #[.agg #[.int .i64 0, .int .i64 0], .agg #[.int .i64 0, .int .i64 0]], []⟩ 8 (by kernel_rfl) (by kernel_rfl) (by kernel_rfl) (by kernel_rfl)) ?_
  intro W base args ds gs before hval hW _ hsz _
  exact contract H enc W base args ds gs before hval hW hsz
theorem said : Rows.SpanPartsSaid :=
  OpenClaim.holds_of_wide 9 Try.f9 rfl rfl rfl rfl rfl rfl rfl ⟨rfl, rfl, rfl, rfl, rfl⟩ rfl rfl rfl rfl rfl (by kernel_rfl) Try.func9 (by kernel_rfl)
    (of_decide_eq_true (by kernel_rfl)) (by unfold Func.isWrapper; first | (rw [if_pos (by decide +kernel)]; kernel_rfl) | (rw [if_neg (by decide +kernel)]; exact ⟨rfl, rfl⟩))
    (fun os started H enc _ => lifted os started H enc)
end LaSpanParts
end Go.Proofs.Ytjlejfjkigohhaa
