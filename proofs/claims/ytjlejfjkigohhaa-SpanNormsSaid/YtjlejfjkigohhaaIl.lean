/- The document's add walked. Condition: no more than 1000 intervals; they rise, and do not touch, and the one is right. -/
import Derived.Test.YtjlejfjkigohhaaIk
namespace Go.Proofs.Ytjlejfjkigohhaa
open Go.RowKit
namespace Spn
theorem zbox {wr w2 : World} {T : TypeId} (hb : Below (wr.alloc (.cells #[.int .i64 0, .int .i64 0] T)).drew.heap.size (wr.alloc (.cells #[.int .i64 0, .int .i64 0] T)).drew w2) :
    w2.cell? ⟨wr.heap.size, 0, none⟩ = some (.int .i64 0) ∧ w2.cell? ⟨wr.heap.size, 1, none⟩ = some (.int .i64 0) ∧ w2.frozen? ⟨wr.heap.size, 0, none⟩ = false ∧ w2.frozen? ⟨wr.heap.size, 1, none⟩ = false := by
  have h := (At.new wr 0 0 T).later (w' := w2) (n := (wr.alloc (.cells #[.int .i64 0, .int .i64 0] T)).heap.size) ((Below.refl _ (wr.alloc (.cells #[.int .i64 0, .int .i64 0] T))).drew.trans hb) (by simp)
  exact ⟨h.c0, h.c1, h.z, h.z1⟩
/-- A result that was laid in a box: in one laid before the call, or behind it. -/
theorem laid_before {w wr w2 : World} {B : Nat} {x : Tri} {va vb : Value} (h : Tw w B x va vb wr) (hb : Below (wr.alloc (.cells #[.int .i64 0, .int .i64 0] 23)).drew.heap.size (wr.alloc (.cells #[.int .i64 0, .int .i64 0] 23)).drew w2) (p q : Int) :
    Tw w B x va vb ((w2.setCell ⟨wr.heap.size, 0, none⟩ (.int .i64 p)).setCell ⟨wr.heap.size, 1, none⟩ (.int .i64 q)) ∧ At (p, q) wr.heap.size ((w2.setCell ⟨wr.heap.size, 0, none⟩ (.int .i64 p)).setCell ⟨wr.heap.size, 1, none⟩ (.int .i64 q)) := by
  have h1 := ((h.later (below_alloc wr (.cells #[.int .i64 0, .int .i64 0] 23))).drew).later hb
  have ha := (At.new wr 0 0 23).later (w' := w2) (n := (wr.alloc (.cells #[.int .i64 0, .int .i64 0] 23)).heap.size) ((Below.refl _ (wr.alloc (.cells #[.int .i64 0, .int .i64 0] 23))).drew.trans hb) (by simp)
  have keep : ∀ g, g ≠ wr.heap.size → ((w2.setCell ⟨wr.heap.size, 0, none⟩ (.int .i64 p)).setCell ⟨wr.heap.size, 1, none⟩ (.int .i64 q)).heap[g]? = w2.heap[g]? := fun g hg => by
    rw [Below.heap_setCell _ ⟨wr.heap.size, 1, none⟩ _ g hg, Below.heap_setCell _ ⟨wr.heap.size, 0, none⟩ _ g hg]
  have hsz := h.bel.size
  refine ⟨⟨h1.a.kept (fun g hg => keep g (fun e => absurd (h.a.lt g hg).2 (by omega))), h1.b.kept (fun g hg => keep g (fun e => absurd (h.b.lt g hg).2 (by omega))), h.ap, ?_, h.na, h.nb, h.lo, (h1.bel.setCell (p := ⟨wr.heap.size, 0, none⟩) hsz _).setCell (p := ⟨wr.heap.size, 1, none⟩) hsz _⟩, ha.put p q⟩
  have e := keep B (fun e => absurd h.s.lt (by omega))
  have hs := h1.s
  exact ⟨by rw [World.cell?_of_block (a := ⟨B, 0, none⟩) e]; exact hs.c0, by rw [World.cell?_of_block (a := ⟨B, 1, none⟩) e]; exact hs.c1, by rw [World.frozen?_of_block (a := ⟨B, 0, none⟩) e]; exact hs.z, by rw [World.frozen?_of_block (a := ⟨B, 1, none⟩) e]; exact hs.z1, by simpa using hs.lt⟩
theorem laid_behind {w wr w2 : World} {B : Nat} {x : Tri} {va vb : Value} (h : Tw w B x va vb wr) (hb : Below wr.drew.heap.size wr.drew w2) (p q : Int) :
    Tw w B x va vb (w2.alloc (.cells #[.int .i64 p, .int .i64 q] 23)) ∧ At (p, q) w2.heap.size (w2.alloc (.cells #[.int .i64 p, .int .i64 q] 23)) :=
  ⟨(h.drew.later hb).later (below_alloc _ _), At.new w2 p q _⟩
theorem SpansAt.get {l : List Sp} {b off n c : Nat} {w : World} (h : SpansAt l (.slice (some ⟨b, off, none⟩) n c) w) (i : Nat) (hi : i < l.length) :
    b < w.heap.size ∧ w.cell? ⟨b, off + i * 2, none⟩ = some (.int .i64 (l[i]).1) ∧ w.cell? ⟨b, off + i * 2 + 1, none⟩ = some (.int .i64 (l[i]).2) := by
  obtain ⟨b1, off1, cap1, he1, hb, j0, j1⟩ := h.at i hi
  simp only [Value.slice.injEq, Option.some.injEq, Addr.mk.injEq, and_true] at he1
  obtain ⟨⟨rfl, rfl⟩, _⟩ := he1
  exact ⟨hb, j0, j1⟩
set_option maxHeartbeats 8000000 in
set_option maxRecDepth 100000 in
theorem add_any {l : List Sp} {sl : Value} {w : World} (h : SpansAt l sl w) (hl : l.length ≤ 1000) (a b : Int) :
    Calls Try.prog 27 #[sl, .agg #[.int .i64 a, .int .i64 b]] w fun e w' => ∃ v : Value, e = .returned v ∧ Row w.heap.size (add l (a, b)) v w' ∧ Below w.heap.size w w' := by
  obtain ⟨so, sc, rfl, _, _⟩ := h.form
  have HA := hide h
  obtain ⟨n, hn⟩ : ∃ n, n = l.length := ⟨_, rfl⟩
  rw [← hn] at hl ⊢
  have HN := hide hn
  clear h hn
  have HT0 := hide (show Tw w w.heap.size ⟨[], (a, b), []⟩ (.slice none 0 0) (.slice none 0 0) (w.alloc (.cells #[.int .i64 a, .int .i64 b] 23)) from
    ⟨Row.nil _ _, Row.nil _ _, (fun g hg => by cases hg), At.new w a b _, (fun e => by cases e), (fun e => by cases e), Nat.le_refl _, below_alloc w _⟩)
  go_enter Try.func27, Try.ntmps27
  go_wp2_with fail
  go_loopw [5, 6, 7] (fun va vb ii wr => ∃ i : Nat, ii = .int .i64 i ∧ i ≤ n ∧ Hid (Tw w w.heap.size (steps (l.take i) ⟨[], (a, b), []⟩) va vb wr)) (fun _ _ ii _ => (n - (intOf ii).toNat))
  case atStart => exact ⟨0, rfl, by omega, HT0⟩
  case round =>
    rename World => wr
    obtain ⟨i, rfl, hi, HT⟩ := hrel
    have HLA := hide (show (steps (l.take i) ⟨[], (a, b), []⟩).ah.length + (steps (l.take i) ⟨[], (a, b), []⟩).be.length ≤ 1000 from by
      have h1 := steps_len (l.take i) ⟨[], (a, b), []⟩
      have h2 : (l.take i).length ≤ l.length := by rw [List.length_take]; omega
      have h3 := HN.out
      simp only [List.length_nil] at h1
      omega)
    obtain ⟨x, hx⟩ : ∃ x, x = steps (l.take i) ⟨[], (a, b), []⟩ := ⟨_, rfl⟩
    rw [← hx] at HT HLA
    rcases Nat.lt_or_ge i n with hlt | hge
    · have g1 : (i : Int) < (n : Int) := by omega
      have hil : i < l.length := by rw [← HN.out]; exact hlt
      obtain ⟨b0, off, cap, he, hbw, k0, k1⟩ := (HA.out.later HT.out.bel (Nat.le_refl _)).at i hil
      rw [← HN.out] at he
      simp only [Value.slice.injEq] at he
      obtain ⟨rfl, _, rfl⟩ := he
      obtain ⟨hbw2, _, _⟩ := HA.out.get i hil
      have HAT := hide (show ∀ z : World, Below w.heap.size w z → z.cell? ⟨b0, off + i * 2, none⟩ = some (.int .i64 (l[i]).1) ∧ z.cell? ⟨b0, off + i * 2 + 1, none⟩ = some (.int .i64 (l[i]).2) from fun z hz => ((HA.out.later hz (Nat.le_refl _)).get i hil).2)
      have hbn : b0 ≠ w.heap.size := by omega
      obtain ⟨r, hr⟩ : ∃ r, r = l[i] := ⟨_, rfl⟩
      rw [← hr] at k0 k1 HAT
      have HX := hide (show steps (l.take (i + 1)) ⟨[], (a, b), []⟩ = step x r from by rw [hx, hr]; exact steps_take hil)
      clear hx hr
      obtain ⟨s0, s1, sf0, sf1, sl0⟩ := HT.out.s
      by_cases hj : Joins (x.s.1, x.s.2) (r.1, r.2)
      · have C1 := fun w => rjoin_y hj w
        have HX2 := hide (show steps (l.take (i + 1)) ⟨[], (a, b), []⟩ = ⟨x.ah, wide x.s r, x.be⟩ from by rw [HX.out]; exact if_pos hj)
        obtain ⟨p, hp⟩ : ∃ p, p = (wide (x.s.1, x.s.2) (r.1, r.2)).1 := ⟨_, rfl⟩
        obtain ⟨q, hq⟩ : ∃ q, q = (wide (x.s.1, x.s.2) (r.1, r.2)).2 := ⟨_, rfl⟩
        have HX3 := hide (show steps (l.take (i + 1)) ⟨[], (a, b), []⟩ = ⟨x.ah, (p, q), x.be⟩ from by rw [HX2.out, hp, hq])
        rw [← hp, ← hq] at C1
        clear hp hq hj HX HX2
        go_wp2_with fail
        go_region_with (go_at_call 13; (with_reducible refine (C1 _).mono ?_); rintro e w2 ⟨rfl, hb⟩; (try (have t0 := (zbox hb).1)); (try (have t1 := (zbox hb).2.1)); (try (have t2 := (zbox hb).2.2.1)); (try (have t3 := (zbox hb).2.2.2)))
        all_goals first
          | (obtain ⟨h4, h5⟩ := laid_before HT.out hb p q
             obtain ⟨z, hz⟩ : ∃ z, z = (w2.setCell ⟨wr.heap.size, 0, none⟩ (.int .i64 p)).setCell ⟨wr.heap.size, 1, none⟩ (.int .i64 q) := ⟨_, rfl⟩
             obtain ⟨B8, hB8⟩ : ∃ B8, B8 = wr.heap.size := ⟨_, rfl⟩
             rw [← hz, ← hB8] at h5
             rw [← hz] at h4
             rw [← hz, ← hB8]
             have HT4 := hide h4
             have H5 := hide h5
             clear hz hb hB8 h4 h5 k0 k1 s0 s1 sf0 sf1 sl0 t0 t1 t2 t3)
          | (obtain ⟨h4, h5⟩ := laid_behind HT.out hb p q
             obtain ⟨z, hz⟩ : ∃ z, z = w2.alloc (.cells #[.int .i64 p, .int .i64 q] 23) := ⟨_, rfl⟩
             obtain ⟨B8, hB8⟩ : ∃ B8, B8 = w2.heap.size := ⟨_, rfl⟩
             rw [← hz, ← hB8] at h5
             rw [← hz] at h4
             rw [← hz, ← hB8]
             have HT4 := hide h4
             have H5 := hide h5
             clear hz hb hB8 h4 h5 k0 k1 s0 s1 sf0 sf1 sl0)
        all_goals
          obtain ⟨s0, s1, sf0, sf1, sl0⟩ := HT4.out.s
          obtain ⟨t0, t1, _, _, _⟩ := H5.out
          obtain ⟨k0, k1⟩ := HAT.out z HT4.out.bel
          have HT5 := hide (show Tw w w.heap.size (steps (l.take (i + 1)) ⟨[], (a, b), []⟩) u5 u6 ((z.setCell ⟨w.heap.size, 0, none⟩ (.int .i64 p)).setCell ⟨w.heap.size, 1, none⟩ (.int .i64 q)) from by rw [HX3.out]; exact HT4.out.grow p q)
          go_wp2_with fail
          go_roundw
          case rel => exact ⟨i + 1, by go_num, by omega, HT5⟩
          case measure => simp [intOf]; omega
      · have C1 := fun w => rjoin_n hj w
        by_cases hd : r.1 < x.s.1
        · have HX2 := hide (show steps (l.take (i + 1)) ⟨[], (a, b), []⟩ = ⟨x.ah ++ [r], x.s, x.be⟩ from by rw [HX.out]; unfold step; rw [if_neg hj, if_pos hd])
          clear hj HX
          go_wp2_with fail
          go_region_with (go_at_call 13; (with_reducible refine (C1 _).mono ?_); rintro e w2 ⟨rfl, hb⟩; (try (have t0 := (zbox hb).1)); (try (have t1 := (zbox hb).2.1)); (try (have t2 := (zbox hb).2.2.1)); (try (have t3 := (zbox hb).2.2.2)))
          all_goals first
            | (obtain ⟨h4, h5⟩ := laid_before HT.out hb 0 0
               obtain ⟨z, hz⟩ : ∃ z, z = (w2.setCell ⟨wr.heap.size, 0, none⟩ (.int .i64 0)).setCell ⟨wr.heap.size, 1, none⟩ (.int .i64 0) := ⟨_, rfl⟩
               obtain ⟨B8, hB8⟩ : ∃ B8, B8 = wr.heap.size := ⟨_, rfl⟩
               rw [← hz, ← hB8] at h5
               rw [← hz] at h4
               rw [← hz, ← hB8]
               have HT4 := hide h4
               have H5 := hide h5
               clear hz hb hB8 h4 h5 k0 k1 s0 s1 sf0 sf1 sl0 t0 t1 t2 t3)
            | (obtain ⟨h4, h5⟩ := laid_behind HT.out hb 0 0
               obtain ⟨z, hz⟩ : ∃ z, z = w2.alloc (.cells #[.int .i64 0, .int .i64 0] 23) := ⟨_, rfl⟩
               obtain ⟨B8, hB8⟩ : ∃ B8, B8 = w2.heap.size := ⟨_, rfl⟩
               rw [← hz, ← hB8] at h5
               rw [← hz] at h4
               rw [← hz, ← hB8]
               have HT4 := hide h4
               have H5 := hide h5
               clear hz hb hB8 h4 h5 k0 k1 s0 s1 sf0 sf1 sl0)
          all_goals
            obtain ⟨s0, s1, sf0, sf1, sl0⟩ := HT4.out.s
            obtain ⟨t0, t1, _, _, _⟩ := H5.out
            obtain ⟨k0, k1⟩ := HAT.out z HT4.out.bel
            go_wp2_with fail
            go_region
            obtain ⟨z2, hz2⟩ : ∃ z2, z2 = z.drew := ⟨_, rfl⟩
            have HT5 := hide HT4.out.drew
            rw [← hz2] at HT5 ⊢
            clear hz2 HT4 H5 k0 k1 s0 s1 sf0 sf1 sl0 t0 t1
            obtain ⟨k0, k1⟩ := HAT.out z2 HT5.out.bel
            have HT6 := hide (HT5.out.later (below_alloc z2 (.cells #[.int .i64 r.1, .int .i64 r.2] 23)))
            go_wp2_with (at_builtin; refine wpList_row rfl _ _ rfl rfl rfl HT6.out.a (one_at z2 r) ?c1 ?c2 (fun u w3 hu hg hob => ?_))
            case c1 => have := HLA.out; simp; omega
            case c2 => exact HT6.out.bel.size
            have HT7 := hide (show Tw w w.heap.size (steps (l.take (i + 1)) ⟨[], (a, b), []⟩) u u6 w3 from by rw [HX2.out]; exact HT6.out.ahead hu hg hob)
            clear hu hg hob HT6 HT5
            go_wp2_with fail
            go_roundw
            case rel => exact ⟨i + 1, by go_num, by omega, HT7⟩
            case measure => simp [intOf]; omega
        · have HX2 := hide (show steps (l.take (i + 1)) ⟨[], (a, b), []⟩ = ⟨x.ah, x.s, x.be ++ [r]⟩ from by rw [HX.out]; unfold step; rw [if_neg hj, if_neg hd])
          clear hj HX
          go_wp2_with fail
          go_region_with (go_at_call 13; (with_reducible refine (C1 _).mono ?_); rintro e w2 ⟨rfl, hb⟩; (try (have t0 := (zbox hb).1)); (try (have t1 := (zbox hb).2.1)); (try (have t2 := (zbox hb).2.2.1)); (try (have t3 := (zbox hb).2.2.2)))
          all_goals first
            | (obtain ⟨h4, h5⟩ := laid_before HT.out hb 0 0
               obtain ⟨z, hz⟩ : ∃ z, z = (w2.setCell ⟨wr.heap.size, 0, none⟩ (.int .i64 0)).setCell ⟨wr.heap.size, 1, none⟩ (.int .i64 0) := ⟨_, rfl⟩
               obtain ⟨B8, hB8⟩ : ∃ B8, B8 = wr.heap.size := ⟨_, rfl⟩
               rw [← hz, ← hB8] at h5
               rw [← hz] at h4
               rw [← hz, ← hB8]
               have HT4 := hide h4
               have H5 := hide h5
               clear hz hb hB8 h4 h5 k0 k1 s0 s1 sf0 sf1 sl0 t0 t1 t2 t3)
            | (obtain ⟨h4, h5⟩ := laid_behind HT.out hb 0 0
               obtain ⟨z, hz⟩ : ∃ z, z = w2.alloc (.cells #[.int .i64 0, .int .i64 0] 23) := ⟨_, rfl⟩
               obtain ⟨B8, hB8⟩ : ∃ B8, B8 = w2.heap.size := ⟨_, rfl⟩
               rw [← hz, ← hB8] at h5
               rw [← hz] at h4
               rw [← hz, ← hB8]
               have HT4 := hide h4
               have H5 := hide h5
               clear hz hb hB8 h4 h5 k0 k1 s0 s1 sf0 sf1 sl0)
          all_goals
            obtain ⟨s0, s1, sf0, sf1, sl0⟩ := HT4.out.s
            obtain ⟨t0, t1, _, _, _⟩ := H5.out
            obtain ⟨k0, k1⟩ := HAT.out z HT4.out.bel
            go_wp2_with fail
            go_region
            obtain ⟨z2, hz2⟩ : ∃ z2, z2 = z.drew := ⟨_, rfl⟩
            have HT5 := hide HT4.out.drew
            rw [← hz2] at HT5 ⊢
            clear hz2 HT4 H5 k0 k1 s0 s1 sf0 sf1 sl0 t0 t1
            obtain ⟨k0, k1⟩ := HAT.out z2 HT5.out.bel
            have HT6 := hide (HT5.out.later (below_alloc z2 (.cells #[.int .i64 r.1, .int .i64 r.2] 23)))
            go_wp2_with (at_builtin; refine wpList_row rfl _ _ rfl rfl rfl HT6.out.b (one_at z2 r) ?c1 ?c2 (fun u w3 hu hg hob => ?_))
            case c1 => have := HLA.out; simp; omega
            case c2 => exact HT6.out.bel.size
            have HT7 := hide (show Tw w w.heap.size (steps (l.take (i + 1)) ⟨[], (a, b), []⟩) u5 u w3 from by rw [HX2.out]; exact HT6.out.behind hu hg hob)
            clear hu hg hob HT6 HT5
            go_wp2_with fail
            go_roundw
            case rel => exact ⟨i + 1, by go_num, by omega, HT7⟩
            case measure => simp [intOf]; omega
    · obtain rfl : i = n := by omega
      have g1 : ¬ (i : Int) < (i : Int) := by omega
      obtain ⟨s0, s1, sf0, sf1, sl0⟩ := HT.out.s
      have HADD := hide (show add l (a, b) = x.ah ++ [x.s] ++ x.be from by
        have := HN.out
        rw [hx, this, List.take_length]
        show (steps l ⟨[], (a, b), []⟩).all = _
        unfold Tri.all
        simp)
      have HT6 := hide (HT.out.later (below_alloc wr (.cells #[.int .i64 x.s.1, .int .i64 x.s.2] 23)))
      clear hx
      go_wp2_with (at_builtin; refine wpList_row rfl _ _ rfl rfl rfl HT6.out.a (one_at wr x.s) ?c1 ?c2 ?_)
      case c1 => have := HLA.out; simp; omega
      case c2 => have := HT6.out.bel.size; simpa using this
      intro u w3 hu hg hob
      have HT7 := hide (HT6.out.ahead hu hg (by simpa using hob))
      clear hu hg hob HT6
      go_wp2_with (at_builtin; refine wpList_row rfl _ _ rfl rfl rfl HT7.out.a HT7.out.b.spans ?c1 ?c2 (fun u2 w4 hu hg hob => ?_))
      case c1 => have := HLA.out; simp; omega
      case c2 => exact HT7.out.bel.size
      have HF := hide (show Row w.heap.size (add l (a, b)) u2 w4 ∧ Below w.heap.size w w4 from by
        rw [HADD.out]
        exact ⟨hu, HT7.out.bel.grown hg HT7.out.bel.size (fun k hk => (HT7.out.a.lt k hk).1)⟩)
      clear hu hg hob HT7
      go_wp2_with fail
      go_ret
      exact ⟨u2, rfl, HF.out⟩
end Spn
end Go.Proofs.Ytjlejfjkigohhaa
