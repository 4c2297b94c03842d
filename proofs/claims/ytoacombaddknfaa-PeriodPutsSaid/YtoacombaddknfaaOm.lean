/- The document's Coalesce. Condition: no more than a million values a row, a thousand pieces. -/
import Derived.Test.YtoacombaddknfaaOl
namespace Go.Proofs.Ytoacombaddknfaa
open Go.RowKit
namespace Prd
open Spn (Sp hide At below_alloc Right rcut Has)
open Cod (V RowAt S)
noncomputable def coalR (l : List (Sp × List V)) : List (Sp × List V) := if Ok Good l then coal l else l
theorem coal_take3 {l : List Pm} {i : Nat} (hi : i < l.length) : coal (pcs (l.take (i + 1))) = fuse (coal (pcs (l.take i))) (l[i]).pc := by
  rw [List.take_succ_eq_append_getElem hi, pcs_app]
  exact coal_snoc _ _
/-- The local piece: x0 up to b, in block k. -/
structure X3 (x0 : Pm) (b : Int) (k : Nat) (w : World) : Prop where
  c0 : w.cell? ⟨k, 0, none⟩ = some (.int .i64 x0.s.1)
  c1 : w.cell? ⟨k, 1, none⟩ = some (.int .i64 b)
  c2 : w.cell? ⟨k, 2, none⟩ = some (.slice x0.ro x0.r.length x0.rc)
  z : w.frozen? ⟨k, 1, none⟩ = false
  lt : k < w.heap.size
theorem X3.later {x0 : Pm} {b : Int} {k n : Nat} {w w' : World} (h : X3 x0 b k w) (hb : Below n w w') (hk : k < n) : X3 x0 b k w' :=
  ⟨by rw [hb.cell (p := ⟨k, 0, none⟩) hk]; exact h.c0, by rw [hb.cell (p := ⟨k, 1, none⟩) hk]; exact h.c1, by rw [hb.cell (p := ⟨k, 2, none⟩) hk]; exact h.c2, by rw [hb.frozen (p := ⟨k, 1, none⟩) hk]; exact h.z, Nat.lt_of_lt_of_le h.lt hb.size⟩
theorem X3.set {x0 : Pm} {b b' : Int} {k : Nat} {w : World} (h : X3 x0 b k w) : X3 x0 b' k (w.setCell ⟨k, 1, none⟩ (.int .i64 b')) := by
  exact ⟨(World.cell?_setCell_other _ _ _ _ (by simp)).trans h.c0, World.cell?_setCell_same _ _ _ h.c1, (World.cell?_setCell_other _ _ _ _ (by simp)).trans h.c2, (World.frozen?_setCell _ _ _ _).trans h.z, by rw [World.size_setCell]; exact h.lt⟩
set_option maxHeartbeats 8000000 in
set_option maxRecDepth 100000 in
theorem rcoal_any {l : List Pm} {sl : Value} {w : World} (h : PcsAt l sl w) (hr : Rows3 l w) (hs : Small l) :
    Calls Try.prog 24 #[sl] w fun e w' => ∃ (m : List Pm) (u : Value), e = .returned u ∧ PcsAt m u w' ∧ From l m ∧ pcs m = coalR (pcs l) ∧ Below w.heap.size w w' := by
  have CR := hide (rokay_any h hr hs)
  have HA := hide h
  have CW := hide (show ∀ (u : World) (x y : Pm), x ∈ l → y ∈ l → Below w.heap.size w u → Calls Try.prog 22 #[.slice x.ro x.r.length x.rc, .slice y.ro y.r.length y.rc] u fun e w' => e = .returned (.bool (decide (x.r = y.r))) ∧ Below u.heap.size u w' from fun u x y hx hy hu =>
    Cod.rows_any x.r y.r _ _ (hs.r x hx) (hs.r y hy) u ((hr x hx).later hu) ((hr y hy).later hu))
  obtain ⟨so, sc, rfl, _, _⟩ := h.form
  obtain ⟨n, hn⟩ : ∃ n, n = l.length := ⟨_, rfl⟩
  have hl : n ≤ 1000 := by rw [hn]; exact hs.n
  rw [← hn] at CR ⊢
  have HN := hide hn
  clear h hn hr hs
  by_cases hok : Ok Good (pcs l)
  · have HD := hide (show coalR (pcs l) = coal (pcs l) from if_pos hok)
    rw [decide_eq_true hok] at CR
    clear hok
    go_enter Try.func24, Try.ntmps24
    go_wp2_with fail
    refine CR.out.mono ?_
    rintro e w1 ⟨rfl, hb⟩
    have HB1 := hide hb
    clear hb CR
    go_wp2_with fail
    go_loopw [3, 4] (fun ov ii wr => ∃ (i : Nat) (m : List Pm), ii = .int .i64 i ∧ i ≤ n ∧ Hid (Row3 54 w.heap.size m ov wr) ∧ Hid (Below w.heap.size w wr) ∧ Hid (From l m) ∧ Hid (pcs m = coal (pcs (l.take i))) ∧ Hid (∀ hi : i < l.length, fuse (pcs m) (l[i]).pc = pcs m ++ [(l[i]).pc])) (fun _ ii _ => (n - (intOf ii).toNat))
    case atStart => exact ⟨0, [], rfl, by omega, hide (Row3.nil _ _ _), HB1, hide (From.nil l), hide rfl, hide (fun _ => rfl)⟩
    case round =>
      rename World => wr
      obtain ⟨i, m, rfl, hi, HO, HB, HF, HP, HNF⟩ := hrel
      clear HB1
      rcases Nat.lt_or_ge i n with hlt | hge
      · have g1 : (i : Int) < (n : Int) := by omega
        have hil : i < l.length := by rw [← HN.out]; exact hlt
        obtain ⟨b0, off, cap, he, -, -⟩ := (HA.out.later HB.out (Nat.le_refl _)).at i hil
        rw [← HN.out] at he
        simp only [Value.slice.injEq] at he
        obtain ⟨rfl, _, rfl⟩ := he
        have HAT := hide (show ∀ u : World, Below w.heap.size w u → ∀ (q : Nat) (hq : q < l.length), u.cell? ⟨b0, off + q * 3, none⟩ = some (.int .i64 (l[q]).s.1) ∧ u.cell? ⟨b0, off + q * 3 + 1, none⟩ = some (.int .i64 (l[q]).s.2) ∧ u.cell? ⟨b0, off + q * 3 + 2, none⟩ = some (.slice (l[q]).ro (l[q]).r.length (l[q]).rc) from fun u hu q hq => by
          have h9 := HA.out.later hu (Nat.le_refl _)
          rw [← HN.out] at h9
          exact (h9.got q hq).2)
        obtain ⟨x, hx⟩ : ∃ x, x = l[i] := ⟨_, rfl⟩
        have HXM := hide (show x ∈ l from by rw [hx]; exact List.getElem_mem _)
        have HC0 := hide (show coal (pcs (l.take (i + 1))) = pcs m ++ [((x.s.1, x.s.2), x.r)] from by rw [coal_take3 hil, ← HP.out, HNF.out hil, hx]; rfl)
        have HML := hide (show m.length ≤ 1000 from by
          have h1 := congrArg List.length HP.out
          rw [pcs_len] at h1
          have h2 := coal_len (pcs (l.take i))
          rw [pcs_len, List.length_take] at h2
          omega)
        obtain ⟨k0, k1, k2⟩ := HAT.out wr HB.out i hil
        rw [← hx] at k0 k1 k2
        clear hx
        go_wp2_with fail
        have HX0 := hide (show X3 x x.s.2 wr.heap.size (wr.alloc (.cells #[.int .i64 x.s.1, .int .i64 x.s.2, .slice x.ro x.r.length x.rc] 54)) from ⟨by go_keep, by go_keep, by go_keep, by go_keep, by simp⟩)
        have HBA := hide (below_alloc wr (.cells #[.int .i64 x.s.1, .int .i64 x.s.2, .slice x.ro x.r.length x.rc] 54))
        clear k0 k1 k2
        go_loopw [4] (fun ii wk => ∃ (k : Nat) (b : Int), ii = .int .i64 k ∧ i ≤ k ∧ k < n ∧ Hid (X3 x b wr.heap.size wk) ∧ Hid (Below wr.heap.size wr wk) ∧ Hid (coal (pcs (l.take (k + 1))) = pcs m ++ [((x.s.1, b), x.r)])) (fun ii _ => (n - (intOf ii).toNat))
        case atStart => exact ⟨i, x.s.2, rfl, by omega, by omega, HX0, HBA, HC0⟩
        case round =>
          rename World => wk
          obtain ⟨k, b, rfl, hik, hkn, HX, HBk, HC⟩ := hrel
          have HBw := hide (HB.out.trans (HBk.out.mono HB.out.size))
          have HXK := hide (show ∀ u, Below wk.heap.size wk u → X3 x b wr.heap.size u from fun u hu => HX.out.later hu HX.out.lt)
          have HBD := hide (show Below wk.heap.size wk wk.drew from (Below.refl _ _).drew)
          have HOK := hide (show ∀ u, Below wk.heap.size wk u → Row3 54 w.heap.size m u3 u from fun u hu => HO.out.later (HBk.out.trans (hu.mono HBk.out.size)) (Nat.le_refl _))
          have HBK := hide (show ∀ u, Below wk.heap.size wk u → Below w.heap.size w u from fun u hu => HBw.out.trans (hu.mono HBw.out.size))
          have HBR := hide (show ∀ u, Below wk.heap.size wk u → Below wr.heap.size wr u from fun u hu => HBk.out.trans (hu.mono HBk.out.size))
          have HF2 := hide (show From l (m ++ [cutTo x (x.s.1, b)]) from HF.out.app (fun y hy => ⟨x, HXM.out, by rw [List.mem_singleton.1 hy]; rfl, by rw [List.mem_singleton.1 hy]; rfl, by rw [List.mem_singleton.1 hy]; rfl⟩))
          have HP2 := hide (show pcs (m ++ [cutTo x (x.s.1, b)]) = coal (pcs (l.take (k + 1))) from by rw [HC.out, pcs_app]; rfl)
          have HNF2 := hide (show (∀ hi : k + 1 < l.length, ¬ (b = (l[k + 1]).s.1 ∧ x.r = (l[k + 1]).r)) → ∀ hi : k + 1 < l.length, fuse (pcs (m ++ [cutTo x (x.s.1, b)])) (l[k + 1]).pc = pcs (m ++ [cutTo x (x.s.1, b)]) ++ [(l[k + 1]).pc] from fun h9 hi => by
            rw [pcs_app]
            show fuse (pcs m ++ [((x.s.1, b), x.r)]) _ = _
            rw [fuse_snoc]
            exact if_neg (h9 hi))
          clear HX HBk HBA HX0 HC0 HBw
          obtain ⟨q, hq⟩ : ∃ q, q = k + 1 := ⟨_, rfl⟩
          have f3 : ((k : Int) + 1) = (q : Int) := by omega
          have f2 : IntKind.i64.wrap (q : Int) = (q : Int) := by simp only [IntKind.wrap_i64]; omega
          have HQ := hide hq
          clear hq
          rcases Nat.lt_or_ge q n with hqn | hqn
          · have g4 : (q : Int) < (n : Int) := by omega
            have hql : q < l.length := by rw [← HN.out]; exact hqn
            obtain ⟨z, hz⟩ : ∃ z, z = l[q] := ⟨_, rfl⟩
            have HZM := hide (show z ∈ l from by rw [hz]; exact List.getElem_mem _)
            have HCZ := hide (show ∀ u, Below wk.heap.size wk u → u.cell? ⟨b0, off + q * 3, none⟩ = some (.int .i64 z.s.1) ∧ u.cell? ⟨b0, off + q * 3 + 1, none⟩ = some (.int .i64 z.s.2) ∧ u.cell? ⟨b0, off + q * 3 + 2, none⟩ = some (.slice z.ro z.r.length z.rc) from fun u hu => by
              have h9 := HAT.out u (HBK.out u hu) q hql
              rw [← hz] at h9
              exact h9)
            have CE := hide (show ∀ u : World, Below wk.heap.size wk u → (u.cell? ⟨b0, off + q * 3, none⟩ = some (.int .i64 z.s.1) ∧ u.cell? ⟨b0, off + q * 3 + 2, none⟩ = some (.slice z.ro z.r.length z.rc) ∧ u.cell? ⟨wr.heap.size, 1, none⟩ = some (.int .i64 b) ∧ u.cell? ⟨wr.heap.size, 2, none⟩ = some (.slice x.ro x.r.length x.rc)) from fun u hu => ⟨(HCZ.out u hu).1, (HCZ.out u hu).2.2, (HXK.out u hu).c1, (HXK.out u hu).c2⟩)
            have HNO := hide (show ¬ (b = z.s.1 ∧ x.r = z.r) → ∀ hi : k + 1 < l.length, ¬ (b = (l[k + 1]).s.1 ∧ x.r = (l[k + 1]).r) from fun h9 hi => by
              have e : l[k + 1] = z := by rw [hz]; congr 1; exact HQ.out.symm
              rw [e]; exact h9)
            have HYC := hide (show (b = z.s.1 ∧ x.r = z.r) → coal (pcs (l.take (q + 1))) = pcs m ++ [((x.s.1, z.s.2), x.r)] from fun h9 => by
              rw [coal_take3 hql, ← hz]
              have e : coal (pcs (l.take q)) = pcs m ++ [((x.s.1, b), x.r)] := by rw [HQ.out]; exact HC.out
              rw [e, fuse_snoc]
              exact if_pos h9)
            clear hz
            by_cases heq : b = z.s.1
            · have g5 : (z.s.1 == b) = true := by simp [heq]
              have g6 : z.s.1 = b := heq.symm
              by_cases hrr : z.r = x.r
              · have HC9 := hide (HYC.out ⟨heq, hrr.symm⟩)
                have HRR := hide (decide_eq_true hrr)
                clear hrr heq g6
                go_wp2_with fail
                refine wp_region_held_drew (S := fun u => u.cell? ⟨b0, off + q * 3, none⟩ = some (.int .i64 z.s.1) ∧ u.cell? ⟨b0, off + q * 3 + 2, none⟩ = some (.slice z.ro z.r.length z.rc) ∧ u.cell? ⟨wr.heap.size, 1, none⟩ = some (.int .i64 b) ∧ u.cell? ⟨wr.heap.size, 2, none⟩ = some (.slice x.ro x.r.length x.rc)) (by kernel_rfl) (CE.out _ HBD.out) (fun hHeld => ?_)
                refine Man.t1 0 hHeld ?_
                (try simp only [Act.put, Mqa, Mqb, Mqc])
                refine Man.t1 1 hHeld ?_
                (try simp only [Act.put, Mqa, Mqb, Mqc])
                refine Man.t1 2 hHeld ?_
                (try simp only [Act.put, Mqa, Mqb, Mqc])
                refine Man.t1 3 hHeld ?_
                (try simp only [Act.put, Mqa, Mqb, Mqc])
                refine Man.t1 4 hHeld ?_
                (try simp only [Act.put, Mqa, Mqb, Mqc])
                refine Man.t1 5 hHeld ?_
                (try simp only [Act.put, Mqa, Mqb, Mqc])
                refine Man.t1 6 hHeld ?_
                (try simp only [Act.put, Mqa, Mqb, Mqc])
                refine Man.t1 7 hHeld ?_
                (try simp only [Act.put, Mqa, Mqb, Mqc])
                refine Man.t1 8 hHeld ?_
                (try simp only [Act.put, Mqa, Mqb, Mqc])
                refine Man.t1 9 hHeld ?_
                (try simp only [Act.put, Mqa, Mqb, Mqc])
                refine Man.t1 10 hHeld ?_
                (try simp only [Act.put, Mqa, Mqb, Mqc])
                refine Man.t1 11 hHeld ?_
                (try simp only [Act.put, Mqa, Mqb, Mqc])
                refine Man.t1 12 hHeld ?_
                (try simp only [Act.put, Mqa, Mqb, Mqc])
                refine Man.t1 13 hHeld ?_
                (try simp only [Act.put, Mqa, Mqb, Mqc])
                refine Man.t1 14 hHeld ?_
                (try simp only [Act.put, Mqa, Mqb, Mqc])
                refine Man.t1 15 hHeld ?_
                (try simp only [Act.put, Mqa, Mqb, Mqc])
                refine Man.t1 16 hHeld ?_
                (try simp only [Act.put, Mqa, Mqb, Mqc])
                refine Man.t1 17 hHeld ?_
                (try simp only [Act.put, Mqa, Mqb, Mqc])
                refine Man.t1 18 hHeld ?_
                (try simp only [Act.put, Mqa, Mqb, Mqc])
                refine Man.t1 19 hHeld ?_
                (try simp only [Act.put, Mqa, Mqb, Mqc])
                refine Man.t1 20 hHeld ?_
                (try simp only [Act.put, Mqa, Mqb, Mqc])
                refine Man.t1 21 hHeld ?_
                (try simp only [Act.put, Mqa, Mqb, Mqc])
                refine Man.t1 22 hHeld ?_
                (try simp only [Act.put, Mqa, Mqb, Mqc])
                refine Man.t1 23 hHeld ?_
                (try simp only [Act.put, Mqa, Mqb, Mqc])
                refine Man.t1 24 hHeld ?_
                (try simp only [Act.put, Mqa, Mqb, Mqc])
                refine Man.t1 25 hHeld ?_
                (try simp only [Act.put, Mqa, Mqb, Mqc])
                refine Man.t1 26 hHeld ?_
                (try simp only [Act.put, Mqa, Mqb, Mqc])
                refine Man.one (i := 27) rfl (by kernel_rfl) (fun K9 hK => ?_)
                go_simp
                have CC := CW.out _ z x HZM.out HXM.out (HBK.out _ HBD.out)
                rw [HRR.out] at CC
                with_reducible refine CC.mono ?_
                rintro e z5 ⟨rfl, hb⟩
                have HB5 := hide (HBD.out.trans (hb.mono HBD.out.size))
                clear hb CC
                refine hK.out _ _ (CE.out _ HB5.out) (fun hNew => ?_)
                clear hK K9 hHeld
                have hHeld := hNew
                clear hNew
                (try simp only [Act.put, Mqa, Mqb, Mqc])
                refine Man.t1 28 hHeld ?_
                (try simp only [Act.put, Mqa, Mqb, Mqc])
                refine wpAnyH_done (by kernel_rfl) ?_ _
                have HBD := HB5
                obtain ⟨wd, hwd⟩ : ∃ wd, wd = z5 := ⟨_, rfl⟩
                rw [← hwd] at HBD ⊢
                clear hwd HB5 hHeld
                obtain ⟨a0, a1, a2, a3, _⟩ := HXK.out wd HBD.out
                obtain ⟨_, z1, _⟩ := HCZ.out wd HBD.out
                have HX9 := hide (X3.set (b' := z.s.2) (HXK.out wd HBD.out))
                have HB9 := hide ((HBR.out wd HBD.out).setCell (p := ⟨wr.heap.size, 1, none⟩) (Nat.le_refl _) (.int .i64 z.s.2))
                go_wp2_with fail
                go_roundw
                case rel => exact ⟨q, z.s.2, by go_num, by omega, by omega, HX9, HB9, HC9⟩
                case measure => simp [intOf]; omega
              · have HNF3 := hide (HNF2.out (HNO.out fun h9 => hrr h9.2.symm))
                have HRR := hide (decide_eq_false hrr)
                clear hrr heq g6
                go_wp2_with fail
                refine wp_region_held_drew (S := fun u => u.cell? ⟨b0, off + q * 3, none⟩ = some (.int .i64 z.s.1) ∧ u.cell? ⟨b0, off + q * 3 + 2, none⟩ = some (.slice z.ro z.r.length z.rc) ∧ u.cell? ⟨wr.heap.size, 1, none⟩ = some (.int .i64 b) ∧ u.cell? ⟨wr.heap.size, 2, none⟩ = some (.slice x.ro x.r.length x.rc)) (by kernel_rfl) (CE.out _ HBD.out) (fun hHeld => ?_)
                refine Man.t1 0 hHeld ?_
                (try simp only [Act.put, Mqa, Mqb, Mqc])
                refine Man.t1 1 hHeld ?_
                (try simp only [Act.put, Mqa, Mqb, Mqc])
                refine Man.t1 2 hHeld ?_
                (try simp only [Act.put, Mqa, Mqb, Mqc])
                refine Man.t1 3 hHeld ?_
                (try simp only [Act.put, Mqa, Mqb, Mqc])
                refine Man.t1 4 hHeld ?_
                (try simp only [Act.put, Mqa, Mqb, Mqc])
                refine Man.t1 5 hHeld ?_
                (try simp only [Act.put, Mqa, Mqb, Mqc])
                refine Man.t1 6 hHeld ?_
                (try simp only [Act.put, Mqa, Mqb, Mqc])
                refine Man.t1 7 hHeld ?_
                (try simp only [Act.put, Mqa, Mqb, Mqc])
                refine Man.t1 8 hHeld ?_
                (try simp only [Act.put, Mqa, Mqb, Mqc])
                refine Man.t1 9 hHeld ?_
                (try simp only [Act.put, Mqa, Mqb, Mqc])
                refine Man.t1 10 hHeld ?_
                (try simp only [Act.put, Mqa, Mqb, Mqc])
                refine Man.t1 11 hHeld ?_
                (try simp only [Act.put, Mqa, Mqb, Mqc])
                refine Man.t1 12 hHeld ?_
                (try simp only [Act.put, Mqa, Mqb, Mqc])
                refine Man.t1 13 hHeld ?_
                (try simp only [Act.put, Mqa, Mqb, Mqc])
                refine Man.t1 14 hHeld ?_
                (try simp only [Act.put, Mqa, Mqb, Mqc])
                refine Man.t1 15 hHeld ?_
                (try simp only [Act.put, Mqa, Mqb, Mqc])
                refine Man.t1 16 hHeld ?_
                (try simp only [Act.put, Mqa, Mqb, Mqc])
                refine Man.t1 17 hHeld ?_
                (try simp only [Act.put, Mqa, Mqb, Mqc])
                refine Man.t1 18 hHeld ?_
                (try simp only [Act.put, Mqa, Mqb, Mqc])
                refine Man.t1 19 hHeld ?_
                (try simp only [Act.put, Mqa, Mqb, Mqc])
                refine Man.t1 20 hHeld ?_
                (try simp only [Act.put, Mqa, Mqb, Mqc])
                refine Man.t1 21 hHeld ?_
                (try simp only [Act.put, Mqa, Mqb, Mqc])
                refine Man.t1 22 hHeld ?_
                (try simp only [Act.put, Mqa, Mqb, Mqc])
                refine Man.t1 23 hHeld ?_
                (try simp only [Act.put, Mqa, Mqb, Mqc])
                refine Man.t1 24 hHeld ?_
                (try simp only [Act.put, Mqa, Mqb, Mqc])
                refine Man.t1 25 hHeld ?_
                (try simp only [Act.put, Mqa, Mqb, Mqc])
                refine Man.t1 26 hHeld ?_
                (try simp only [Act.put, Mqa, Mqb, Mqc])
                refine Man.one (i := 27) rfl (by kernel_rfl) (fun K9 hK => ?_)
                go_simp
                have CC := CW.out _ z x HZM.out HXM.out (HBK.out _ HBD.out)
                rw [HRR.out] at CC
                with_reducible refine CC.mono ?_
                rintro e z5 ⟨rfl, hb⟩
                have HB5 := hide (HBD.out.trans (hb.mono HBD.out.size))
                clear hb CC
                refine hK.out _ _ (CE.out _ HB5.out) (fun hNew => ?_)
                clear hK K9 hHeld
                have hHeld := hNew
                clear hNew
                (try simp only [Act.put, Mqa, Mqb, Mqc])
                refine Man.t1 28 hHeld ?_
                (try simp only [Act.put, Mqa, Mqb, Mqc])
                refine wpAnyH_done (by kernel_rfl) ?_ _
                have HBD := HB5
                obtain ⟨wd, hwd⟩ : ∃ wd, wd = z5 := ⟨_, rfl⟩
                rw [← hwd] at HBD ⊢
                clear hwd HB5 hHeld
                obtain ⟨a0, a1, a2, a3, _⟩ := HXK.out wd HBD.out
                have HB1 := hide ((HBK.out wd HBD.out).trans ((below_alloc wd (.cells #[.int .i64 x.s.1, .int .i64 b, .slice x.ro x.r.length x.rc] 54)).mono (HBK.out wd HBD.out).size))
                have HO1 := hide ((HOK.out wd HBD.out).later (below_alloc wd (.cells #[.int .i64 x.s.1, .int .i64 b, .slice x.ro x.r.length x.rc] 54)) (Nat.le_refl _))
                go_wp2_with (at_builtin; refine wpList_row3 tyR rfl _ _ rfl rfl rfl HO1.out (one3_at wd (cutTo x (x.s.1, b)) _ rfl) (by have := HML.out; simp; omega) HB1.out.size ?_)
                intro u9 w9 hu hg hob
                have HO9 := hide hu
                have HB9 := hide (HB1.out.grown hg HB1.out.size (fun k hk => (HO1.out.lt k hk).1))
                clear hu hg hob HB1 HO1
                go_wp2_with fail
                go_roundw
                case rel => exact ⟨k + 1, _, by go_num, by omega, HO9, HB9, HF2, HP2, HNF3⟩
                case measure => simp [intOf]; omega
            · have g5 : (z.s.1 == b) = false := by simp; exact fun e => heq e.symm
              have g6 : ¬ z.s.1 = b := fun e => heq e.symm
              have HNF3 := hide (HNF2.out (HNO.out fun h9 => heq h9.1))
              clear heq
              go_wp2_with fail
              refine wp_region_held_drew (S := fun u => u.cell? ⟨b0, off + q * 3, none⟩ = some (.int .i64 z.s.1) ∧ u.cell? ⟨b0, off + q * 3 + 2, none⟩ = some (.slice z.ro z.r.length z.rc) ∧ u.cell? ⟨wr.heap.size, 1, none⟩ = some (.int .i64 b) ∧ u.cell? ⟨wr.heap.size, 2, none⟩ = some (.slice x.ro x.r.length x.rc)) (by kernel_rfl) (CE.out _ HBD.out) (fun hHeld => ?_)
              refine Man.t1 0 hHeld ?_
              (try simp only [Act.put, Mqa, Mqb, Mqc])
              refine Man.t1 1 hHeld ?_
              (try simp only [Act.put, Mqa, Mqb, Mqc])
              refine Man.t1 2 hHeld ?_
              (try simp only [Act.put, Mqa, Mqb, Mqc])
              refine Man.t1 3 hHeld ?_
              (try simp only [Act.put, Mqa, Mqb, Mqc])
              refine Man.t1 4 hHeld ?_
              (try simp only [Act.put, Mqa, Mqb, Mqc])
              refine Man.t1 5 hHeld ?_
              (try simp only [Act.put, Mqa, Mqb, Mqc])
              refine Man.t1 6 hHeld ?_
              (try simp only [Act.put, Mqa, Mqb, Mqc])
              refine Man.t1 7 hHeld ?_
              (try simp only [Act.put, Mqa, Mqb, Mqc])
              refine Man.t1 8 hHeld ?_
              (try simp only [Act.put, Mqa, Mqb, Mqc])
              refine Man.t1 9 hHeld ?_
              (try simp only [Act.put, Mqa, Mqb, Mqc])
              refine Man.t1 10 hHeld ?_
              (try simp only [Act.put, Mqa, Mqb, Mqc])
              refine Man.t1 11 hHeld ?_
              (try simp only [Act.put, Mqa, Mqb, Mqc])
              refine Man.t1 12 hHeld ?_
              (try simp only [Act.put, Mqa, Mqb, Mqc])
              refine Man.t1 13 hHeld ?_
              (try simp only [Act.put, Mqa, Mqb, Mqc])
              refine Man.t1 14 hHeld ?_
              (try simp only [Act.put, Mqa, Mqb, Mqc])
              refine Man.t1 15 hHeld ?_
              (try simp only [Act.put, Mqa, Mqb, Mqc])
              refine Man.t1 16 hHeld ?_
              (try simp only [Act.put, Mqa, Mqb, Mqc])
              refine Man.t1 17 hHeld ?_
              (try simp only [Act.put, Mqa, Mqb, Mqc])
              refine Man.t1 18 hHeld ?_
              (try simp only [Act.put, Mqa, Mqb, Mqc])
              refine Man.take0 (i := 19) rfl (by kernel_rfl) (by kernel_rfl) (by kernel_rfl) (fun _ _ _ h => h) (by rfl) hHeld ?_
              (try simp only [Act.put, Mqa, Mqb, Mqc])
              refine Man.take0 (i := 20) rfl (by kernel_rfl) (by kernel_rfl) (by kernel_rfl) (fun _ _ _ h => h) (by rfl) hHeld ?_
              (try simp only [Act.put, Mqa, Mqb, Mqc])
              refine Man.take0 (i := 21) rfl (by kernel_rfl) (by kernel_rfl) (by kernel_rfl) (fun _ _ _ h => h) (by rfl) hHeld ?_
              (try simp only [Act.put, Mqa, Mqb, Mqc])
              refine Man.take0 (i := 22) rfl (by kernel_rfl) (by kernel_rfl) (by kernel_rfl) (fun _ _ _ h => h) (by rfl) hHeld ?_
              (try simp only [Act.put, Mqa, Mqb, Mqc])
              refine Man.take0 (i := 23) rfl (by kernel_rfl) (by kernel_rfl) (by kernel_rfl) (fun _ _ _ h => h) (by rfl) hHeld ?_
              (try simp only [Act.put, Mqa, Mqb, Mqc])
              refine Man.take0 (i := 24) rfl (by kernel_rfl) (by kernel_rfl) (by kernel_rfl) (fun _ _ _ h => h) (by rfl) hHeld ?_
              (try simp only [Act.put, Mqa, Mqb, Mqc])
              refine Man.take0 (i := 25) rfl (by kernel_rfl) (by kernel_rfl) (by kernel_rfl) (fun _ _ _ h => h) (by rfl) hHeld ?_
              (try simp only [Act.put, Mqa, Mqb, Mqc])
              refine Man.take0 (i := 26) rfl (by kernel_rfl) (by kernel_rfl) (by kernel_rfl) (fun _ _ _ h => h) (by rfl) hHeld ?_
              (try simp only [Act.put, Mqa, Mqb, Mqc])
              refine Man.take0 (i := 27) rfl (by kernel_rfl) (by kernel_rfl) (by kernel_rfl) (fun _ _ _ h => h) (by rfl) hHeld ?_
              (try simp only [Act.put, Mqa, Mqb, Mqc])
              refine Man.t1 28 hHeld ?_
              (try simp only [Act.put, Mqa, Mqb, Mqc])
              refine wpAnyH_done (by kernel_rfl) ?_ _
              obtain ⟨wd, hwd⟩ : ∃ wd, wd = wk.drew := ⟨_, rfl⟩
              rw [← hwd] at HBD ⊢
              clear hwd hHeld
              obtain ⟨a0, a1, a2, a3, _⟩ := HXK.out wd HBD.out
              have HB1 := hide ((HBK.out wd HBD.out).trans ((below_alloc wd (.cells #[.int .i64 x.s.1, .int .i64 b, .slice x.ro x.r.length x.rc] 54)).mono (HBK.out wd HBD.out).size))
              have HO1 := hide ((HOK.out wd HBD.out).later (below_alloc wd (.cells #[.int .i64 x.s.1, .int .i64 b, .slice x.ro x.r.length x.rc] 54)) (Nat.le_refl _))
              go_wp2_with (at_builtin; refine wpList_row3 tyR rfl _ _ rfl rfl rfl HO1.out (one3_at wd (cutTo x (x.s.1, b)) _ rfl) (by have := HML.out; simp; omega) HB1.out.size ?_)
              intro u9 w9 hu hg hob
              have HO9 := hide hu
              have HB9 := hide (HB1.out.grown hg HB1.out.size (fun k hk => (HO1.out.lt k hk).1))
              clear hu hg hob HB1 HO1
              go_wp2_with fail
              go_roundw
              case rel => exact ⟨k + 1, _, by go_num, by omega, HO9, HB9, HF2, HP2, HNF3⟩
              case measure => simp [intOf]; omega
          · obtain rfl : q = n := by have := HQ.out; omega
            have g4 : ¬ (q : Int) < (q : Int) := by omega
            have HNF3 := hide (HNF2.out (fun hi => by have := HN.out; omega))
            go_wp2_with fail
            refine wp_region_held_drew (S := fun u => u.cell? ⟨wr.heap.size, 1, none⟩ = some (.int .i64 b)) (by kernel_rfl) (HXK.out _ HBD.out).c1 (fun hHeld => ?_)
            refine Man.t1 0 hHeld ?_
            (try simp only [Act.put, Mqa, Mqb, Mqc])
            refine Man.t1 1 hHeld ?_
            (try simp only [Act.put, Mqa, Mqb, Mqc])
            refine Man.t1 2 hHeld ?_
            (try simp only [Act.put, Mqa, Mqb, Mqc])
            refine Man.t1 3 hHeld ?_
            (try simp only [Act.put, Mqa, Mqb, Mqc])
            refine Man.t1 4 hHeld ?_
            (try simp only [Act.put, Mqa, Mqb, Mqc])
            refine Man.t1 5 hHeld ?_
            (try simp only [Act.put, Mqa, Mqb, Mqc])
            refine Man.take0 (i := 6) rfl (by kernel_rfl) (by kernel_rfl) (by kernel_rfl) (fun _ _ _ h => h) (by rfl) hHeld ?_
            (try simp only [Act.put, Mqa, Mqb, Mqc])
            refine Man.take0 (i := 7) rfl (by kernel_rfl) (by kernel_rfl) (by kernel_rfl) (fun _ _ _ h => h) (by rfl) hHeld ?_
            (try simp only [Act.put, Mqa, Mqb, Mqc])
            refine Man.take0 (i := 8) rfl (by kernel_rfl) (by kernel_rfl) (by kernel_rfl) (fun _ _ _ h => h) (by rfl) hHeld ?_
            (try simp only [Act.put, Mqa, Mqb, Mqc])
            refine Man.take0 (i := 9) rfl (by kernel_rfl) (by kernel_rfl) (by kernel_rfl) (fun _ _ _ h => h) (by rfl) hHeld ?_
            (try simp only [Act.put, Mqa, Mqb, Mqc])
            refine Man.take0 (i := 10) rfl (by kernel_rfl) (by kernel_rfl) (by kernel_rfl) (fun _ _ _ h => h) (by rfl) hHeld ?_
            (try simp only [Act.put, Mqa, Mqb, Mqc])
            refine Man.take0 (i := 11) rfl (by kernel_rfl) (by kernel_rfl) (by kernel_rfl) (fun _ _ _ h => h) (by rfl) hHeld ?_
            (try simp only [Act.put, Mqa, Mqb, Mqc])
            refine Man.take0 (i := 12) rfl (by kernel_rfl) (by kernel_rfl) (by kernel_rfl) (fun _ _ _ h => h) (by rfl) hHeld ?_
            (try simp only [Act.put, Mqa, Mqb, Mqc])
            refine Man.take0 (i := 13) rfl (by kernel_rfl) (by kernel_rfl) (by kernel_rfl) (fun _ _ _ h => h) (by rfl) hHeld ?_
            (try simp only [Act.put, Mqa, Mqb, Mqc])
            refine Man.take0 (i := 14) rfl (by kernel_rfl) (by kernel_rfl) (by kernel_rfl) (fun _ _ _ h => h) (by rfl) hHeld ?_
            (try simp only [Act.put, Mqa, Mqb, Mqc])
            refine Man.take0 (i := 15) rfl (by kernel_rfl) (by kernel_rfl) (by kernel_rfl) (fun _ _ _ h => h) (by rfl) hHeld ?_
            (try simp only [Act.put, Mqa, Mqb, Mqc])
            refine Man.take0 (i := 16) rfl (by kernel_rfl) (by kernel_rfl) (by kernel_rfl) (fun _ _ _ h => h) (by rfl) hHeld ?_
            (try simp only [Act.put, Mqa, Mqb, Mqc])
            refine Man.t1 17 hHeld ?_
            (try simp only [Act.put, Mqa, Mqb, Mqc])
            refine Man.t1 18 hHeld ?_
            (try simp only [Act.put, Mqa, Mqb, Mqc])
            refine Man.take0 (i := 19) rfl (by kernel_rfl) (by kernel_rfl) (by kernel_rfl) (fun _ _ _ h => h) (by rfl) hHeld ?_
            (try simp only [Act.put, Mqa, Mqb, Mqc])
            refine Man.take0 (i := 20) rfl (by kernel_rfl) (by kernel_rfl) (by kernel_rfl) (fun _ _ _ h => h) (by rfl) hHeld ?_
            (try simp only [Act.put, Mqa, Mqb, Mqc])
            refine Man.take0 (i := 21) rfl (by kernel_rfl) (by kernel_rfl) (by kernel_rfl) (fun _ _ _ h => h) (by rfl) hHeld ?_
            (try simp only [Act.put, Mqa, Mqb, Mqc])
            refine Man.take0 (i := 22) rfl (by kernel_rfl) (by kernel_rfl) (by kernel_rfl) (fun _ _ _ h => h) (by rfl) hHeld ?_
            (try simp only [Act.put, Mqa, Mqb, Mqc])
            refine Man.take0 (i := 23) rfl (by kernel_rfl) (by kernel_rfl) (by kernel_rfl) (fun _ _ _ h => h) (by rfl) hHeld ?_
            (try simp only [Act.put, Mqa, Mqb, Mqc])
            refine Man.take0 (i := 24) rfl (by kernel_rfl) (by kernel_rfl) (by kernel_rfl) (fun _ _ _ h => h) (by rfl) hHeld ?_
            (try simp only [Act.put, Mqa, Mqb, Mqc])
            refine Man.take0 (i := 25) rfl (by kernel_rfl) (by kernel_rfl) (by kernel_rfl) (fun _ _ _ h => h) (by rfl) hHeld ?_
            (try simp only [Act.put, Mqa, Mqb, Mqc])
            refine Man.take0 (i := 26) rfl (by kernel_rfl) (by kernel_rfl) (by kernel_rfl) (fun _ _ _ h => h) (by rfl) hHeld ?_
            (try simp only [Act.put, Mqa, Mqb, Mqc])
            refine Man.take0 (i := 27) rfl (by kernel_rfl) (by kernel_rfl) (by kernel_rfl) (fun _ _ _ h => h) (by rfl) hHeld ?_
            (try simp only [Act.put, Mqa, Mqb, Mqc])
            refine Man.t1 28 hHeld ?_
            (try simp only [Act.put, Mqa, Mqb, Mqc])
            refine wpAnyH_done (by kernel_rfl) ?_ _
            obtain ⟨wd, hwd⟩ : ∃ wd, wd = wk.drew := ⟨_, rfl⟩
            rw [← hwd] at HBD ⊢
            clear hwd hHeld
            obtain ⟨a0, a1, a2, a3, _⟩ := HXK.out wd HBD.out
            have HB1 := hide ((HBK.out wd HBD.out).trans ((below_alloc wd (.cells #[.int .i64 x.s.1, .int .i64 b, .slice x.ro x.r.length x.rc] 54)).mono (HBK.out wd HBD.out).size))
            have HO1 := hide ((HOK.out wd HBD.out).later (below_alloc wd (.cells #[.int .i64 x.s.1, .int .i64 b, .slice x.ro x.r.length x.rc] 54)) (Nat.le_refl _))
            go_wp2_with (at_builtin; refine wpList_row3 tyR rfl _ _ rfl rfl rfl HO1.out (one3_at wd (cutTo x (x.s.1, b)) _ rfl) (by have := HML.out; simp; omega) HB1.out.size ?_)
            intro u9 w9 hu hg hob
            have HO9 := hide hu
            have HB9 := hide (HB1.out.grown hg HB1.out.size (fun k hk => (HO1.out.lt k hk).1))
            clear hu hg hob HB1 HO1
            go_wp2_with fail
            go_roundw
            case rel => exact ⟨k + 1, _, by go_num, by omega, HO9, HB9, HF2, HP2, HNF3⟩
            case measure => simp [intOf]; omega
      · obtain rfl : i = n := by omega
        have g1 : ¬ (i : Int) < (i : Int) := by omega
        have HE := hide (show pcs m = coalR (pcs l) from by rw [HP.out, HD.out, HN.out, List.take_length])
        go_wp2_with fail
        go_ret
        exact ⟨m, _, rfl, HO.out.pieces, HF.out, HE.out, HB.out⟩
  · have HD := hide (show coalR (pcs l) = pcs l from if_neg hok)
    rw [decide_eq_false hok] at CR
    clear hok
    go_enter Try.func24, Try.ntmps24
    go_wp2_with fail
    refine CR.out.mono ?_
    rintro e w1 ⟨rfl, hb⟩
    have HB1 := hide hb
    clear hb CR
    go_wp2_with fail
    go_ret
    exact ⟨l, _, rfl, by have h9 := HA.out.later HB1.out (Nat.le_refl _); rw [← HN.out] at h9; exact h9, From.refl l, HD.out.symm, HB1.out⟩
end Prd
end Go.Proofs.Ytoacombaddknfaa
