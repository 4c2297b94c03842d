/- The program's Coalesce. Condition: no more than a million values a row, a thousand pieces. -/
import Derived.Test.YtoacombaddknfaaR4
import Derived.Test.YtoacombaddknfaaR5
import Derived.Test.YtoacombaddknfaaOm
namespace Go.Proofs.Ytoacombaddknfaa
open Go.RowKit
namespace Prd
open Spn (Sp hide At below_alloc Right)
open Cod (V RowAt S)
theorem flat3_set (l : List Pm) (q : Pm) (x : Int) : (flat3 (l ++ [q])).set (l.length * 3 + 1) (.int .i64 x) = flat3 (l ++ [⟨(q.s.1, x), q.r, q.ro, q.rc⟩]) := by
  rw [flat3_app, flat3_app, List.set_append_right _ _ (by rw [flat3_len]; omega), flat3_len]
  rw [show l.length * 3 + 1 - l.length * 3 = 1 by omega]
  rfl
/-- The end of the last one is set. -/
theorem Row3.set {e : TypeId} {base g cap n : Nat} {l : List Pm} {q : Pm} {w : World} (h : Row3 e base (l ++ [q]) (.slice (some ⟨g, 0, none⟩) n cap) w) (x : Int) :
    Row3 e base (l ++ [⟨(q.s.1, x), q.r, q.ro, q.rc⟩]) (.slice (some ⟨g, 0, none⟩) n cap) (w.setCell ⟨g, l.length * 3 + 1, none⟩ (.int .i64 x)) := by
  have hn : n = l.length + 1 := by
    obtain ⟨_, _, h1, _⟩ := h.form
    simp only [Value.slice.injEq] at h1
    rw [h1.2.1]; simp
  subst hn
  unfold Row3 at h ⊢
  rw [show (l ++ [(⟨(q.s.1, x), q.r, q.ro, q.rc⟩ : Pm)]).length = l.length + 1 by simp]
  rw [show (l ++ [q]).length = l.length + 1 by simp] at h
  rw [← flat3_set]
  exact (h.stored _ _).1
theorem small_from {l m : List Pm} (hs : Small l) (hf : From l m) (hn : m.length ≤ 1000) : Small m := hf.small hs hn
theorem coal_len3 {l m : List Pm} (hp : pcs m = coal (pcs l)) : m.length ≤ l.length := by
  have := congrArg List.length hp
  rw [pcs_len] at this
  rw [this]
  have h2 := coal_len (pcs l)
  rwa [pcs_len] at h2
set_option maxHeartbeats 8000000 in
set_option maxRecDepth 100000 in
theorem coal_any {l : List Pm} {sl : Value} {w : World} (h : PcsAt l sl w) (hr : Rows3 l w) (hs : Small l) :
    Calls Try.prog 23 #[sl] w fun e w' => ∃ (m : List Pm) (v : Value), e = .returned v ∧ Owns w.heap.size m v w' ∧ pcs m = coalR (pcs l) ∧ Below w.heap.size w w' := by
  have C1 := hide (right_any h hr hs)
  have HA := hide h
  have HR := hide hr
  have HS := hide hs
  obtain ⟨so, sc, rfl, _, _⟩ := h.form
  by_cases hok : Ok Good (pcs l)
  · rw [decide_eq_true hok] at C1
    have HC := hide (show coalR (pcs l) = coal (pcs l) from if_pos hok)
    obtain ⟨n, hn⟩ : ∃ n, n = l.length := ⟨_, rfl⟩
    have hl : n ≤ 1000 := by rw [hn]; exact hs.n
    rw [← hn] at C1 ⊢
    have HN := hide hn
    clear h hr hs hn hok
    go_enter Try.func23, Try.ntmps23
    go_wp2_with fail
    refine C1.out.mono ?_
    rintro e w1 ⟨rfl, hb⟩
    have HB1 := hide hb
    clear hb C1
    go_wp2_with fail
    go_loopw [3, 14] (fun fv ii wr => ∃ (i : Nat) (m : List Pm), ii = .int .i64 i ∧ i ≤ n ∧ Hid (Row3 56 w.heap.size m fv wr) ∧ Hid (Below w.heap.size w wr) ∧ Hid (From l m) ∧ Hid (pcs m = coal (pcs (l.take i)))) (fun _ ii _ => (n - (intOf ii).toNat))
    case atStart => exact ⟨0, [], rfl, by omega, hide (Row3.nil _ _ _), HB1, hide (From.nil l), hide rfl⟩
    case round =>
      rename World => wr
      obtain ⟨i, m, rfl, hi, HO, HB, HF, HP⟩ := hrel
      clear HB1
      have HML := hide (show m.length ≤ n from by have h1 := coal_len3 HP.out; rw [List.length_take] at h1; omega)
      rcases Nat.lt_or_ge i n with hlt | hge
      · have g1 : (i : Int) < (n : Int) := by omega
        have hil : i < l.length := by rw [← HN.out]; exact hlt
        obtain ⟨b0, off, cap, he, hbw, k0, k1, k2⟩ := (HA.out.later HB.out (Nat.le_refl _)).at i hil
        rw [← HN.out] at he
        simp only [Value.slice.injEq] at he
        obtain ⟨rfl, _, rfl⟩ := he
        have HTK := hide (coal_take3 hil)
        have hmem := List.getElem_mem hil
        obtain ⟨x, hx⟩ : ∃ x, x = l[i] := ⟨_, rfl⟩
        rw [← hx] at k0 k1 k2 hmem HTK
        rw [← HP.out] at HTK
        have HMEM := hide hmem
        have HRX := hide (show ∀ u : World, Below w.heap.size w u → RowAt x.r x.sl u from fun u hu => (HR.out.later hu) _ hmem)
        have HXL := hide (HS.out.r _ hmem)
        have HFX := hide (show From l [x] from fun z hz => ⟨x, hmem, by rw [List.mem_singleton.1 hz], by rw [List.mem_singleton.1 hz], by rw [List.mem_singleton.1 hz]⟩)
        have HLN := hide (show m.length + [x].length ≤ 100000 from by have := HML.out; show m.length + 1 ≤ _; omega)
        clear hx hbw hmem
        obtain ⟨kp, hkp⟩ : ∃ kp, kp = wr.heap.size := ⟨_, rfl⟩
        have hQ := (below_alloc wr (.cells #[.int .i64 x.s.1, .int .i64 x.s.2, .slice x.ro x.r.length x.rc] 56)).drew
        obtain ⟨wd, hwd⟩ : ∃ wd, wd = (wr.alloc (.cells #[.int .i64 x.s.1, .int .i64 x.s.2, .slice x.ro x.r.length x.rc] 56)).drew := ⟨_, rfl⟩
        rw [← hwd] at hQ
        have HBD := hide (HB.out.trans (hQ.mono HB.out.size))
        have HOD := hide (HO.out.later hQ (Nat.le_refl _))
        have HXD := hide (show Bx3 x kp wd from by
          rw [hkp, hwd]
          have h1 := Bx3.new wr x 56
          exact h1.later (Below.refl (wr.heap.size + 1) _).drew (Nat.lt_succ_self _))
        have HNK := hide (show ∀ g, u3.ownBlock = some g → g ≠ kp from fun g hg => by have := (HO.out.lt g hg).2; omega)
        clear hQ
        rcases List.eq_nil_or_concat m with hm | ⟨m', q, hm⟩
        · subst hm
          obtain ⟨fo, fc, rfl, _, _⟩ := HO.out.form
          have HP2 := hide (show pcs ([] ++ [x]) = coal (pcs (l.take (i + 1))) from by rw [HTK.out]; rfl)
          simp only [List.length_nil] at HOD HNK ⊢
          go_wp2_with fail
          refine wp_region_held_drew (S := fun u => u.cell? ⟨kp, 0, none⟩ = some (.int .i64 x.s.1)) (by kernel_rfl) (by rw [← hwd]; exact HXD.out.c0) (fun hHeld => ?_)
          rw [← hwd] at hHeld ⊢
          rw [← hkp]
          clear hwd hkp
          refine Man.t1 0 hHeld ?_
          (try simp only [Act.put, Mqa, Mqb, Mqc])
          refine Man.t1 1 hHeld ?_
          (try simp only [Act.put, Mqa, Mqb, Mqc])
          refine Man.t1 2 hHeld ?_
          (try simp only [Act.put, Mqa, Mqb, Mqc])
          refine Man.take0 (i := 3) rfl (by kernel_rfl) (by kernel_rfl) (by kernel_rfl) (fun _ _ _ h => h) (by rfl) hHeld ?_
          (try simp only [Act.put, Mqa, Mqb, Mqc])
          refine Man.take0 (i := 4) rfl (by kernel_rfl) (by kernel_rfl) (by kernel_rfl) (fun _ _ _ h => h) (by rfl) hHeld ?_
          (try simp only [Act.put, Mqa, Mqb, Mqc])
          refine Man.take0 (i := 5) rfl (by kernel_rfl) (by kernel_rfl) (by kernel_rfl) (fun _ _ _ h => h) (by rfl) hHeld ?_
          (try simp only [Act.put, Mqa, Mqb, Mqc])
          refine Man.take0 (i := 6) rfl (by kernel_rfl) (by kernel_rfl) (by kernel_rfl) (fun _ _ _ h => h) (by rfl) hHeld ?_
          (try simp only [Act.put, Mqa, Mqb, Mqc])
          refine Man.take0 (i := 7) rfl (by kernel_rfl) (by kernel_rfl) (by kernel_rfl) (fun _ _ _ h => h) (by rfl) hHeld ?_
          (try simp only [Act.put, Mqa, Mqb, Mqc])
          refine Man.take0 (i := 8) rfl (by kernel_rfl) (by kernel_rfl) (by kernel_rfl) (fun _ _ _ h => h) (by rfl) hHeld ?_
          (try simp only [Act.put, Mqa, Mqb, Mqc])
          refine Man.take0 (i := 9) rfl (by kernel_rfl) (by kernel_rfl) (by kernel_rfl) (fun _ _ _ h => h) (by rfl) hHeld ?_
          (try simp only [Act.put, Mqa, Mqb, Mqc])
          refine Man.take0 (i := 10) rfl (by kernel_rfl) (by kernel_rfl) (by kernel_rfl) (fun _ _ _ h => h) (by rfl) hHeld ?_
          (try simp only [Act.put, Mqa, Mqb, Mqc])
          refine Man.take0 (i := 11) rfl (by kernel_rfl) (by kernel_rfl) (by kernel_rfl) (fun _ _ _ h => h) (by rfl) hHeld ?_
          (try simp only [Act.put, Mqa, Mqb, Mqc])
          refine Man.take0 (i := 12) rfl (by kernel_rfl) (by kernel_rfl) (by kernel_rfl) (fun _ _ _ h => h) (by rfl) hHeld ?_
          (try simp only [Act.put, Mqa, Mqb, Mqc])
          refine Man.t1 13 hHeld ?_
          (try simp only [Act.put, Mqa, Mqb, Mqc])
          refine Man.t1 14 hHeld ?_
          (try simp only [Act.put, Mqa, Mqb, Mqc])
          refine Man.take0 (i := 15) rfl (by kernel_rfl) (by kernel_rfl) (by kernel_rfl) (fun _ _ _ h => h) (by rfl) hHeld ?_
          (try simp only [Act.put, Mqa, Mqb, Mqc])
          refine Man.take0 (i := 16) rfl (by kernel_rfl) (by kernel_rfl) (by kernel_rfl) (fun _ _ _ h => h) (by rfl) hHeld ?_
          (try simp only [Act.put, Mqa, Mqb, Mqc])
          refine Man.take0 (i := 17) rfl (by kernel_rfl) (by kernel_rfl) (by kernel_rfl) (fun _ _ _ h => h) (by rfl) hHeld ?_
          (try simp only [Act.put, Mqa, Mqb, Mqc])
          refine Man.take0 (i := 18) rfl (by kernel_rfl) (by kernel_rfl) (by kernel_rfl) (fun _ _ _ h => h) (by rfl) hHeld ?_
          (try simp only [Act.put, Mqa, Mqb, Mqc])
          refine Man.take0 (i := 19) rfl (by kernel_rfl) (by kernel_rfl) (by kernel_rfl) (fun _ _ _ h => h) (by rfl) hHeld ?_
          (try simp only [Act.put, Mqa, Mqb, Mqc])
          refine Man.take0 (i := 20) rfl (by kernel_rfl) (by kernel_rfl) (by kernel_rfl) (fun _ _ _ h => h) (by rfl) hHeld ?_
          (try simp only [Act.put, Mqa, Mqb, Mqc])
          refine Man.take0 (i := 21) rfl (by kernel_rfl) (by kernel_rfl) (by kernel_rfl) (fun _ _ _ h => h) (by rfl) hHeld ?_
          (try simp only [Act.put, Mqa, Mqb, Mqc])
          refine Man.take0 (i := 22) rfl (by kernel_rfl) (by kernel_rfl) (by kernel_rfl) (fun _ _ _ h => h) (by rfl) hHeld ?_
          (try simp only [Act.put, Mqa, Mqb, Mqc])
          refine Man.t1 23 hHeld ?_
          (try simp only [Act.put, Mqa, Mqb, Mqc])
          refine wpAnyH_done (by kernel_rfl) ?_ _
          obtain ⟨p0, p1, p2, _⟩ := HXD.out
          have HQA := hide (below_alloc wd (.cells #[.int .i64 x.s.1, .int .i64 x.s.2, .slice x.ro x.r.length x.rc] 56))
          have HMA := hide (show PcsAt [x] (.slice (some ⟨wd.heap.size, 0, none⟩) 1 1) (wd.alloc (.cells #[.int .i64 x.s.1, .int .i64 x.s.2, .slice x.ro x.r.length x.rc] 56)) from one3_at wd x 56 rfl)
          have HOA := hide (HOD.out.later HQA.out (Nat.le_refl _))
          have HBA := hide (HBD.out.trans (HQA.out.mono HBD.out.size))
          have HF2 := hide (HF.out.app HFX.out)
          go_wp2_with (at_builtin; refine wpList_row3 (l := []) (m := [x]) tyP rfl _ _ rfl rfl rfl HOA.out HMA.out HLN.out HBA.out.size (fun u z3 hu hg hob => ?_))
          have HU := hide hu
          have HB4 := hide (HBA.out.grown hg HBA.out.size (fun k9 hk9 => (HOA.out.lt k9 hk9).1))
          clear hu hg hob
          go_wp2_with fail
          go_roundw
          case rel => exact ⟨i + 1, _, by go_num, by omega, HU, HB4, HF2, HP2⟩
          case measure => simp [intOf]; omega
        · rw [List.concat_eq_append] at hm
          subst hm
          obtain ⟨g, fc, rfl, _, _, _, _⟩ := HO.out.held (by simp)
          obtain ⟨k, hk⟩ : ∃ k, k = m'.length := ⟨_, rfl⟩
          obtain ⟨h9, hh9⟩ : ∃ h9, h9 = (m' ++ [q]).length := ⟨_, rfl⟩
          have hh : h9 = k + 1 := by rw [hh9, hk]; simp
          have hh1 : h9 ≤ 1000 := by rw [hh9]; have := HML.out; omega
          rw [← hh9] at HO HOD HNK ⊢
          have HK := hide hk
          have HH9 := hide hh9
          have f1 : (h9 : Int) - 1 = (k : Int) := by omega
          have f2 : IntKind.i64.wrap (k : Int) = (k : Int) := by simp only [IntKind.wrap_i64]; omega
          have f3 : (0 : Int) ≤ (k : Int) := by omega
          have f4 : (k : Int) < (h9 : Int) := by omega
          have HH := hide hh
          clear hh
          have HQM := hide (show q ∈ m' ++ [q] from by simp)
          have CQ := hide (show ∀ u : World, Row3 56 w.heap.size (m' ++ [q]) (.slice (some ⟨g, 0, none⟩) h9 fc) u → u.cell? ⟨g, k * 3 + 1, none⟩ = some (.int .i64 q.s.2) ∧ u.cell? ⟨g, k * 3 + 2, none⟩ = some (.slice q.ro q.r.length q.rc) from fun u hu => by
            have h1 := (hu.pieces.got k (by rw [← HH9.out, HH.out]; omega)).2
            have e : (m' ++ [q])[k]'(by rw [← HH9.out, HH.out]; omega) = q := by simp [HK.out]
            rw [e] at h1
            simp only [Nat.zero_add] at h1
            exact ⟨h1.2.1, h1.2.2⟩)
          have CE := hide (show ∀ u : World, Row3 56 w.heap.size (m' ++ [q]) (.slice (some ⟨g, 0, none⟩) h9 fc) u → Bx3 x kp u → (u.cell? ⟨g, k * 3 + 1, none⟩ = some (.int .i64 q.s.2) ∧ u.cell? ⟨g, k * 3 + 2, none⟩ = some (.slice q.ro q.r.length q.rc) ∧ u.cell? ⟨kp, 0, none⟩ = some (.int .i64 x.s.1) ∧ u.cell? ⟨kp, 1, none⟩ = some (.int .i64 x.s.2) ∧ u.cell? ⟨kp, 2, none⟩ = some (.slice x.ro x.r.length x.rc)) from fun u h1 h2 => ⟨(CQ.out u h1).1, (CQ.out u h1).2, h2.c0, h2.c1, h2.c2⟩)
          obtain ⟨yq, hyq, er, eo, ec⟩ := HF.out q HQM.out
          have HRQ := hide (show ∀ u : World, Below w.heap.size w u → RowAt q.r q.sl u from fun u hu => by
            have := (HR.out.later hu) _ hyq
            unfold Pm.sl at this ⊢
            rw [er, eo, ec]; exact this)
          have HQL := hide (show q.r.length ≤ 1000000 from by rw [er]; exact HS.out.r _ hyq)
          have HPC := hide (show pcs (m' ++ [q]) = pcs m' ++ [q.pc] from by rw [pcs_app]; rfl)
          clear hyq er eo ec hk hh9
          by_cases hto : q.s.2 = x.s.1
          · have g2 : (q.s.2 == x.s.1) = true := by simpa using hto
            have C2 := hide (show ∀ u : World, Below w.heap.size w u → Calls Try.prog 46 #[.slice q.ro q.r.length q.rc, .slice x.ro x.r.length x.rc] u fun e w' => e = .returned (.bool (decide (q.r = x.r))) ∧ Below u.heap.size u w' from fun u hu => Cod.equal_any q.r x.r q.sl x.sl HQL.out HXL.out u (HRQ.out u hu) (HRX.out u hu))
            by_cases hrr : q.r = x.r
            · rw [decide_eq_true hrr] at C2
              have HFU := hide (show coal (pcs (l.take (i + 1))) = pcs (m' ++ [⟨(q.s.1, x.s.2), q.r, q.ro, q.rc⟩]) from by
                rw [HTK.out, HPC.out, fuse_snoc, if_pos ⟨hto, hrr⟩, pcs_app]; rfl)
              have HF2 := hide (show From l (m' ++ [⟨(q.s.1, x.s.2), q.r, q.ro, q.rc⟩]) from fun z hz => by
                rcases List.mem_append.1 hz with hz | hz
                · exact HF.out z (by simp [hz])
                · rw [List.mem_singleton.1 hz]; exact HF.out q HQM.out)
              clear hto hrr
              go_wp2_with fail
              refine wp_region_held_drew (S := fun u => u.cell? ⟨g, k * 3 + 1, none⟩ = some (.int .i64 q.s.2) ∧ u.cell? ⟨g, k * 3 + 2, none⟩ = some (.slice q.ro q.r.length q.rc) ∧ u.cell? ⟨kp, 0, none⟩ = some (.int .i64 x.s.1) ∧ u.cell? ⟨kp, 1, none⟩ = some (.int .i64 x.s.2) ∧ u.cell? ⟨kp, 2, none⟩ = some (.slice x.ro x.r.length x.rc)) (by kernel_rfl) (by rw [← hwd]; exact CE.out _ HOD.out HXD.out) (fun hHeld => ?_)
              rw [← hwd] at hHeld ⊢
              rw [← hkp]
              clear hwd hkp
              refine Man.t1 0 hHeld ?_
              (try simp only [Act.put, Mqa, Mqb, Mqc])
              refine Man.t1 1 hHeld ?_
              (try simp only [Act.put, Mqa, Mqb, Mqc])
              refine Man.t1 2 hHeld ?_
              (try simp only [Act.put, Mqa, Mqb, Mqc])
              refine Man.t1 3 hHeld ?_
              (try simp only [Act.put, Mqa, Mqb, Mqc])
              refine Man.t1 4 hHeld ?_
              (try simp only [Act.put, Mqa, Mqb, Mqc])
              refine Man.t1 5 hHeld ?_
              (try simp only [Act.put, Mqa, Mqb, Mqc])
              refine Man.t1 6 hHeld ?_
              (try simp only [Act.put, Mqa, Mqb, Mqc])
              refine Man.t1 7 hHeld ?_
              (try simp only [Act.put, Mqa, Mqb, Mqc])
              refine Man.t1 8 hHeld ?_
              (try simp only [Act.put, Mqa, Mqb, Mqc])
              refine Man.t1 9 hHeld ?_
              (try simp only [Act.put, Mqa, Mqb, Mqc])
              refine Man.t1 10 hHeld ?_
              (try simp only [Act.put, Mqa, Mqb, Mqc])
              refine Man.t1 11 hHeld ?_
              (try simp only [Act.put, Mqa, Mqb, Mqc])
              refine Man.t1 12 hHeld ?_
              (try simp only [Act.put, Mqa, Mqb, Mqc])
              refine Man.t1 13 hHeld ?_
              (try simp only [Act.put, Mqa, Mqb, Mqc])
              refine Man.t1 14 hHeld ?_
              (try simp only [Act.put, Mqa, Mqb, Mqc])
              refine Man.t1 15 hHeld ?_
              (try simp only [Act.put, Mqa, Mqb, Mqc])
              refine Man.t1 16 hHeld ?_
              (try simp only [Act.put, Mqa, Mqb, Mqc])
              refine Man.t1 17 hHeld ?_
              (try simp only [Act.put, Mqa, Mqb, Mqc])
              refine Man.t1 18 hHeld ?_
              (try simp only [Act.put, Mqa, Mqb, Mqc])
              refine Man.t1 19 hHeld ?_
              (try simp only [Act.put, Mqa, Mqb, Mqc])
              refine Man.t1 20 hHeld ?_
              (try simp only [Act.put, Mqa, Mqb, Mqc])
              refine Man.t1 21 hHeld ?_
              (try simp only [Act.put, Mqa, Mqb, Mqc])
              refine Man.one (i := 22) rfl (by kernel_rfl) (fun K9 hK => ?_)
              go_simp
              with_reducible refine (C2.out _ HBD.out).mono ?_
              rintro e z1 ⟨rfl, hb⟩
              have HB2 := hide (HBD.out.trans (hb.mono HBD.out.size))
              have HO2 := hide (HOD.out.later hb (Nat.le_refl _))
              have HX2 := hide (HXD.out.later hb HXD.out.lt)
              clear hb
              refine hK.out _ _ (CE.out _ HO2.out HX2.out) (fun hNew => ?_)
              clear hK K9 hHeld
              have hHeld := hNew
              clear hNew
              (try simp only [Act.put, Mqa, Mqb, Mqc])
              refine Man.t1 23 hHeld ?_
              (try simp only [Act.put, Mqa, Mqb, Mqc])
              refine wpAnyH_done (by kernel_rfl) ?_ _
              have q1 := (CQ.out _ HO2.out).1
              have q2 : z1.frozen? ⟨g, k * 3 + 1, none⟩ = false := by have h8 := HO2.out; rw [HH9.out] at h8; unfold Row3 at h8; exact h8.frozenAt _
              obtain ⟨p0, p1, p2, _⟩ := HX2.out
              have HO3 := hide (show Row3 56 w.heap.size (m' ++ [⟨(q.s.1, x.s.2), q.r, q.ro, q.rc⟩]) (.slice (some ⟨g, 0, none⟩) h9 fc) (z1.setCell ⟨g, k * 3 + 1, none⟩ (.int .i64 x.s.2)) from by rw [HK.out]; exact HO2.out.set x.s.2)
              have HB3 := hide (HB2.out.setCell (p := ⟨g, k * 3 + 1, none⟩) (HO2.out.lt g rfl).1 (.int .i64 x.s.2))
              go_wp2_with fail
              go_roundw
              case rel => exact ⟨i + 1, _, by go_num, by omega, HO3, HB3, HF2, hide HFU.out.symm⟩
              case measure => simp [intOf]; omega
            · rw [decide_eq_false hrr] at C2
              have HP2 := hide (show pcs ((m' ++ [q]) ++ [x]) = coal (pcs (l.take (i + 1))) from by
                rw [HTK.out, HPC.out, fuse_snoc, if_neg (fun h8 => hrr h8.2), pcs_app, HPC.out]; rfl)
              clear hto hrr
              go_wp2_with fail
              refine wp_region_held_drew (S := fun u => u.cell? ⟨g, k * 3 + 1, none⟩ = some (.int .i64 q.s.2) ∧ u.cell? ⟨g, k * 3 + 2, none⟩ = some (.slice q.ro q.r.length q.rc) ∧ u.cell? ⟨kp, 0, none⟩ = some (.int .i64 x.s.1) ∧ u.cell? ⟨kp, 1, none⟩ = some (.int .i64 x.s.2) ∧ u.cell? ⟨kp, 2, none⟩ = some (.slice x.ro x.r.length x.rc)) (by kernel_rfl) (by rw [← hwd]; exact CE.out _ HOD.out HXD.out) (fun hHeld => ?_)
              rw [← hwd] at hHeld ⊢
              rw [← hkp]
              clear hwd hkp
              refine Man.t1 0 hHeld ?_
              (try simp only [Act.put, Mqa, Mqb, Mqc])
              refine Man.t1 1 hHeld ?_
              (try simp only [Act.put, Mqa, Mqb, Mqc])
              refine Man.t1 2 hHeld ?_
              (try simp only [Act.put, Mqa, Mqb, Mqc])
              refine Man.t1 3 hHeld ?_
              (try simp only [Act.put, Mqa, Mqb, Mqc])
              refine Man.t1 4 hHeld ?_
              (try simp only [Act.put, Mqa, Mqb, Mqc])
              refine Man.t1 5 hHeld ?_
              (try simp only [Act.put, Mqa, Mqb, Mqc])
              refine Man.t1 6 hHeld ?_
              (try simp only [Act.put, Mqa, Mqb, Mqc])
              refine Man.t1 7 hHeld ?_
              (try simp only [Act.put, Mqa, Mqb, Mqc])
              refine Man.t1 8 hHeld ?_
              (try simp only [Act.put, Mqa, Mqb, Mqc])
              refine Man.t1 9 hHeld ?_
              (try simp only [Act.put, Mqa, Mqb, Mqc])
              refine Man.t1 10 hHeld ?_
              (try simp only [Act.put, Mqa, Mqb, Mqc])
              refine Man.t1 11 hHeld ?_
              (try simp only [Act.put, Mqa, Mqb, Mqc])
              refine Man.t1 12 hHeld ?_
              (try simp only [Act.put, Mqa, Mqb, Mqc])
              refine Man.t1 13 hHeld ?_
              (try simp only [Act.put, Mqa, Mqb, Mqc])
              refine Man.t1 14 hHeld ?_
              (try simp only [Act.put, Mqa, Mqb, Mqc])
              refine Man.t1 15 hHeld ?_
              (try simp only [Act.put, Mqa, Mqb, Mqc])
              refine Man.t1 16 hHeld ?_
              (try simp only [Act.put, Mqa, Mqb, Mqc])
              refine Man.t1 17 hHeld ?_
              (try simp only [Act.put, Mqa, Mqb, Mqc])
              refine Man.t1 18 hHeld ?_
              (try simp only [Act.put, Mqa, Mqb, Mqc])
              refine Man.t1 19 hHeld ?_
              (try simp only [Act.put, Mqa, Mqb, Mqc])
              refine Man.t1 20 hHeld ?_
              (try simp only [Act.put, Mqa, Mqb, Mqc])
              refine Man.t1 21 hHeld ?_
              (try simp only [Act.put, Mqa, Mqb, Mqc])
              refine Man.one (i := 22) rfl (by kernel_rfl) (fun K9 hK => ?_)
              go_simp
              with_reducible refine (C2.out _ HBD.out).mono ?_
              rintro e z1 ⟨rfl, hb⟩
              have HB2 := hide (HBD.out.trans (hb.mono HBD.out.size))
              have HO2 := hide (HOD.out.later hb (Nat.le_refl _))
              have HX2 := hide (HXD.out.later hb HXD.out.lt)
              clear hb
              refine hK.out _ _ (CE.out _ HO2.out HX2.out) (fun hNew => ?_)
              clear hK K9 hHeld
              have hHeld := hNew
              clear hNew
              (try simp only [Act.put, Mqa, Mqb, Mqc])
              refine Man.t1 23 hHeld ?_
              (try simp only [Act.put, Mqa, Mqb, Mqc])
              refine wpAnyH_done (by kernel_rfl) ?_ _
              obtain ⟨p0, p1, p2, _⟩ := HX2.out
              have HQA := hide (below_alloc z1 (.cells #[.int .i64 x.s.1, .int .i64 x.s.2, .slice x.ro x.r.length x.rc] 56))
              have HMA := hide (show PcsAt [x] (.slice (some ⟨z1.heap.size, 0, none⟩) 1 1) (z1.alloc (.cells #[.int .i64 x.s.1, .int .i64 x.s.2, .slice x.ro x.r.length x.rc] 56)) from one3_at z1 x 56 rfl)
              have HOA := hide (HO2.out.later HQA.out (Nat.le_refl _))
              have HBA := hide (HB2.out.trans (HQA.out.mono HB2.out.size))
              have HF2 := hide (HF.out.app HFX.out)
              go_wp2_with (at_builtin; refine wpList_row3 (l := m' ++ [q]) (m := [x]) tyP rfl _ _ rfl rfl rfl HOA.out HMA.out HLN.out HBA.out.size (fun u z3 hu hg hob => ?_))
              have HU := hide hu
              have HB4 := hide (HBA.out.grown hg HBA.out.size (fun k9 hk9 => (HOA.out.lt k9 hk9).1))
              clear hu hg hob
              go_wp2_with fail
              go_roundw
              case rel => exact ⟨i + 1, _, by go_num, by omega, HU, HB4, HF2, HP2⟩
              case measure => simp [intOf]; omega
          · have g2 : (q.s.2 == x.s.1) = false := by simpa using hto
            have HP2 := hide (show pcs ((m' ++ [q]) ++ [x]) = coal (pcs (l.take (i + 1))) from by
              rw [HTK.out, HPC.out, fuse_snoc, if_neg (fun h8 => hto h8.1), pcs_app, HPC.out]; rfl)
            clear hto
            go_wp2_with fail
            refine wp_region_held_drew (S := fun u => u.cell? ⟨g, k * 3 + 1, none⟩ = some (.int .i64 q.s.2) ∧ u.cell? ⟨g, k * 3 + 2, none⟩ = some (.slice q.ro q.r.length q.rc) ∧ u.cell? ⟨kp, 0, none⟩ = some (.int .i64 x.s.1) ∧ u.cell? ⟨kp, 1, none⟩ = some (.int .i64 x.s.2) ∧ u.cell? ⟨kp, 2, none⟩ = some (.slice x.ro x.r.length x.rc)) (by kernel_rfl) (by rw [← hwd]; exact CE.out _ HOD.out HXD.out) (fun hHeld => ?_)
            rw [← hwd] at hHeld ⊢
            rw [← hkp]
            clear hwd hkp
            refine Man.t1 0 hHeld ?_
            (try simp only [Act.put, Mqa, Mqb, Mqc])
            refine Man.t1 1 hHeld ?_
            (try simp only [Act.put, Mqa, Mqb, Mqc])
            refine Man.t1 2 hHeld ?_
            (try simp only [Act.put, Mqa, Mqb, Mqc])
            refine Man.t1 3 hHeld ?_
            (try simp only [Act.put, Mqa, Mqb, Mqc])
            refine Man.t1 4 hHeld ?_
            (try simp only [Act.put, Mqa, Mqb, Mqc])
            refine Man.t1 5 hHeld ?_
            (try simp only [Act.put, Mqa, Mqb, Mqc])
            refine Man.t1 6 hHeld ?_
            (try simp only [Act.put, Mqa, Mqb, Mqc])
            refine Man.t1 7 hHeld ?_
            (try simp only [Act.put, Mqa, Mqb, Mqc])
            refine Man.t1 8 hHeld ?_
            (try simp only [Act.put, Mqa, Mqb, Mqc])
            refine Man.t1 9 hHeld ?_
            (try simp only [Act.put, Mqa, Mqb, Mqc])
            refine Man.t1 10 hHeld ?_
            (try simp only [Act.put, Mqa, Mqb, Mqc])
            refine Man.t1 11 hHeld ?_
            (try simp only [Act.put, Mqa, Mqb, Mqc])
            refine Man.t1 12 hHeld ?_
            (try simp only [Act.put, Mqa, Mqb, Mqc])
            refine Man.t1 13 hHeld ?_
            (try simp only [Act.put, Mqa, Mqb, Mqc])
            refine Man.t1 14 hHeld ?_
            (try simp only [Act.put, Mqa, Mqb, Mqc])
            refine Man.take0 (i := 15) rfl (by kernel_rfl) (by kernel_rfl) (by kernel_rfl) (fun _ _ _ h => h) (by rfl) hHeld ?_
            (try simp only [Act.put, Mqa, Mqb, Mqc])
            refine Man.take0 (i := 16) rfl (by kernel_rfl) (by kernel_rfl) (by kernel_rfl) (fun _ _ _ h => h) (by rfl) hHeld ?_
            (try simp only [Act.put, Mqa, Mqb, Mqc])
            refine Man.take0 (i := 17) rfl (by kernel_rfl) (by kernel_rfl) (by kernel_rfl) (fun _ _ _ h => h) (by rfl) hHeld ?_
            (try simp only [Act.put, Mqa, Mqb, Mqc])
            refine Man.take0 (i := 18) rfl (by kernel_rfl) (by kernel_rfl) (by kernel_rfl) (fun _ _ _ h => h) (by rfl) hHeld ?_
            (try simp only [Act.put, Mqa, Mqb, Mqc])
            refine Man.take0 (i := 19) rfl (by kernel_rfl) (by kernel_rfl) (by kernel_rfl) (fun _ _ _ h => h) (by rfl) hHeld ?_
            (try simp only [Act.put, Mqa, Mqb, Mqc])
            refine Man.take0 (i := 20) rfl (by kernel_rfl) (by kernel_rfl) (by kernel_rfl) (fun _ _ _ h => h) (by rfl) hHeld ?_
            (try simp only [Act.put, Mqa, Mqb, Mqc])
            refine Man.take0 (i := 21) rfl (by kernel_rfl) (by kernel_rfl) (by kernel_rfl) (fun _ _ _ h => h) (by rfl) hHeld ?_
            (try simp only [Act.put, Mqa, Mqb, Mqc])
            refine Man.take0 (i := 22) rfl (by kernel_rfl) (by kernel_rfl) (by kernel_rfl) (fun _ _ _ h => h) (by rfl) hHeld ?_
            (try simp only [Act.put, Mqa, Mqb, Mqc])
            refine Man.t1 23 hHeld ?_
            (try simp only [Act.put, Mqa, Mqb, Mqc])
            refine wpAnyH_done (by kernel_rfl) ?_ _
            obtain ⟨p0, p1, p2, _⟩ := HXD.out
            have HQA := hide (below_alloc wd (.cells #[.int .i64 x.s.1, .int .i64 x.s.2, .slice x.ro x.r.length x.rc] 56))
            have HMA := hide (show PcsAt [x] (.slice (some ⟨wd.heap.size, 0, none⟩) 1 1) (wd.alloc (.cells #[.int .i64 x.s.1, .int .i64 x.s.2, .slice x.ro x.r.length x.rc] 56)) from one3_at wd x 56 rfl)
            have HOA := hide (HOD.out.later HQA.out (Nat.le_refl _))
            have HBA := hide (HBD.out.trans (HQA.out.mono HBD.out.size))
            have HF2 := hide (HF.out.app HFX.out)
            go_wp2_with (at_builtin; refine wpList_row3 (l := m' ++ [q]) (m := [x]) tyP rfl _ _ rfl rfl rfl HOA.out HMA.out HLN.out HBA.out.size (fun u z3 hu hg hob => ?_))
            have HU := hide hu
            have HB4 := hide (HBA.out.grown hg HBA.out.size (fun k9 hk9 => (HOA.out.lt k9 hk9).1))
            clear hu hg hob
            go_wp2_with fail
            go_roundw
            case rel => exact ⟨i + 1, _, by go_num, by omega, HU, HB4, HF2, HP2⟩
            case measure => simp [intOf]; omega
      · obtain rfl : i = n := by omega
        have HE := hide (show pcs m = coalR (pcs l) from by rw [HP.out, HC.out, HN.out, List.take_length])
        have C3 := hide (told_as HO.out.pieces (HF.out.rows (HR.out.later HB.out)) (HF.out.small HS.out (by have := HML.out; omega)))
        go_wp2_with fail
        refine C3.out.mono ?_
        rintro e w3 ⟨mm, v, rfl, ho, hp, hb⟩
        have HO3 := hide (ho.mono HB.out.size)
        have HB3 := hide (HB.out.trans (hb.mono HB.out.size))
        have HP3 := hide (hp.trans HE.out)
        clear ho hp hb C3
        go_wp2_with fail
        go_ret
        exact ⟨mm, v, rfl, HO3.out, HP3.out, HB3.out⟩
  · rw [decide_eq_false hok] at C1
    have HC := hide (show coalR (pcs l) = pcs l from if_neg hok)
    clear h hr hs hok
    go_enter Try.func23, Try.ntmps23
    go_wp2_with fail
    refine C1.out.mono ?_
    rintro e w1 ⟨rfl, hb⟩
    have HB1 := hide hb
    have C3 := hide (told_as (HA.out.later hb (Nat.le_refl _)) (HR.out.later hb) HS.out)
    clear hb C1
    go_wp2_with fail
    refine C3.out.mono ?_
    rintro e w3 ⟨mm, v, rfl, ho, hp, hb⟩
    have HO3 := hide (ho.mono HB1.out.size)
    have HB3 := hide (HB1.out.trans (hb.mono HB1.out.size))
    have HP3 := hide (hp.trans HC.out.symm)
    clear ho hp hb C3
    go_wp2_with fail
    go_ret
    exact ⟨mm, v, rfl, HO3.out, HP3.out, HB3.out⟩
end Prd
end Go.Proofs.Ytoacombaddknfaa
