/- The document's Drop. Condition: no more than a million values a row, a thousand pieces. -/
import Derived.Test.YtoacombaddknfaaOh
namespace Go.Proofs.Ytoacombaddknfaa
open Go.RowKit
namespace Prd
open Spn (Sp hide At below_alloc Right rcut)
open Cod (V RowAt S)
noncomputable def dropP (l : List (Sp × List V)) (s : Sp) : List (Sp × List V) := if Ok Good l ∧ Right s then away l s else l
/-- A piece cut to c. -/
def cutTo (x : Pm) (c : Sp) : Pm := ⟨c, x.r, x.ro, x.rc⟩
theorem cutTo_pc (x : Pm) (cs : List Sp) : pcs (cs.map (cutTo x)) = cs.map fun c => (c, x.r) := by simp [pcs, cutTo, Pm.pc]
theorem cutTo_from {l : List Pm} {x : Pm} (hx : x ∈ l) (cs : List Sp) : From l (cs.map (cutTo x)) := fun y hy => by
  obtain ⟨c, _, rfl⟩ := List.mem_map.1 hy
  exact ⟨x, hx, rfl, rfl, rfl⟩
theorem away_snoc (l : List (Sp × List V)) (p : Sp × List V) (s : Sp) : away (l ++ [p]) s = away l s ++ (rcut p.1 s).map fun c => (c, p.2) := by
  rw [away_app]; simp [away]
theorem away_take {l : List Pm} {i : Nat} (hi : i < l.length) (s : Sp) : away (pcs (l.take (i + 1))) s = away (pcs (l.take i)) s ++ (rcut (l[i]).s s).map fun c => (c, (l[i]).r) := by
  rw [List.take_succ_eq_append_getElem hi, pcs_app]
  exact away_snoc _ _ _
/-- What Drop has in memory. -/
structure Dr (w : World) (a b : Int) (m : List Pm) (ov : Value) (z : World) : Prop where
  o : Row3 54 (w.heap.size + 1) m ov z
  s : At (a, b) w.heap.size z
  bel : Below w.heap.size w z
section
variable {w z z' : World} {a b : Int} {m : List Pm} {ov u : Value}
theorem Dr.later (h : Dr w a b m ov z) (hb : Below z.heap.size z z') : Dr w a b m ov z' := ⟨h.o.later hb (Nat.le_refl _), h.s.later hb h.s.lt, h.bel.trans (hb.mono h.bel.size)⟩
theorem Dr.app (h : Dr w a b m ov z) {x : Pm} (hu : Row3 54 (w.heap.size + 1) (m ++ [x]) u z') (hg : z.grownBy z' ov.ownBlock) : Dr w a b (m ++ [x]) u z' := by
  refine ⟨hu, ?_, h.bel.grown hg h.bel.size (fun k hk => by have := (h.o.lt k hk).1; omega)⟩
  have hne : ov.ownBlock ≠ some w.heap.size := fun e => by have := (h.o.lt _ e).1; omega
  have e : z'.heap[w.heap.size]? = z.heap[w.heap.size]? := hg.block _ h.s.lt (fun e9 => hne e9.symm)
  exact ⟨by rw [World.cell?_of_block (a := ⟨w.heap.size, 0, none⟩) e]; exact h.s.c0, by rw [World.cell?_of_block (a := ⟨w.heap.size, 1, none⟩) e]; exact h.s.c1, by rw [World.frozen?_of_block (a := ⟨w.heap.size, 0, none⟩) e]; exact h.s.z, by rw [World.frozen?_of_block (a := ⟨w.heap.size, 1, none⟩) e]; exact h.s.z1, Nat.lt_of_lt_of_le h.s.lt hg.size⟩
end
set_option maxHeartbeats 8000000 in
set_option maxRecDepth 100000 in
theorem rdrop_any {l : List Pm} {sl : Value} {w : World} (h : PcsAt l sl w) (hr : Rows3 l w) (hs : Small l) (a b : Int) :
    Calls Try.prog 21 #[sl, .agg #[.int .i64 a, .int .i64 b]] w fun e w' => ∃ (m : List Pm) (v : Value), e = .returned v ∧ PcsAt m v w' ∧ From l m ∧ pcs m = dropP (pcs l) (a, b) ∧ Below w.heap.size w w' := by
  have hb0 := below_alloc w (.cells #[.int .i64 a, .int .i64 b] 24)
  have C1 := hide (rokay_any (h.later hb0 (Nat.le_refl _)) (hr.later hb0) hs)
  have HA := hide h
  have HR := hide hr
  have HS := hide hs
  clear hb0 h hr hs
  by_cases hok : Ok Good (pcs l)
  · rw [decide_eq_true hok] at C1
    by_cases hrs : Right (a, b)
    · have C2 := hide (fun w => Spn.rright_yes hrs w)
      have HD := hide (show dropP (pcs l) (a, b) = away (pcs l) (a, b) from if_pos ⟨hok, hrs⟩)
      clear hok hrs
      go_enter Try.func21, Try.ntmps21
      go_wp2_with fail
      refine C1.out.mono ?_
      rintro e w1 ⟨rfl, hb⟩
      obtain ⟨hA1, hb1⟩ := Spn.box1 hb
      have HA1 := hide hA1
      have HB1 := hide hb1
      obtain ⟨a0, a1, _, _, _⟩ := hA1
      clear hb hb1 C1
      go_wp2_with fail
      refine (C2.out _).mono ?_
      rintro e w2 ⟨rfl, hb⟩
      have HT0 := hide (show Dr w a b [] (.slice none 0 0) w2 from ⟨Row3.nil _ _ _, HA1.out.later hb HA1.out.lt, HB1.out.trans (hb.mono HB1.out.size)⟩)
      clear hb HA1 HB1 a0 a1 C2
      obtain ⟨so, sc, rfl, _, _⟩ := HA.out.form
      obtain ⟨n, hn⟩ : ∃ n, n = l.length := ⟨_, rfl⟩
      have hl : n ≤ 1000 := by rw [hn]; exact HS.out.n
      rw [← hn]
      have HN := hide hn
      clear hn
      go_wp2_with fail
      go_loopw [5, 6] (fun ov ii wr => ∃ (i : Nat) (m : List Pm), ii = .int .i64 i ∧ i ≤ n ∧ Hid (Dr w a b m ov wr) ∧ Hid (From l m) ∧ Hid (pcs m = away (pcs (l.take i)) (a, b))) (fun _ ii _ => (n - (intOf ii).toNat))
      case atStart => exact ⟨0, [], rfl, by omega, HT0, hide (From.nil l), hide rfl⟩
      case round =>
        rename World => wr
        obtain ⟨i, m, rfl, hi, HT, HF, HP⟩ := hrel
        clear HT0
        rcases Nat.lt_or_ge i n with hlt | hge
        · have g1 : (i : Int) < (n : Int) := by omega
          have hil : i < l.length := by rw [← HN.out]; exact hlt
          obtain ⟨b0, off, cap, he, _, _⟩ := (HA.out.later HT.out.bel (Nat.le_refl _)).at i hil
          rw [← HN.out] at he
          simp only [Value.slice.injEq] at he
          obtain ⟨rfl, _, rfl⟩ := he
          have HTK := hide (away_take hil (a, b))
          have HML := hide (show m.length ≤ 2000 from by
            have h1 := congrArg List.length HP.out
            rw [pcs_len] at h1
            have h2 := away_len (pcs (l.take i)) (a, b)
            rw [pcs_len, List.length_take] at h2
            omega)
          have HMEM := hide (List.getElem_mem hil)
          obtain ⟨x, hx⟩ : ∃ x, x = l[i] := ⟨_, rfl⟩
          rw [← hx] at HTK HMEM
          have CP := hide (show ∀ u : World, Below w.heap.size w u → u.cell? ⟨b0, off + i * 3, none⟩ = some (.int .i64 x.s.1) ∧ u.cell? ⟨b0, off + i * 3 + 1, none⟩ = some (.int .i64 x.s.2) ∧ u.cell? ⟨b0, off + i * 3 + 2, none⟩ = some (.slice x.ro x.r.length x.rc) from fun u hu => by
            have h1 := ((HA.out.later hu (Nat.le_refl _)).got i hil).2
            rw [← hx] at h1
            exact h1)
          have CE := hide (show ∀ u : World, Dr w a b m u5 u → (u.cell? ⟨b0, off + i * 3, none⟩ = some (.int .i64 x.s.1) ∧ u.cell? ⟨b0, off + i * 3 + 1, none⟩ = some (.int .i64 x.s.2) ∧ u.cell? ⟨w.heap.size, 0, none⟩ = some (.int .i64 a) ∧ u.cell? ⟨w.heap.size, 1, none⟩ = some (.int .i64 b)) from fun u hu => ⟨(CP.out u hu.bel).1, (CP.out u hu.bel).2.1, hu.s.c0, hu.s.c1⟩)
          have HTD := hide (HT.out.later (Below.refl _ _).drew)
          clear hx
          go_wp2_with fail
          refine wp_region_held_drew (S := fun u => u.cell? ⟨b0, off + i * 3, none⟩ = some (.int .i64 x.s.1) ∧ u.cell? ⟨b0, off + i * 3 + 1, none⟩ = some (.int .i64 x.s.2) ∧ u.cell? ⟨w.heap.size, 0, none⟩ = some (.int .i64 a) ∧ u.cell? ⟨w.heap.size, 1, none⟩ = some (.int .i64 b)) (by kernel_rfl) (CE.out _ HTD.out) (fun hHeld => ?_)
          refine Man.t1 0 hHeld ?_
          (try simp only [Act.put, Mqa, Mqb, Mqc])
          refine Man.t1 1 hHeld ?_
          (try simp only [Act.put, Mqa, Mqb, Mqc])
          refine Man.t1 2 hHeld ?_
          (try simp only [Act.put, Mqa, Mqb, Mqc])
          refine Man.t1 3 hHeld ?_
          (try simp only [Act.put, Mqa, Mqb, Mqc])
          refine Man.t1 4 hHeld ?_
          (try simp only [Act.put, Mqa, Mqb, Mqc])
          refine Man.t1 5 hHeld ?_
          (try simp only [Act.put, Mqa, Mqb, Mqc])
          refine Man.one (i := 6) rfl (by kernel_rfl) (fun K9 hK => ?_)
          go_simp
          with_reducible refine (Spn.rcut_any x.s.1 x.s.2 a b _).mono ?_
          rintro e wz ⟨cv, rfl, hrow, hb⟩
          have HTZ := hide (HTD.out.later hb)
          have HROW := hide hrow
          clear hb hrow
          refine hK.out _ _ (CE.out _ HTZ.out) (fun hNew => ?_)
          clear hK K9 hHeld
          have hHeld := hNew
          clear hNew
          (try simp only [Act.put, Mqa, Mqb, Mqc])
          refine Man.t1 7 hHeld ?_
          (try simp only [Act.put, Mqa, Mqb, Mqc])
          refine wpAnyH_done (by kernel_rfl) ?_ _
          obtain ⟨cs, hcs⟩ : ∃ cs, cs = rcut x.s (a, b) := ⟨_, rfl⟩
          have HCS := hide hcs
          rw [show rcut (x.s.1, x.s.2) (a, b) = cs from hcs.symm] at HROW
          rw [← hcs] at HTK
          have hcl : cs.length ≤ 2 := by rw [hcs]; exact Spn.rcut_len _ _
          obtain ⟨co, cc, rfl, _, _⟩ := HROW.out.form
          obtain ⟨k9, hk9⟩ : ∃ k9, k9 = cs.length := ⟨_, rfl⟩
          rw [← hk9]
          have HK9 := hide hk9
          rw [← hk9] at hcl
          have HAP := hide (show ∀ g, u5.ownBlock = some g → (Value.slice co cs.length cc).ownBlock ≠ some g from fun g hg e => by
            have h1 := (HTZ.out.o.lt g hg).2
            have h2 := (HROW.out.lt g e).1
            have := (HTD.out.o.lt g hg).2
            omega)
          have HROW2 := hide (HROW.out.mono (base' := w.heap.size + 1) (by have := HTD.out.s.lt; omega))
          clear hcs hk9 HROW HTD CE
          go_wp2_with fail
          go_loopw [5, 8] (fun ov kk wk => ∃ k : Nat, kk = .int .i64 k ∧ k ≤ k9 ∧ Hid (Dr w a b (m ++ (cs.take k).map (cutTo x)) ov wk) ∧ Hid (Spn.Row (w.heap.size + 1) cs (.slice co cs.length cc) wk) ∧ Hid (∀ g, ov.ownBlock = some g → (Value.slice co cs.length cc).ownBlock ≠ some g)) (fun _ kk _ => (k9 - (intOf kk).toNat))
          case atStart => exact ⟨0, rfl, by omega, by simpa using HTZ, HROW2, HAP⟩
          case round =>
            rename World => wk
            obtain ⟨k, rfl, hk, HK, HC, HAPK⟩ := hrel
            clear HTZ HROW2 HAP
            rcases Nat.lt_or_ge k k9 with hkk | hkk
            · have g2 : (k : Int) < (k9 : Int) := by omega
              have hkl : k < cs.length := by rw [← HK9.out]; exact hkk
              obtain ⟨gc, gcap, hgv, _, _, _, _⟩ := HC.out.held (by omega)
              simp only [Value.slice.injEq] at hgv
              obtain ⟨rfl, _, rfl⟩ := hgv
              have HTK2 := hide (List.take_succ_eq_append_getElem hkl)
              obtain ⟨c, hc⟩ : ∃ c, c = cs[k] := ⟨_, rfl⟩
              rw [← hc] at HTK2
              obtain ⟨mm, hmm⟩ : ∃ mm, mm = m ++ (cs.take k).map (cutTo x) := ⟨_, rfl⟩
              have HMM := hide (show m ++ (cs.take (k + 1)).map (cutTo x) = mm ++ [cutTo x c] from by rw [HTK2.out, hmm]; simp)
              have HMML := hide (show mm.length ≤ 3000 from by rw [hmm, List.length_append, List.length_map, List.length_take]; have := HML.out; omega)
              rw [← hmm] at HK
              have CE := hide (show ∀ u : World, Below w.heap.size w u → Spn.Row (w.heap.size + 1) cs (.slice (some ⟨gc, 0, none⟩) cs.length cc) u → (u.cell? ⟨b0, off + i * 3 + 2, none⟩ = some (.slice x.ro x.r.length x.rc) ∧ u.cell? ⟨gc, k * 2, none⟩ = some (.int .i64 c.1) ∧ u.cell? ⟨gc, k * 2 + 1, none⟩ = some (.int .i64 c.2)) from fun u hu hcu => by
                have h1 := HC.out
                have h2 := hcu.at k hkl
                rw [← hc] at h2
                exact ⟨(CP.out u hu).2.2, h2.1, h2.2.1⟩)
              clear hc hmm
              obtain ⟨wd, hwd⟩ : ∃ wd, wd = wk.drew := ⟨_, rfl⟩
              have HTD := hide (show Dr w a b mm u5 wd from by rw [hwd]; exact HK.out.later (Below.refl _ _).drew)
              have HCD := hide (show Spn.Row (w.heap.size + 1) cs (.slice (some ⟨gc, 0, none⟩) cs.length cc) wd from by rw [hwd]; exact HC.out.later (Below.refl _ _).drew (Nat.le_refl _))
              go_wp2_with fail
              refine wp_region_held_drew (S := fun u => u.cell? ⟨b0, off + i * 3 + 2, none⟩ = some (.slice x.ro x.r.length x.rc) ∧ u.cell? ⟨gc, k * 2, none⟩ = some (.int .i64 c.1) ∧ u.cell? ⟨gc, k * 2 + 1, none⟩ = some (.int .i64 c.2)) (by kernel_rfl) (by rw [← hwd]; exact CE.out _ HTD.out.bel HCD.out) (fun hHeld => ?_)
              rw [← hwd] at hHeld ⊢
              clear hwd
              refine Man.t1 0 hHeld ?_
              (try simp only [Act.put, Mqa, Mqb, Mqc])
              refine Man.t1 1 hHeld ?_
              (try simp only [Act.put, Mqa, Mqb, Mqc])
              refine Man.t1 2 hHeld ?_
              (try simp only [Act.put, Mqa, Mqb, Mqc])
              refine Man.t1 3 hHeld ?_
              (try simp only [Act.put, Mqa, Mqb, Mqc])
              refine Man.t1 4 hHeld ?_
              (try simp only [Act.put, Mqa, Mqb, Mqc])
              refine Man.t1 5 hHeld ?_
              (try simp only [Act.put, Mqa, Mqb, Mqc])
              refine Man.t1 6 hHeld ?_
              (try simp only [Act.put, Mqa, Mqb, Mqc])
              refine Man.t1 7 hHeld ?_
              (try simp only [Act.put, Mqa, Mqb, Mqc])
              refine Man.t1 8 hHeld ?_
              (try simp only [Act.put, Mqa, Mqb, Mqc])
              refine Man.t1 9 hHeld ?_
              (try simp only [Act.put, Mqa, Mqb, Mqc])
              refine Man.t1 10 hHeld ?_
              (try simp only [Act.put, Mqa, Mqb, Mqc])
              refine Man.one (i := 11) rfl (by kernel_rfl) (fun K9 hK => ?_)
              go_simp
              obtain ⟨z1, hz1⟩ : ∃ z1, z1 = wd.alloc (.cells #[.int .i64 c.1, .int .i64 c.2, .slice x.ro x.r.length x.rc] 54) := ⟨_, rfl⟩
              have HP1 := hide (show PcsAt [cutTo x c] (.slice (some ⟨wd.heap.size, 0, none⟩) 1 1) z1 from by rw [hz1]; exact one3_at wd (cutTo x c) _ rfl)
              have HQ1 := hide (show Below wd.heap.size wd z1 from by rw [hz1]; exact below_alloc _ _)
              have HT1 := hide (HTD.out.later HQ1.out)
              have HC1 := hide (HCD.out.later HQ1.out (Nat.le_refl _))
              rw [← hz1]
              clear hz1 HQ1
              refine hK.out _ _ (CE.out _ HT1.out.bel HC1.out) (fun hNew => ?_)
              clear hK K9 hHeld
              have hHeld := hNew
              clear hNew
              (try simp only [Act.put, Mqa, Mqb, Mqc])
              refine Man.one (i := 12) rfl (by kernel_rfl) (fun K9 hK => ?_)
              refine oper_ite (by rfl) ?_
              refine oper_row3 (l := mm) (m := [cutTo x c]) tyR _ _ rfl rfl rfl HT1.out.o HP1.out (by have := HMML.out; simp; omega) (by have := HT1.out.s.lt; omega) (fun u z2 hu hg hob => ?_)
              have HT2 := hide (HT1.out.app hu hg)
              have HC2 := hide (HC1.out.kept (fun g hgg => hg.block g (HC1.out.lt g hgg).2 (fun e9 => HAPK.out g e9.symm hgg)))
              have HAP2 := hide (show ∀ g, u.ownBlock = some g → (Value.slice (some ⟨gc, 0, none⟩) cs.length cc).ownBlock ≠ some g from fun g hgu e9 => by
                rcases hob with h9 | h9
                · rw [h9] at hgu; exact HAPK.out g hgu e9
                · rw [h9] at hgu
                  have := Option.some.inj hgu
                  have := (HC1.out.lt g e9).2
                  omega)
              clear hu hg hob HT1 HP1 HC1
              refine hK.out _ _ (CE.out _ HT2.out.bel HC2.out) (fun hNew => ?_)
              clear hK K9 hHeld
              have hHeld := hNew
              clear hNew
              (try simp only [Act.put, Mqa, Mqb, Mqc])
              refine Man.t1 13 hHeld ?_
              (try simp only [Act.put, Mqa, Mqb, Mqc])
              refine wpAnyH_done (by kernel_rfl) ?_ _
              go_wp2_with fail
              go_roundw
              case rel => exact ⟨k + 1, by go_num, by omega, by rw [HMM.out]; exact HT2, HC2, HAP2⟩
              case measure => simp [intOf]; omega
            · obtain rfl : k = k9 := by omega
              have g2 : ¬ (k : Int) < (k : Int) := by omega
              have HT2 := hide (show Dr w a b (m ++ cs.map (cutTo x)) u5 wk from by
                have := HK.out
                rw [HK9.out, List.take_length] at this
                exact this)
              have HF2 := hide (HF.out.app (cutTo_from HMEM.out cs))
              have HP2 := hide (show pcs (m ++ cs.map (cutTo x)) = away (pcs (l.take (i + 1))) (a, b) from by rw [pcs_app, cutTo_pc, HP.out, HTK.out])
              go_wp2_with fail
              go_roundw
              case rel => exact ⟨i + 1, _, by go_num, by omega, HT2, HF2, HP2⟩
              case measure => simp [intOf]; omega
        · obtain rfl : i = n := by omega
          have g1 : ¬ (i : Int) < (i : Int) := by omega
          have HE := hide (show pcs m = dropP (pcs l) (a, b) from by rw [HP.out, HD.out, HN.out, List.take_length])
          go_wp2_with fail
          go_ret
          exact ⟨m, u5, rfl, HT.out.o.pieces, HF.out, HE.out, HT.out.bel⟩
    · have C2 := hide (fun w => Spn.rright_no hrs w)
      have HD := hide (show dropP (pcs l) (a, b) = pcs l from if_neg (fun h9 => hrs h9.2))
      clear hok hrs
      go_enter Try.func21, Try.ntmps21
      go_wp2_with fail
      refine C1.out.mono ?_
      rintro e w1 ⟨rfl, hb⟩
      obtain ⟨hA1, hb1⟩ := Spn.box1 hb
      have HB1 := hide hb1
      obtain ⟨a0, a1, _, _, _⟩ := hA1
      clear hb hb1 C1
      go_wp2_with fail
      refine (C2.out _).mono ?_
      rintro e w2 ⟨rfl, hb⟩
      have HB2 := hide (HB1.out.trans (hb.mono HB1.out.size))
      clear hb
      go_wp2_with fail
      go_ret
      exact ⟨l, sl, rfl, HA.out.later HB2.out (Nat.le_refl _), From.refl l, HD.out.symm, HB2.out⟩
  · rw [decide_eq_false hok] at C1
    have HD := hide (show dropP (pcs l) (a, b) = pcs l from if_neg (fun h9 => hok h9.1))
    clear hok
    go_enter Try.func21, Try.ntmps21
    go_wp2_with fail
    refine C1.out.mono ?_
    rintro e w1 ⟨rfl, hb⟩
    obtain ⟨_, hb1⟩ := Spn.box1 hb
    have HB2 := hide hb1
    clear hb hb1 C1
    go_wp2_with fail
    go_ret
    exact ⟨l, sl, rfl, HA.out.later HB2.out (Nat.le_refl _), From.refl l, HD.out.symm, HB2.out⟩
end Prd
end Go.Proofs.Ytoacombaddknfaa
