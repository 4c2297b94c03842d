/- DiskPlays on a disk of few sectors. Conditions: as it says. -/
import Derived.Test.YtkbadjlehmaneaaRe
import Derived.Deep.DeepCutAuto
import Derived.Deep.CutBlock
namespace Go.Proofs.Ytkbadjlehmaneaa
open Go.RowKit
namespace Dsk
theorem Good.wstep {d : PD} (h : Good d) (k : Int) (s : ByteArray) : Good (d.wstep k s) := by
  unfold PD.wstep
  split
  · rename_i hc
    refine h.write _ ?_ _
    unfold PD.wcode at hc
    by_cases h1 : k < 0 ∨ (d.n : Int) ≤ k
    · rw [if_pos h1] at hc; exact absurd hc (by decide)
    · omega
  · exact h
theorem Good.fstep {d : PD} (h : Good d) : Good d.fstep := by
  unfold PD.fstep
  split
  · exact h
  · exact Good.flush d
theorem Good.cstep {d : PD} (h : Good d) (ks : List Bool) : Good (d.cstep ks) := by
  unfold PD.cstep
  split
  · exact h
  · exact Good.crash d ks
theorem Good.fuse {d : PD} (h : Good d) (k : Nat) : Good { d with fu := true, lf := k } := ⟨h.full, h.pos⟩
/-- What a script leaves of a disk of N sectors. -/
def Few (N i : Nat) (d : PD) : Prop := d.n = N ∧ d.cs.length ≤ i ∧ d.wr ≤ i ∧ d.fl ≤ i
theorem Few.more {N i : Nat} {d : PD} (h : Few N i d) : Few N (i + 1) d := by
  obtain ⟨h1, h2, h3, h4⟩ := h
  exact ⟨h1, by omega, by omega, by omega⟩
theorem Few.wstep {N i : Nat} {d : PD} (h : Few N i d) (k : Int) (s : ByteArray) : Few N (i + 1) (d.wstep k s) := by
  obtain ⟨h1, h2, h3, h4⟩ := h
  unfold PD.wstep
  split
  · refine ⟨h1, ?_, ?_, ?_⟩
    · show (d.cs ++ [_]).length ≤ _
      simp; omega
    · show d.wr + 1 ≤ _
      omega
    · show d.fl ≤ _
      omega
  · exact ⟨h1, by omega, by omega, by omega⟩
theorem Few.fstep {N i : Nat} {d : PD} (h : Few N i d) : Few N (i + 1) d.fstep := by
  obtain ⟨h1, h2, h3, h4⟩ := h
  unfold PD.fstep
  split
  · exact ⟨h1, by omega, by omega, by omega⟩
  · refine ⟨h1, Nat.zero_le _, ?_, ?_⟩
    · show d.wr ≤ _
      omega
    · show d.fl + 1 ≤ _
      omega
theorem Few.cstep {N i : Nat} {d : PD} (h : Few N i d) (ks : List Bool) : Few N (i + 1) (d.cstep ks) := by
  obtain ⟨h1, h2, h3, h4⟩ := h
  unfold PD.cstep
  split
  · exact ⟨h1, by omega, by omega, by omega⟩
  · refine ⟨h1, Nat.zero_le _, ?_, ?_⟩
    · show d.wr ≤ _
      omega
    · show d.fl ≤ _
      omega
theorem Few.fuse {N i : Nat} {d : PD} (h : Few N i d) (k : Nat) : Few N (i + 1) { d with fu := true, lf := k } := by
  obtain ⟨h1, h2, h3, h4⟩ := h
  exact ⟨h1, by show d.cs.length ≤ _; omega, by show d.wr ≤ _; omega, by show d.fl ≤ _; omega⟩
set_option maxHeartbeats 16000000 in
set_option maxRecDepth 100000 in
theorem plays_main (RW : WriteOn) (N : Nat) (hN1 : 1 ≤ N) (hN2 : N ≤ 200) (l : List Opv) (lo : Option Addr) (n lc : Nat) (w : World) (hn : n = l.length) (hnb : n ≤ 9223372036854775807) (hin : OpsAt l (.slice lo n lc) w) (hinn : ∀ x ∈ l, x.inn) :
    Calls Try.prog 3 #[.int .i64 (N : Int), .slice lo n lc] w fun e w' => e = .returned (.bool true) ∧ Below w.heap.size w w' := by
  have HL := hidm hin
  have HN := hidm hn
  have HIN := hidm hinn
  have f1 : ¬ (200 : Int) < (N : Int) := by omega
  clear hin hn hinn
  go_enter Try.func3, Try.ntmps3
  go_wp2_with fail
  refine (m_new (W := w) N hN1 (by omega) (Below.refl _ _)).mono ?_
  rintro e w1 ⟨rfl, hm, hb⟩
  have HM1 := hidm hm
  clear hm hb
  obtain ⟨D0, hD⟩ : ∃ D, D = w.heap.size + 1 := ⟨_, rfl⟩
  rw [← hD] at HM1 ⊢
  clear hD
  go_wp2_with fail
  refine (rnew_any N hN1 (by omega) w1).mono ?_
  rintro e w2 ⟨rfl, hr, hb⟩
  have H0 := hidm (Both.new HM1.out hr hb)
  clear hr hb
  obtain ⟨R, hR⟩ : ∃ R, R = w1.heap.size := ⟨_, rfl⟩
  rw [← hR] at H0 ⊢
  clear hR
  go_wp2_with fail
  go_loopw [5, 9] (fun dd ii wr => ∃ (i : Nat) (d : PD) (D : Nat), dd = .pointer (some ⟨D, 0, none⟩) ∧ ii = .int .i64 i ∧ i ≤ n ∧ i ≤ 60 ∧ Hid (Both w (fun _ => False) D R d d wr) ∧ Hid (Good d) ∧ Hid (Few N i d)) (fun _ ii _ => (n - (intOf ii).toNat))
  case atStart => exact ⟨0, _, _, rfl, rfl, by omega, by omega, H0, hidm (Good.new N), hidm ⟨rfl, Nat.le_refl _, Nat.le_refl _, Nat.le_refl _⟩⟩
  case round =>
    rename World => wr
    obtain ⟨i, d, D, rfl, rfl, hi, hi2, HB, HG, HD⟩ := hrel
    rcases Nat.lt_or_ge i n with hlt | hge
    · rcases Nat.lt_or_ge i 60 with hlt2 | hge2
      · have g1 : (i : Int) < n := by omega
        have g2 : (i : Int) < 60 := by omega
        have hil : i < l.length := by have := HN.out; omega
        obtain ⟨b, bo, cp, he, hb, q0, q1, q2, q3⟩ := HL.out.at i hil
        have hks := HL.out.bools i hil
        have hxi := HIN.out l[i] (List.getElem_mem hil)
        simp only [Value.slice.injEq] at he
        obtain ⟨rfl, -, rfl⟩ := he
        obtain ⟨x, hx⟩ : ∃ x, x = l[i] := ⟨_, rfl⟩
        rw [← hx] at q0 q1 q2 q3 hks hxi
        have HKS := hidm hks
        have HXI := hidm hxi.p1
        have HKW := hidm (show x.ks ≠ [] → ∀ p, x.ko = some p → p.block < w.heap.size from fun hne p hp => by
          obtain ⟨b2, o2, e2, hlt3, _⟩ := hks.2.2 hne
          rw [e2] at hp
          cases hp
          exact hlt3)
        have hbel := HB.out.bel
        have p0 := (hbel.cell (p := ⟨b, bo + i * 4, none⟩) hb).trans q0
        have p1 := (hbel.cell (p := ⟨b, bo + i * 4 + 1, none⟩) hb).trans q1
        have p2 := (hbel.cell (p := ⟨b, bo + i * 4 + 2, none⟩) hb).trans q2
        have p3 := (hbel.cell (p := ⟨b, bo + i * 4 + 3, none⟩) hb).trans q3
        obtain ⟨kn, hkn⟩ : ∃ kn, kn = x.ks.length := ⟨_, rfl⟩
        rw [← hkn] at p3
        have hkc : kn ≤ x.kc := by have := hks.1; omega
        have hkm : x.kc ≤ 9223372036854775807 := hks.2.1
        have HKN := hidm hkn
        clear hx q0 q1 q2 q3 hbel hks hxi hkn
        obtain ⟨WA, hWA⟩ : ∃ WA, WA = wr.alloc (.cells #[.int .i64 x.kind, .int .i64 x.pos, .string x.s, .slice x.ko kn x.kc] 33) := ⟨_, rfl⟩
        have hbA : Below wr.heap.size wr WA := by rw [hWA]; exact (Below.refl _ _).alloc (Nat.le_refl _) _
        have hrA : WA.heap[wr.heap.size]? = some (.cells #[.int .i64 x.kind, .int .i64 x.pos, .string x.s, .slice x.ko kn x.kc] 33 (0, 0)) := by rw [hWA]; exact heap_alloc_last _ _
        have HSZ : wr.heap.size < WA.heap.size := by rw [hWA]; simp
        have HBA := hidm (HB.out.guard (X := wr.heap.size) hbA (Nat.le_refl _) HSZ)
        have HFL := hidm (fun j => HB.out.flen j)
        have HA1 := hidm (show WA.cell? ⟨wr.heap.size, 1, none⟩ = some (.int .i64 x.pos) from row_cell hrA 1)
        have HA2 := hidm (show WA.cell? ⟨wr.heap.size, 2, none⟩ = some (.string x.s) from row_cell hrA 2)
        have HA3 := hidm (show WA.cell? ⟨wr.heap.size, 3, none⟩ = some (.slice x.ko kn x.kc) from row_cell hrA 3)
        have HWA := hidm hWA
        clear hWA hbA hrA HSZ
        rcases Nat.lt_or_ge 300 x.s.size with hs3 | hs3
        · have g3 : (300 : Int) < (x.s.size : Int) := by omega
          go_wp2_with fail
          rw [← HWA.out]
          go_roundw
          case rel => exact ⟨i + 1, d, D, rfl, by go_num, by omega, by omega, hidm HBA.out.drop, HG, hidm HD.out.more⟩
          case measure => simp [intOf] <;> omega
        · have g3 : ¬ (300 : Int) < (x.s.size : Int) := by omega
          rcases Nat.lt_or_ge 100 kn with hs4 | hs4
          · have g4 : (100 : Int) < (kn : Int) := by omega
            go_wp2_with fail
            rw [← HWA.out]
            go_roundw
            case rel => exact ⟨i + 1, d, D, rfl, by go_num, by omega, by omega, hidm HBA.out.drop, HG, hidm HD.out.more⟩
            case measure => simp [intOf] <;> omega
          · have g4 : ¬ (100 : Int) < (kn : Int) := by omega
            go_upto_block 2 with fail
            rw [← HWA.out]
            have a0 : WA.cell? ⟨wr.heap.size, 0, none⟩ = WA.cell? ⟨wr.heap.size, 0, none⟩ := rfl
            clear p0 p1 p2 p3 a0
            have a1 := HA1.out
            have a2 := HA2.out
            have a3 := HA3.out
            go_cut [5] (fun dd wx => ∃ (d2 : PD) (D2 : Nat), dd = .pointer (some ⟨D2, 0, none⟩) ∧ Hid (Both w (fun _ => False) D2 R d2 d2 wx) ∧ Hid (Good d2) ∧ Hid (Few N (i + 1) d2))
            case first => as_aux_lemma =>
              by_cases hk0 : x.kind = 0
              · have e0 : (x.kind == 0) = true := by simpa using hk0
                clear hk0
                obtain ⟨cw, hcw⟩ : ∃ c, c = d.wcode x.pos x.s := ⟨_, rfl⟩
                obtain ⟨d1, hd1⟩ : ∃ d1, d1 = d.wstep x.pos x.s := ⟨_, rfl⟩
                have HCW := hidm hcw.symm
                have HDW := hidm hd1.symm
                have C1 := hidm (b_write x.pos x.s (HBA.out.later ((Below.refl _ _).drew)) (by have := HD.out.2.1; omega) (by have := HD.out.2.2.1; omega))
                rw [HCW.out, HDW.out] at C1
                have HG1 := hidm (HG.out.wstep x.pos x.s)
                have HD1 := hidm (HD.out.wstep x.pos x.s)
                rw [HDW.out] at HG1 HD1
                clear hcw hd1
                have HSK := hidm (show ∀ w5, KeepQ (fun k => k = wr.heap.size) WA.drew w5 → w5.cell? ⟨wr.heap.size, 1, none⟩ = some (.int .i64 x.pos) ∧ w5.cell? ⟨wr.heap.size, 2, none⟩ = some (.string x.s) from fun w5 h5 => ⟨(World.cell?_of_block (w := WA.drew) (a := ⟨wr.heap.size, 1, none⟩) (h5 _ rfl)).trans HA1.out, (World.cell?_of_block (w := WA.drew) (a := ⟨wr.heap.size, 2, none⟩) (h5 _ rfl)).trans HA2.out⟩)
                go_wp2_with fail
                refine wp_region_held_drew (S := fun u => u.cell? ⟨wr.heap.size, 1, none⟩ = some (.int .i64 x.pos) ∧ u.cell? ⟨wr.heap.size, 2, none⟩ = some (.string x.s)) (by kernel_rfl) ⟨HA1.out, HA2.out⟩ (fun hHeld => ?_)
                refine Man.take1 (i := 0) (v := ?_) rfl (by kernel_rfl) (by kernel_rfl) (by kernel_rfl) (fun _ _ _ h => h) (by rfl) ?_ (by assumption) ?_
                rotate_left
                · (intro u hSu; (try dsimp only at hSu); go_simp; (try with_reducible rfl))
                (try simp only [Act.put, List.setIfInBounds_toArray, List.set_cons_zero, List.set_cons_succ])
                refine Man.take1 (i := 1) (v := ?_) rfl (by kernel_rfl) (by kernel_rfl) (by kernel_rfl) (fun _ _ _ h => h) (by rfl) ?_ (by assumption) ?_
                rotate_left
                · (intro u hSu; (try dsimp only at hSu); go_simp; (try with_reducible rfl))
                (try simp only [Act.put, List.setIfInBounds_toArray, List.set_cons_zero, List.set_cons_succ])
                refine Man.take1 (i := 2) (v := ?_) rfl (by kernel_rfl) (by kernel_rfl) (by kernel_rfl) (fun _ _ _ h => h) (by rfl) ?_ (by assumption) ?_
                rotate_left
                · (intro u hSu; (try dsimp only at hSu); go_simp; (try with_reducible rfl))
                (try simp only [Act.put, List.setIfInBounds_toArray, List.set_cons_zero, List.set_cons_succ])
                refine Man.take1 (i := 3) (v := ?_) rfl (by kernel_rfl) (by kernel_rfl) (by kernel_rfl) (fun _ _ _ h => h) (by rfl) ?_ (by assumption) ?_
                rotate_left
                · (intro u hSu; (try dsimp only at hSu); go_simp; (try with_reducible rfl))
                (try simp only [Act.put, List.setIfInBounds_toArray, List.set_cons_zero, List.set_cons_succ])
                refine Man.take1 (i := 4) (v := ?_) rfl (by kernel_rfl) (by kernel_rfl) (by kernel_rfl) (fun _ _ _ h => h) (by rfl) ?_ (by assumption) ?_
                rotate_left
                · (intro u hSu; (try dsimp only at hSu); go_simp; (try with_reducible rfl))
                (try simp only [Act.put, List.setIfInBounds_toArray, List.set_cons_zero, List.set_cons_succ])
                refine Man.take1 (i := 6) (v := ?_) rfl (by kernel_rfl) (by kernel_rfl) (by kernel_rfl) (fun _ _ _ h => h) (by rfl) ?_ (by assumption) ?_
                rotate_left
                · (intro u hSu; (try dsimp only at hSu); go_simp; (try with_reducible rfl))
                (try simp only [Act.put, List.setIfInBounds_toArray, List.set_cons_zero, List.set_cons_succ])
                refine Man.take1 (i := 7) (v := ?_) rfl (by kernel_rfl) (by kernel_rfl) (by kernel_rfl) (fun _ _ _ h => h) (by rfl) ?_ (by assumption) ?_
                rotate_left
                · (intro u hSu; (try dsimp only at hSu); go_simp; (try with_reducible rfl))
                (try simp only [Act.put, List.setIfInBounds_toArray, List.set_cons_zero, List.set_cons_succ])
                refine Man.take1 (i := 8) (v := ?_) rfl (by kernel_rfl) (by kernel_rfl) (by kernel_rfl) (fun _ _ _ h => h) (by rfl) ?_ (by assumption) ?_
                rotate_left
                · (intro u hSu; (try dsimp only at hSu); go_simp; (try with_reducible rfl))
                (try simp only [Act.put, List.setIfInBounds_toArray, List.set_cons_zero, List.set_cons_succ])
                refine Man.take1 (i := 9) (v := ?_) rfl (by kernel_rfl) (by kernel_rfl) (by kernel_rfl) (fun _ _ _ h => h) (by rfl) ?_ (by assumption) ?_
                rotate_left
                · (intro u hSu; (try dsimp only at hSu); go_simp; (try with_reducible rfl))
                (try simp only [Act.put, List.setIfInBounds_toArray, List.set_cons_zero, List.set_cons_succ])
                refine Man.take1 (i := 10) (v := ?_) rfl (by kernel_rfl) (by kernel_rfl) (by kernel_rfl) (fun _ _ _ h => h) (by rfl) ?_ (by assumption) ?_
                rotate_left
                · (intro u hSu; (try dsimp only at hSu); go_simp; (try with_reducible rfl))
                (try simp only [Act.put, List.setIfInBounds_toArray, List.set_cons_zero, List.set_cons_succ])
                refine Man.one (i := 5) rfl (by kernel_rfl) (fun K hK => ?_)
                go_simp
                refine C1.out.mono ?_
                rintro e w5 ⟨rfl, hb5, hk5⟩
                have HB5 := hidm hb5
                have HC5 := hidm (b_rwrite (dr := d) RW x.pos x.s HB5.out (by have := HD.out.2.1; omega) (by have := HD.out.2.2.1; omega) HFL.out)
                rw [HCW.out] at HC5
                rw [HDW.out] at HC5
                have hs5 := HSK.out w5 hk5
                have HK5 := hidm hk5
                clear hb5 hk5
                refine hK.out _ _ hs5 (fun hNew => ?_)
                clear hs5
                clear hK K hHeld
                have hHeld := hNew
                clear hNew
                (try simp only [Act.put, List.setIfInBounds_toArray, List.set_cons_zero, List.set_cons_succ])
                refine Man.one (i := 11) rfl (by kernel_rfl) (fun K hK => ?_)
                go_simp
                refine HC5.out.mono ?_
                rintro e w6 ⟨rfl, hb6, hk6⟩
                have HB6 := hidm hb6
                have hs6 := HSK.out w6 (HK5.out.trans hk6)
                clear hb6 hk6
                refine hK.out _ _ hs6 (fun hNew => ?_)
                clear hs6
                clear hK K hHeld
                have hHeld := hNew
                clear hNew
                (try simp only [Act.put, List.setIfInBounds_toArray, List.set_cons_zero, List.set_cons_succ])
                refine Man.take1 (i := 12) (v := ?_) rfl (by kernel_rfl) (by kernel_rfl) (by kernel_rfl) (fun _ _ _ h => h) (by rfl) ?_ (by assumption) ?_
                rotate_left
                · (intro u hSu; (try dsimp only at hSu); go_simp; (try with_reducible rfl))
                (try simp only [Act.put, List.setIfInBounds_toArray, List.set_cons_zero, List.set_cons_succ])
                refine wpAnyH_done (by kernel_rfl) ?_ _
                go_wp2_with fail
                go_meet
                exact ⟨d1, D, rfl, hidm (HB6.out.drop), hidm (HG1.out), hidm (HD1.out)⟩
              · have e0 : (x.kind == 0) = false := by simpa using hk0
                by_cases hk1 : x.kind = 1
                · have e1 : (x.kind == 1) = true := by simpa using hk1
                  clear hk1
                  go_wp2_with fail
                  refine (b_read x.pos HBA.out).mono ?_
                  rintro e w5 ⟨rfl, hb5⟩
                  have HB5 := hidm (HBA.out.later hb5)
                  have r1 := cell_later hb5 HA1.out
                  obtain ⟨tx, htx⟩ : ∃ t, t = d.rtext x.pos := ⟨_, rfl⟩
                  obtain ⟨cx, hcx⟩ : ∃ t, t = d.rcode x.pos := ⟨_, rfl⟩
                  have C6 := hidm (b_rread x.pos HB5.out HG.out)
                  rw [← htx, ← hcx] at C6 ⊢
                  clear hb5 htx hcx
                  go_wp2_with fail
                  refine C6.out.mono ?_
                  rintro e w6 ⟨rfl, hb6⟩
                  have HB6 := hidm (HB5.out.later hb6)
                  clear hb6 r1
                  go_wp2_with fail
                  go_meet
                  exact ⟨d, D, rfl, hidm (HB6.out.drop), hidm (HG.out), hidm (HD.out.more)⟩
                · have e1 : (x.kind == 1) = false := by simpa using hk1
                  by_cases hk2 : x.kind = 2
                  · have e2 : (x.kind == 2) = true := by simpa using hk2
                    clear hk2
                    obtain ⟨cw, hcw⟩ : ∃ c, c = d.fcode := ⟨_, rfl⟩
                    obtain ⟨d1, hd1⟩ : ∃ d1, d1 = d.fstep := ⟨_, rfl⟩
                    have HCW := hidm hcw.symm
                    have HDW := hidm hd1.symm
                    have C1 := hidm (b_flush HBA.out (by have := HD.out.2.2.2; omega))
                    rw [HCW.out, HDW.out] at C1
                    have HG1 := hidm HG.out.fstep
                    have HD1 := hidm HD.out.fstep
                    rw [HDW.out] at HG1 HD1
                    clear hcw hd1
                    go_wp2_with fail
                    refine C1.out.mono ?_
                    rintro e w5 ⟨rfl, hb5, hk5⟩
                    have HC5 := hidm (b_rflush hb5 HG.out (by have := HD.out.2.2.2; omega))
                    rw [HCW.out, HDW.out] at HC5
                    clear hb5 hk5
                    go_wp2_with fail
                    refine HC5.out.mono ?_
                    rintro e w6 ⟨rfl, hb6, hk6⟩
                    have HB6 := hidm hb6
                    clear hb6 hk6
                    go_wp2_with fail
                    go_meet
                    exact ⟨d1, D, rfl, hidm (HB6.out.drop), hidm (HG1.out), hidm (HD1.out)⟩
                  · have e2 : (x.kind == 2) = false := by simpa using hk2
                    by_cases hk3 : x.kind = 3
                    · have e3 : (x.kind == 3) = true := by simpa using hk3
                      clear hk3
                      obtain ⟨cw, hcw⟩ : ∃ c, c = d.ccode x.ks := ⟨_, rfl⟩
                      obtain ⟨d1, hd1⟩ : ∃ d1, d1 = d.cstep x.ks := ⟨_, rfl⟩
                      have HCW := hidm hcw.symm
                      have HDW := hidm hd1.symm
                      have C1 := hidm (b_crash x.ks x.ko kn x.kc (HBA.out.later ((Below.refl _ _).drew)) HKN.out (HKS.out.later (HBA.out.bel.trans (((Below.refl _ _).drew).mono HBA.out.bel.size))) HKW.out)
                      rw [HCW.out, HDW.out] at C1
                      have HG1 := hidm (HG.out.cstep x.ks)
                      have HD1 := hidm (HD.out.cstep x.ks)
                      rw [HDW.out] at HG1 HD1
                      clear hcw hd1
                      have HSK := hidm (show ∀ w5, KeepQ (fun k => k = wr.heap.size) WA.drew w5 → w5.cell? ⟨wr.heap.size, 3, none⟩ = some (.slice x.ko kn x.kc) from fun w5 h5 => (World.cell?_of_block (w := WA.drew) (a := ⟨wr.heap.size, 3, none⟩) (h5 _ rfl)).trans HA3.out)
                      go_wp2_with fail
                      refine wp_region_held_drew (S := fun u => u.cell? ⟨wr.heap.size, 3, none⟩ = some (.slice x.ko kn x.kc)) (by kernel_rfl) HA3.out (fun hHeld => ?_)
                      refine Man.take1 (i := 0) (v := ?_) rfl (by kernel_rfl) (by kernel_rfl) (by kernel_rfl) (fun _ _ _ h => h) (by rfl) ?_ (by assumption) ?_
                      rotate_left
                      · (intro u hSu; (try dsimp only at hSu); go_simp; (try with_reducible rfl))
                      (try simp only [Act.put, List.setIfInBounds_toArray, List.set_cons_zero, List.set_cons_succ])
                      refine Man.take1 (i := 1) (v := ?_) rfl (by kernel_rfl) (by kernel_rfl) (by kernel_rfl) (fun _ _ _ h => h) (by rfl) ?_ (by assumption) ?_
                      rotate_left
                      · (intro u hSu; (try dsimp only at hSu); go_simp; (try with_reducible rfl))
                      (try simp only [Act.put, List.setIfInBounds_toArray, List.set_cons_zero, List.set_cons_succ])
                      refine Man.take1 (i := 2) (v := ?_) rfl (by kernel_rfl) (by kernel_rfl) (by kernel_rfl) (fun _ _ _ h => h) (by rfl) ?_ (by assumption) ?_
                      rotate_left
                      · (intro u hSu; (try dsimp only at hSu); go_simp; (try with_reducible rfl))
                      (try simp only [Act.put, List.setIfInBounds_toArray, List.set_cons_zero, List.set_cons_succ])
                      refine Man.take1 (i := 4) (v := ?_) rfl (by kernel_rfl) (by kernel_rfl) (by kernel_rfl) (fun _ _ _ h => h) (by rfl) ?_ (by assumption) ?_
                      rotate_left
                      · (intro u hSu; (try dsimp only at hSu); go_simp; (try with_reducible rfl))
                      (try simp only [Act.put, List.setIfInBounds_toArray, List.set_cons_zero, List.set_cons_succ])
                      refine Man.take1 (i := 5) (v := ?_) rfl (by kernel_rfl) (by kernel_rfl) (by kernel_rfl) (fun _ _ _ h => h) (by rfl) ?_ (by assumption) ?_
                      rotate_left
                      · (intro u hSu; (try dsimp only at hSu); go_simp; (try with_reducible rfl))
                      (try simp only [Act.put, List.setIfInBounds_toArray, List.set_cons_zero, List.set_cons_succ])
                      refine Man.take1 (i := 6) (v := ?_) rfl (by kernel_rfl) (by kernel_rfl) (by kernel_rfl) (fun _ _ _ h => h) (by rfl) ?_ (by assumption) ?_
                      rotate_left
                      · (intro u hSu; (try dsimp only at hSu); go_simp; (try with_reducible rfl))
                      (try simp only [Act.put, List.setIfInBounds_toArray, List.set_cons_zero, List.set_cons_succ])
                      refine Man.one (i := 3) rfl (by kernel_rfl) (fun K hK => ?_)
                      go_simp
                      refine C1.out.mono ?_
                      rintro e w5 ⟨rfl, hb5, hk5⟩
                      have HC5 := hidm (b_rcrash x.ks x.ko kn x.kc hb5 HG.out HKN.out (HKS.out.later hb5.bel) HKW.out)
                      rw [HCW.out, HDW.out] at HC5
                      have hs5 := HSK.out w5 hk5
                      have HK5 := hidm hk5
                      clear hb5 hk5
                      refine hK.out _ _ hs5 (fun hNew => ?_)
                      clear hs5
                      clear hK K hHeld
                      have hHeld := hNew
                      clear hNew
                      (try simp only [Act.put, List.setIfInBounds_toArray, List.set_cons_zero, List.set_cons_succ])
                      refine Man.one (i := 7) rfl (by kernel_rfl) (fun K hK => ?_)
                      go_simp
                      refine HC5.out.mono ?_
                      rintro e w6 ⟨rfl, hb6, hk6⟩
                      have HB6 := hidm hb6
                      have hs6 := HSK.out w6 (HK5.out.trans hk6)
                      clear hb6 hk6
                      refine hK.out _ _ hs6 (fun hNew => ?_)
                      clear hs6
                      clear hK K hHeld
                      have hHeld := hNew
                      clear hNew
                      (try simp only [Act.put, List.setIfInBounds_toArray, List.set_cons_zero, List.set_cons_succ])
                      refine Man.take1 (i := 8) (v := ?_) rfl (by kernel_rfl) (by kernel_rfl) (by kernel_rfl) (fun _ _ _ h => h) (by rfl) ?_ (by assumption) ?_
                      rotate_left
                      · (intro u hSu; (try dsimp only at hSu); go_simp; (try with_reducible rfl))
                      (try simp only [Act.put, List.setIfInBounds_toArray, List.set_cons_zero, List.set_cons_succ])
                      refine wpAnyH_done (by kernel_rfl) ?_ _
                      go_wp2_with fail
                      go_meet
                      exact ⟨d1, D, rfl, hidm (HB6.out.drop), hidm (HG1.out), hidm (HD1.out)⟩
                    · have e3 : (x.kind == 3) = false := by simpa using hk3
                      by_cases hk4 : x.kind = 4
                      · have e4 : (x.kind == 4) = true := by simpa using hk4
                        clear hk4
                        have C1 := hidm (b_fuse x.pos HXI.out HBA.out)
                        obtain ⟨d1, hd1⟩ : ∃ d1 : PD, d1 = { d with fu := true, lf := x.pos.toNat } := ⟨_, rfl⟩
                        have HDW := hidm hd1.symm
                        rw [HDW.out] at C1
                        have HG1 := hidm (HG.out.fuse x.pos.toNat)
                        have HD1 := hidm (HD.out.fuse x.pos.toNat)
                        rw [HDW.out] at HG1 HD1
                        clear hd1
                        go_wp2_with fail
                        refine C1.out.mono ?_
                        rintro e w5 ⟨rfl, hb5, hk5⟩
                        have r1 := (World.cell?_of_block (w := WA) (a := ⟨wr.heap.size, 1, none⟩) (hk5 _ rfl)).trans HA1.out
                        have HC5 := hidm (b_rfuse x.pos HXI.out hb5)
                        rw [HDW.out] at HC5
                        clear hb5 hk5
                        go_wp2_with fail
                        refine HC5.out.mono ?_
                        rintro e w6 ⟨rfl, hb6, hk6⟩
                        have HB6 := hidm hb6
                        clear hb6 hk6 r1
                        go_wp2_with fail
                        go_meet
                        exact ⟨d1, D, rfl, hidm (HB6.out.drop), hidm (HG1.out), hidm (HD1.out)⟩
                      · have e4 : (x.kind == 4) = false := by simpa using hk4
                        go_wp2_with fail
                        refine (two_copy HBA.out).mono ?_
                        rintro e w5 ⟨rfl, hb5, hk5⟩
                        have r1 := (World.cell?_of_block (w := WA) (a := ⟨wr.heap.size, 1, none⟩) (hk5 _ rfl)).trans HA1.out
                        have C6 := hidm (two_write x.pos ⟨#[108, 111, 115, 116]⟩ hb5 (by have := HD.out.2.1; omega) (by have := HD.out.2.2.1; omega))
                        clear hb5 hk5
                        go_wp2_with fail
                        refine C6.out.mono ?_
                        rintro e w6 ⟨rfl, hb6, hk6⟩
                        have HD6 := hidm (HD.out.wstep x.pos ⟨#[108, 111, 115, 116]⟩)
                        have C7 := hidm (two_flush hb6 (by have := HD6.out.2.2.2; omega))
                        clear hb6 hk6 r1
                        go_wp2_with fail
                        refine C7.out.mono ?_
                        rintro e w7 ⟨rfl, hb7, hk7⟩
                        have HB7 := hidm hb7.swap
                        clear hb7 hk7
                        go_wp2_with fail
                        go_meet
                        exact ⟨d, _, rfl, hidm (HB7.out.drop), hidm (HG.out), hidm (HD.out.more)⟩
            case rest => as_aux_lemma =>
              obtain ⟨d2, D2, rfl, HB2, HG2, HD2⟩ := hcut
              go_wp2_with fail
              refine (b_count HB2.out).mono ?_
              rintro e wq ⟨rfl, hb⟩
              have HBQ := hidm (HB2.out.later hb)
              obtain ⟨Q2, hr2⟩ := HBQ.out.ref
              obtain ⟨lf, g, lc, wo, wcc, hra, _, _, _, _⟩ := hr2
              have HSK := hidm (show ∀ u, Below wq.heap.size wq u → Below wq.heap.size wq u ∧ u.cell? ⟨R, 2, none⟩ = some (.int .i64 (d2.wr : Int)) ∧ u.cell? ⟨R, 3, none⟩ = some (.int .i64 (d2.fl : Int)) ∧ u.cell? ⟨R, 0, none⟩ = some (.slice (some ⟨g, 0, none⟩) d2.n lc) from fun u hu => ⟨hu, cell_later hu hra.c2, cell_later hu hra.c3, cell_later hu hra.c0⟩)
              have HLC := hidm hra.bounds
              clear hra hb
              go_wp2_with fail
              refine wp_region_held_drew (S := fun u => Below wq.heap.size wq u ∧ u.cell? ⟨R, 2, none⟩ = some (.int .i64 (d2.wr : Int)) ∧ u.cell? ⟨R, 3, none⟩ = some (.int .i64 (d2.fl : Int)) ∧ u.cell? ⟨R, 0, none⟩ = some (.slice (some ⟨g, 0, none⟩) d2.n lc)) (by kernel_rfl) (HSK.out _ ((Below.refl _ _).drew)) (fun hHeld => ?_)
              refine Man.take1 (i := 0) (v := ?_) rfl (by kernel_rfl) (by kernel_rfl) (by kernel_rfl) (fun _ _ _ h => h) (by rfl) ?_ (by assumption) ?_
              rotate_left
              · (intro u hSu; (try dsimp only at hSu); go_simp; (try with_reducible rfl))
              (try simp only [Act.put, List.setIfInBounds_toArray, List.set_cons_zero, List.set_cons_succ])
              refine Man.take1 (i := 1) (v := ?_) rfl (by kernel_rfl) (by kernel_rfl) (by kernel_rfl) (fun _ _ _ h => h) (by rfl) ?_ (by assumption) ?_
              rotate_left
              · (intro u hSu; (try dsimp only at hSu); go_simp; (try with_reducible rfl))
              (try simp only [Act.put, List.setIfInBounds_toArray, List.set_cons_zero, List.set_cons_succ])
              refine Man.take1 (i := 2) (v := ?_) rfl (by kernel_rfl) (by kernel_rfl) (by kernel_rfl) (fun _ _ _ h => h) (by rfl) ?_ (by assumption) ?_
              rotate_left
              · (intro u hSu; (try dsimp only at hSu); go_simp; (try with_reducible rfl))
              (try simp only [Act.put, List.setIfInBounds_toArray, List.set_cons_zero, List.set_cons_succ])
              refine Man.take1 (i := 3) (v := ?_) rfl (by kernel_rfl) (by kernel_rfl) (by kernel_rfl) (fun _ _ _ h => h) (by rfl) ?_ (by assumption) ?_
              rotate_left
              · (intro u hSu; (try dsimp only at hSu); go_simp; (try with_reducible rfl))
              (try simp only [Act.put, List.setIfInBounds_toArray, List.set_cons_zero, List.set_cons_succ])
              refine Man.take1 (i := 4) (v := ?_) rfl (by kernel_rfl) (by kernel_rfl) (by kernel_rfl) (fun _ _ _ h => h) (by rfl) ?_ (by assumption) ?_
              rotate_left
              · (intro u hSu; (try dsimp only at hSu); go_simp; (try with_reducible rfl))
              (try simp only [Act.put, List.setIfInBounds_toArray, List.set_cons_zero, List.set_cons_succ])
              refine Man.take1 (i := 5) (v := ?_) rfl (by kernel_rfl) (by kernel_rfl) (by kernel_rfl) (fun _ _ _ h => h) (by rfl) ?_ (by assumption) ?_
              rotate_left
              · (intro u hSu; (try dsimp only at hSu); go_simp; (try with_reducible rfl))
              (try simp only [Act.put, List.setIfInBounds_toArray, List.set_cons_zero, List.set_cons_succ])
              refine Man.take1 (i := 6) (v := ?_) rfl (by kernel_rfl) (by kernel_rfl) (by kernel_rfl) (fun _ _ _ h => h) (by rfl) ?_ (by assumption) ?_
              rotate_left
              · (intro u hSu; (try dsimp only at hSu); go_simp; (try with_reducible rfl))
              (try simp only [Act.put, List.setIfInBounds_toArray, List.set_cons_zero, List.set_cons_succ])
              refine Man.take1 (i := 7) (v := ?_) rfl (by kernel_rfl) (by kernel_rfl) (by kernel_rfl) (fun _ _ _ h => h) (by rfl) ?_ (by assumption) ?_
              rotate_left
              · (intro u hSu; (try dsimp only at hSu); go_simp; (try with_reducible rfl))
              (try simp only [Act.put, List.setIfInBounds_toArray, List.set_cons_zero, List.set_cons_succ])
              refine Man.take1 (i := 8) (v := ?_) rfl (by kernel_rfl) (by kernel_rfl) (by kernel_rfl) (fun _ _ _ h => h) (by rfl) ?_ (by assumption) ?_
              rotate_left
              · (intro u hSu; (try dsimp only at hSu); go_simp; (try with_reducible rfl))
              (try simp only [Act.put, List.setIfInBounds_toArray, List.set_cons_zero, List.set_cons_succ])
              refine Man.take1 (i := 9) (v := ?_) rfl (by kernel_rfl) (by kernel_rfl) (by kernel_rfl) (fun _ _ _ h => h) (by rfl) ?_ (by assumption) ?_
              rotate_left
              · (intro u hSu; (try dsimp only at hSu); go_simp; (try with_reducible rfl))
              (try simp only [Act.put, List.setIfInBounds_toArray, List.set_cons_zero, List.set_cons_succ])
              refine Man.take1 (i := 10) (v := ?_) rfl (by kernel_rfl) (by kernel_rfl) (by kernel_rfl) (fun _ _ _ h => h) (by rfl) ?_ (by assumption) ?_
              rotate_left
              · (intro u hSu; (try dsimp only at hSu); go_simp; (try with_reducible rfl))
              (try simp only [Act.put, List.setIfInBounds_toArray, List.set_cons_zero, List.set_cons_succ])
              refine Man.take1 (i := 11) (v := ?_) rfl (by kernel_rfl) (by kernel_rfl) (by kernel_rfl) (fun _ _ _ h => h) (by rfl) ?_ (by assumption) ?_
              rotate_left
              · (intro u hSu; (try dsimp only at hSu); go_simp; (try with_reducible rfl))
              (try simp only [Act.put, List.setIfInBounds_toArray, List.set_cons_zero, List.set_cons_succ])
              refine Man.take1 (i := 12) (v := ?_) rfl (by kernel_rfl) (by kernel_rfl) (by kernel_rfl) (fun _ _ _ h => h) (by rfl) ?_ (by assumption) ?_
              rotate_left
              · (intro u hSu; (try dsimp only at hSu); go_simp; (try with_reducible rfl))
              (try simp only [Act.put, List.setIfInBounds_toArray, List.set_cons_zero, List.set_cons_succ])
              refine Man.take1 (i := 13) (v := ?_) rfl (by kernel_rfl) (by kernel_rfl) (by kernel_rfl) (fun _ _ _ h => h) (by rfl) ?_ (by assumption) ?_
              rotate_left
              · (intro u hSu; (try dsimp only at hSu); go_simp; (try with_reducible rfl))
              (try simp only [Act.put, List.setIfInBounds_toArray, List.set_cons_zero, List.set_cons_succ])
              refine Man.take1 (i := 14) (v := ?_) rfl (by kernel_rfl) (by kernel_rfl) (by kernel_rfl) (fun _ _ _ h => h) (by rfl) ?_ (by assumption) ?_
              rotate_left
              · (intro u hSu; (try dsimp only at hSu); go_simp; (try with_reducible rfl))
              (try simp only [Act.put, List.setIfInBounds_toArray, List.set_cons_zero, List.set_cons_succ])
              refine Man.take1 (i := 15) (v := ?_) rfl (by kernel_rfl) (by kernel_rfl) (by kernel_rfl) (fun _ _ _ h => h) (by rfl) ?_ (by assumption) ?_
              rotate_left
              · (intro u hSu; (try dsimp only at hSu); go_simp; (try with_reducible rfl))
              (try simp only [Act.put, List.setIfInBounds_toArray, List.set_cons_zero, List.set_cons_succ])
              refine Man.take1 (i := 17) (v := ?_) rfl (by kernel_rfl) (by kernel_rfl) (by kernel_rfl) (fun _ _ _ h => h) (by rfl) ?_ (by assumption) ?_
              rotate_left
              · (intro u hSu; (try dsimp only at hSu); go_simp; (try with_reducible rfl))
              (try simp only [Act.put, List.setIfInBounds_toArray, List.set_cons_zero, List.set_cons_succ])
              refine Man.one (i := 16) rfl (by kernel_rfl) (fun K hK => ?_)
              go_simp
              refine (b_dirty (HBQ.out.later hHeld.1)).mono ?_
              rintro e u1 ⟨v1, rfl, hi1, hb1⟩
              have hu1 := hHeld.1.trans (hb1.mono hHeld.1.size)
              have HU1 := hidm hu1
              have HI1 := hidm hi1
              clear hi1 hb1 hu1
              refine hK.out _ _ (HSK.out _ HU1.out) (fun hNew => ?_)
              clear hK K hHeld
              have hHeld := hNew
              clear hNew
              (try simp only [Act.put, List.setIfInBounds_toArray, List.set_cons_zero, List.set_cons_succ])
              refine Man.one (i := 18) rfl (by kernel_rfl) (fun K hK => ?_)
              go_simp
              refine (b_rdirty (HBQ.out.later HU1.out)).mono ?_
              rintro e u2 ⟨v2, rfl, hi2, hb2⟩
              have hu2 := HU1.out.trans (hb2.mono HU1.out.size)
              have HU2 := hidm hu2
              have RI := hidm (rints_any _ _ _ _ v1 v2 u2 (HI1.out.later hb2) hi2)
              rw [beq_self_eq_true] at RI
              clear hi2 hb2 hu2
              refine hK.out _ _ (HSK.out _ HU2.out) (fun hNew => ?_)
              clear hK K hHeld
              have hHeld := hNew
              clear hNew
              (try simp only [Act.put, List.setIfInBounds_toArray, List.set_cons_zero, List.set_cons_succ])
              refine Man.one (i := 19) rfl (by kernel_rfl) (fun K hK => ?_)
              go_simp
              refine RI.out.mono ?_
              rintro e u3 ⟨rfl, hb3⟩
              have hu3 := HU2.out.trans (hb3.mono HU2.out.size)
              have HU3 := hidm hu3
              clear hb3 hu3
              refine hK.out _ _ (HSK.out _ HU3.out) (fun hNew => ?_)
              clear hK K hHeld
              have hHeld := hNew
              clear hNew
              (try simp only [Act.put, List.setIfInBounds_toArray, List.set_cons_zero, List.set_cons_succ])
              refine Man.take1 (i := 20) (v := ?_) rfl (by kernel_rfl) (by kernel_rfl) (by kernel_rfl) (fun _ _ _ h => h) (by rfl) ?_ (by assumption) ?_
              rotate_left
              · (intro u hSu; (try dsimp only at hSu); go_simp; (try with_reducible rfl))
              (try simp only [Act.put, List.setIfInBounds_toArray, List.set_cons_zero, List.set_cons_succ])
              refine Man.take1 (i := 21) (v := ?_) rfl (by kernel_rfl) (by kernel_rfl) (by kernel_rfl) (fun _ _ _ h => h) (by rfl) ?_ (by assumption) ?_
              rotate_left
              · (intro u hSu; (try dsimp only at hSu); go_simp; (try with_reducible rfl))
              (try simp only [Act.put, List.setIfInBounds_toArray, List.set_cons_zero, List.set_cons_succ])
              refine Man.take1 (i := 22) (v := ?_) rfl (by kernel_rfl) (by kernel_rfl) (by kernel_rfl) (fun _ _ _ h => h) (by rfl) ?_ (by assumption) ?_
              rotate_left
              · (intro u hSu; (try dsimp only at hSu); go_simp; (try with_reducible rfl))
              (try simp only [Act.put, List.setIfInBounds_toArray, List.set_cons_zero, List.set_cons_succ])
              refine Man.take1 (i := 23) (v := ?_) rfl (by kernel_rfl) (by kernel_rfl) (by kernel_rfl) (fun _ _ _ h => h) (by rfl) ?_ (by assumption) ?_
              rotate_left
              · (intro u hSu; (try dsimp only at hSu); go_simp; (try with_reducible rfl))
              (try simp only [Act.put, List.setIfInBounds_toArray, List.set_cons_zero, List.set_cons_succ])
              refine Man.take1 (i := 25) (v := ?_) rfl (by kernel_rfl) (by kernel_rfl) (by kernel_rfl) (fun _ _ _ h => h) (by rfl) ?_ (by assumption) ?_
              rotate_left
              · (intro u hSu; (try dsimp only at hSu); go_simp; (try with_reducible rfl))
              (try simp only [Act.put, List.setIfInBounds_toArray, List.set_cons_zero, List.set_cons_succ])
              refine Man.take1 (i := 26) (v := ?_) rfl (by kernel_rfl) (by kernel_rfl) (by kernel_rfl) (fun _ _ _ h => h) (by rfl) ?_ (by assumption) ?_
              rotate_left
              · (intro u hSu; (try dsimp only at hSu); go_simp; (try with_reducible rfl))
              (try simp only [Act.put, List.setIfInBounds_toArray, List.set_cons_zero, List.set_cons_succ])
              refine Man.take1 (i := 27) (v := ?_) rfl (by kernel_rfl) (by kernel_rfl) (by kernel_rfl) (fun _ _ _ h => h) (by rfl) ?_ (by assumption) ?_
              rotate_left
              · (intro u hSu; (try dsimp only at hSu); go_simp; (try with_reducible rfl))
              (try simp only [Act.put, List.setIfInBounds_toArray, List.set_cons_zero, List.set_cons_succ])
              refine Man.take1 (i := 28) (v := ?_) rfl (by kernel_rfl) (by kernel_rfl) (by kernel_rfl) (fun _ _ _ h => h) (by rfl) ?_ (by assumption) ?_
              rotate_left
              · (intro u hSu; (try dsimp only at hSu); go_simp; (try with_reducible rfl))
              (try simp only [Act.put, List.setIfInBounds_toArray, List.set_cons_zero, List.set_cons_succ])
              refine Man.take1 (i := 29) (v := ?_) rfl (by kernel_rfl) (by kernel_rfl) (by kernel_rfl) (fun _ _ _ h => h) (by rfl) ?_ (by assumption) ?_
              rotate_left
              · (intro u hSu; (try dsimp only at hSu); go_simp; (try with_reducible rfl))
              (try simp only [Act.put, List.setIfInBounds_toArray, List.set_cons_zero, List.set_cons_succ])
              refine Man.one (i := 24) rfl (by kernel_rfl) (fun K hK => ?_)
              go_simp
              refine (b_len (HBQ.out.later HU3.out)).mono ?_
              rintro e u4 ⟨rfl, rfl⟩
              refine hK.out _ _ (HSK.out _ HU3.out) (fun hNew => ?_)
              clear hK K hHeld
              have hHeld := hNew
              clear hNew
              (try simp only [Act.put, List.setIfInBounds_toArray, List.set_cons_zero, List.set_cons_succ])
              refine Man.take1 (i := 30) (v := ?_) rfl (by kernel_rfl) (by kernel_rfl) (by kernel_rfl) (fun _ _ _ h => h) (by rfl) ?_ (by assumption) ?_
              rotate_left
              · (intro u hSu; (try dsimp only at hSu); go_simp; (try with_reducible rfl))
              (try simp only [Act.put, List.setIfInBounds_toArray, List.set_cons_zero, List.set_cons_succ])
              refine Man.take1 (i := 31) (v := ?_) rfl (by kernel_rfl) (by kernel_rfl) (by kernel_rfl) (fun _ _ _ h => h) (by rfl) ?_ (by assumption) ?_
              rotate_left
              · (intro u hSu; (try dsimp only at hSu); go_simp; (try with_reducible rfl))
              (try simp only [Act.put, List.setIfInBounds_toArray, List.set_cons_zero, List.set_cons_succ])
              refine wpAnyH_done (by kernel_rfl) ?_ _
              clear hHeld
              have HX0 := hidm HU3.out
              go_wp2_with fail
              go_loopw [18] (fun kk wy => ∃ k : Nat, kk = .int .i64 k ∧ k ≤ N ∧ k ≤ 12 ∧ Hid (Below wq.heap.size wq wy)) (fun kk _ => (12 - (intOf kk).toNat))
              case atStart => exact ⟨0, rfl, by omega, by omega, HX0⟩
              case round =>
                rename World => wy
                obtain ⟨k, rfl, hkN, hk12, HY⟩ := hrel
                rcases Nat.lt_or_ge k N with hkl | hkl
                · rcases Nat.lt_or_ge k 12 with hkm | hkm
                  · have g6 : (k : Int) < N := by omega
                    have g7 : (k : Int) < 12 := by omega
                    obtain ⟨tx, htx⟩ : ∃ t, t = d2.rtext k := ⟨_, rfl⟩
                    have C1 := hidm (b_read (k : Int) (HBQ.out.later HY.out))
                    rw [← htx] at C1
                    have HTX := hidm htx.symm
                    clear htx
                    go_wp2_with fail
                    refine C1.out.mono ?_
                    rintro e w8 ⟨rfl, hb8⟩
                    have HY8 := hidm (HY.out.trans (hb8.mono HY.out.size))
                    have C2 := hidm (b_rread (k : Int) (HBQ.out.later HY8.out) HG2.out)
                    rw [HTX.out] at C2
                    clear hb8
                    go_wp2_with fail
                    refine C2.out.mono ?_
                    rintro e w9 ⟨rfl, hb9⟩
                    have HY9 := hidm (HY8.out.trans (hb9.mono HY8.out.size))
                    clear hb9
                    go_wp2_with fail
                    go_roundw
                    case rel => exact ⟨k + 1, by go_num, by omega, by omega, HY9⟩
                    case measure => simp [intOf] <;> omega
                  · have g6 : (k : Int) < N := by omega
                    have g7 : ¬ (k : Int) < 12 := by omega
                    have HBE := hidm (HBQ.out.later HY.out)
                    go_wp2_with fail
                    go_roundw
                    case rel => exact ⟨i + 1, d2, D2, rfl, by go_num, by omega, by omega, HBE, HG2, HD2⟩
                    case measure => simp [intOf] <;> omega
                · have g6 : ¬ (k : Int) < N := by omega
                  have HBE := hidm (HBQ.out.later HY.out)
                  go_wp2_with fail
                  go_roundw
                  case rel => exact ⟨i + 1, d2, D2, rfl, by go_num, by omega, by omega, HBE, HG2, HD2⟩
                  case measure => simp [intOf] <;> omega
      · have g1 : (i : Int) < n := by omega
        have g2 : ¬ (i : Int) < 60 := by omega
        have HBK := hidm HB.out.bel
        go_wp2_with fail
        refine (known_any _).mono ?_
        rintro e wk ⟨rfl, hbk⟩
        have HBE := hidm (HBK.out.trans (hbk.mono HBK.out.size))
        clear hbk
        go_wp2_with fail
        go_ret
        exact ⟨rfl, HBE.out⟩
    · obtain rfl : i = n := by omega
      have g1 : ¬ (i : Int) < (i : Int) := by omega
      have HBK := hidm HB.out.bel
      go_wp2_with fail
      refine (known_any _).mono ?_
      rintro e wk ⟨rfl, hbk⟩
      have HBE := hidm (HBK.out.trans (hbk.mono HBK.out.size))
      clear hbk
      go_wp2_with fail
      go_ret
      exact ⟨rfl, HBE.out⟩
end Dsk
end Go.Proofs.Ytkbadjlehmaneaa
