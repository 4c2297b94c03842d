/- Free, Alloc. Conditions: as each says. -/
import Derived.Test.YtmccnlffikegfaaGreatDoorZPhto
namespace Go.Proofs.YtmccnlffikegfaaGreatDoor
open Go.RowKit
namespace Pgr
open Wal (Pair PL R)
open Dsk (PD Mine KeepQ Only below_keeps cell_later sec vals pad zeros upd IntsAt ints S rangeAt_keep setBlock_other)
theorem take_len {m : List UInt8} {k : Nat} (h : m.length = 128) : (takeB m k).length = 128 := by unfold takeB; rw [List.length_set]; exact h
theorem give_len {m : List UInt8} {k : Nat} (h : m.length = 128) : (giveB m k).length = 128 := by unfold giveB; rw [List.length_set]; exact h
theorem range_row {w : World} {B : Nat} {C : Array Value} {t : TypeId} (h : w.heap[B]? = some (.cells C t (0, 0))) : w.rangeAt B 0 C.toList := fun j v hv => by
  rw [Nat.zero_add, cell_of_row w B j _ _ (0, 0) h]
  simpa using hv
theorem buildCon (w : World) : (Instr.build 80 #[]).run Tryz.prog w = .ok (.agg (sec zeros)) w := run_build w 80 #[] (sec zeros) (by kernel_rfl)
section
variable {W : World} {Q : Nat → Prop} {P L D : Nat} {v : PV} {g : PL} {d : PD} {w : World}
set_option maxHeartbeats 1000000 in
theorem free_no (p : Option Addr) (k : Int) (w : World) (h : NotPager p w) : Calls Tryz.prog 57 #[.pointer p, .int .i64 k] w fun e w' => e = .returned (.int .i64 13) ∧ w = w' := by
  have G := hidm (place_no p k w h)
  go_enter Tryz.func57, Tryz.ntmps57
  go_wp2_with fail
  refine G.out.mono ?_
  rintro e w1 ⟨rfl, rfl⟩
  go_wp2_with fail
  go_ret
  exact ⟨rfl, rfl⟩
set_option maxHeartbeats 1000000 in
theorem free_off (k : Int) (h : Pg W Q P L D v g d w) (hk : off v.pages k) : Calls Tryz.prog 57 #[.pointer (some ⟨P, 0, none⟩), .int .i64 k] w fun e w' => e = .returned (.int .i64 2) ∧ w = w' := by
  have G := hidm (place_off k h hk)
  go_enter Tryz.func57, Tryz.ntmps57
  go_wp2_with fail
  refine G.out.mono ?_
  rintro e w1 ⟨rfl, rfl⟩
  go_wp2_with fail
  go_ret
  exact ⟨rfl, rfl⟩
set_option maxHeartbeats 1000000 in
theorem free_zero (h : Pg W Q P L D v g d w) : Calls Tryz.prog 57 #[.pointer (some ⟨P, 0, none⟩), .int .i64 0] w fun e w' => e = .returned (.int .i64 1) ∧ w = w' := by
  have G := hidm (place_in 0 h h.ok.2.1)
  go_enter Tryz.func57, Tryz.ntmps57
  go_wp2_with fail
  refine G.out.mono ?_
  rintro e w1 ⟨rfl, rfl⟩
  go_wp2_with fail
  go_ret
  exact ⟨rfl, rfl⟩
set_option maxHeartbeats 4000000 in
set_option maxRecDepth 100000 in
theorem free_idle (k : Nat) (h : Pg W Q P L D v g d w) (hk : k < v.pages) (h0 : k ≠ 0) (hu : useB (Pg.see v d 0) k = false) : Calls Tryz.prog 57 #[.pointer (some ⟨P, 0, none⟩), .int .i64 (k : Int)] w fun e w' => e = .returned (.int .i64 6) ∧ Below w.heap.size w w' := by
  have G := hidm (place_in k h hk)
  have f0 : ¬ (k : Int) = 0 := by omega
  have UM := hidm (usem_in h)
  have hml := h.see_len 0
  obtain ⟨m, hm⟩ : ∃ m, m = Pg.see v d 0 := ⟨_, rfl⟩
  rw [← hm] at UM hml
  have HM := hidm hm
  obtain ⟨C, hC⟩ : ∃ C, C = sec m := ⟨_, rfl⟩
  obtain ⟨Z, hZ⟩ : ∃ Z, Z = sec zeros := ⟨_, rfl⟩
  have hz := zeroCon
  rw [← hZ] at hz
  rw [← hC] at UM
  have HI := hidm (show (Tryz.prog.info? 80).map (·.size) = some C.size from by rw [hC, Dsk.sec_size, hml]; exact infoCon)
  have HZC := hidm (show Z.size = C.size from by rw [hZ, hC, Dsk.sec_size, Dsk.sec_size, hml, Dsk.zeros_len])
  have H1 := hidm (show C.all (·.oneCell') = true from by rw [hC]; exact Dsk.sec_one _)
  have HC := hidm hC
  have HML := hidm hml
  have HPG := hidm h
  have hn24 := h.ok.2.2.1
  have US := hidm (fun (B : Nat) (w' : World) (hr : w'.heap[B]? = some (.cells (sec m) 80 (0, 0))) => uses_any B k m w' hr hml (by omega))
  rw [← hm] at hu
  rw [hu] at US
  clear h hm hC hZ hml hk hn24 hu
  go_enter Tryz.func57, Tryz.ntmps57
  go_wp2_with fail
  refine G.out.mono ?_
  rintro e w1 ⟨rfl, rfl⟩
  go_wp2_with fail
  refine UM.out.mono ?_
  rintro e w2 ⟨rfl, hb2⟩
  have HB2 := hidm hb2
  clear hb2
  go_wp2_with (refine Dsk.wpList_store_new rfl 80 _ _ rfl w2 Z C rfl rfl HI.out HZC.out H1.out ?_)
  have HROW := hidm (show (w2.alloc (.cells C 80)).heap[w2.heap.size]? = some (.cells (sec m) 80 (0, 0)) from by rw [← HC.out]; exact heap_alloc_last w2 _)
  have HB3 := hidm (HB2.out.alloc HB2.out.size (.cells C 80))
  have HLT := hidm (show w2.heap.size < (w2.alloc (.cells C 80)).heap.size from by simp)
  have HGE := hidm HB2.out.size
  obtain ⟨w3, hw3⟩ : ∃ w3, w3 = w2.alloc (.cells C 80) := ⟨_, rfl⟩
  rw [← hw3] at HROW HB3 HLT ⊢
  obtain ⟨B, hB⟩ : ∃ B, B = w2.heap.size := ⟨_, rfl⟩
  rw [← hB] at HROW HLT HGE ⊢
  clear hw3 hB
  refine (US.out B w3 HROW.out).mono ?_
  rintro e w4 ⟨rfl, rfl⟩
  go_wp2_with fail
  go_ret
  exact ⟨rfl, HB3.out⟩
set_option maxHeartbeats 4000000 in
set_option maxRecDepth 100000 in
theorem free_in (k : Nat) (h : Pg W Q P L D v g d w) (hk : k < v.pages) (h0 : k ≠ 0) (hu : useB (Pg.see v d 0) k = true) : Calls Tryz.prog 57 #[.pointer (some ⟨P, 0, none⟩), .int .i64 (k : Int)] w fun e w' => e = .returned (.int .i64 0) ∧ Pg W Q P L D (v.put 0 (giveB (Pg.see v d 0) k)) g d w' ∧ KeepQ Q w w' := by
  have G := hidm (place_in k h hk)
  have f0 : ¬ (k : Int) = 0 := by omega
  have UM := hidm (usem_in h)
  have hml := h.see_len 0
  obtain ⟨m, hm⟩ : ∃ m, m = Pg.see v d 0 := ⟨_, rfl⟩
  rw [← hm] at UM hml
  have HM := hidm hm
  obtain ⟨C, hC⟩ : ∃ C, C = sec m := ⟨_, rfl⟩
  obtain ⟨Z, hZ⟩ : ∃ Z, Z = sec zeros := ⟨_, rfl⟩
  have hz := zeroCon
  rw [← hZ] at hz
  rw [← hC] at UM
  have HI := hidm (show (Tryz.prog.info? 80).map (·.size) = some C.size from by rw [hC, Dsk.sec_size, hml]; exact infoCon)
  have HZC := hidm (show Z.size = C.size from by rw [hZ, hC, Dsk.sec_size, Dsk.sec_size, hml, Dsk.zeros_len])
  have H1 := hidm (show C.all (·.oneCell') = true from by rw [hC]; exact Dsk.sec_one _)
  have HC := hidm hC
  have HML := hidm hml
  have HPG := hidm h
  have hn24 := h.ok.2.2.1
  have US := hidm (fun (B : Nat) (w' : World) (hr : w'.heap[B]? = some (.cells (sec m) 80 (0, 0))) => uses_any B k m w' hr hml (by omega))
  rw [← hm] at hu ⊢
  rw [hu] at US
  have GV := hidm (fun (B : Nat) (w' : World) (hr : w'.heap[B]? = some (.cells (sec m) 80 (0, 0))) => give_in B k m w' hr hml (by omega))
  have HM2L := hidm (give_len (k := k) hml)
  obtain ⟨m2, hm2⟩ : ∃ m2, m2 = giveB m k := ⟨_, rfl⟩
  rw [← hm2] at GV HM2L ⊢
  have HC2 := hidm (show (sec m2).size = 128 from by rw [Dsk.sec_size]; exact HM2L.out)
  obtain ⟨C2, hC2⟩ : ∃ C2, C2 = sec m2 := ⟨_, rfl⟩
  have HCC2 := hidm hC2
  rw [← hC2] at HC2
  have HI2 := hidm (show (Tryz.prog.info? 80).map (·.size) = some C2.size from by rw [HC2.out]; exact infoCon)
  clear h hm hC hZ hml hk hn24 hu hm2 hC2
  go_enter Tryz.func57, Tryz.ntmps57
  go_wp2_with fail
  refine G.out.mono ?_
  rintro e w1 ⟨rfl, rfl⟩
  go_wp2_with fail
  refine UM.out.mono ?_
  rintro e w2 ⟨rfl, hb2⟩
  have HB2 := hidm hb2
  clear hb2
  go_wp2_with (refine Dsk.wpList_store_new rfl 80 _ _ rfl w2 Z C rfl rfl HI.out HZC.out H1.out ?_)
  have HROW := hidm (show (w2.alloc (.cells C 80)).heap[w2.heap.size]? = some (.cells (sec m) 80 (0, 0)) from by rw [← HC.out]; exact heap_alloc_last w2 _)
  have HB3 := hidm (HB2.out.alloc HB2.out.size (.cells C 80))
  have HLT := hidm (show w2.heap.size < (w2.alloc (.cells C 80)).heap.size from by simp)
  have HGE := hidm HB2.out.size
  obtain ⟨w3, hw3⟩ : ∃ w3, w3 = w2.alloc (.cells C 80) := ⟨_, rfl⟩
  rw [← hw3] at HROW HB3 HLT ⊢
  obtain ⟨B, hB⟩ : ∃ B, B = w2.heap.size := ⟨_, rfl⟩
  rw [← hB] at HROW HLT HGE ⊢
  clear hw3 hB
  refine (US.out B w3 HROW.out).mono ?_
  rintro e w4 ⟨rfl, rfl⟩
  go_wp2_with fail
  refine (GV.out B w3 HROW.out).mono ?_
  rintro e w4 ⟨rfl, hr4, ho4⟩
  have HR4 := hidm hr4
  have HB4 := hidm (HB3.out.trans (ho4.below (fun k hk => by rw [show k = B from hk]; exact HGE.out) HB3.out.size))
  clear hr4 ho4
  obtain ⟨M, hl, hp, hp1, hp2⟩ := (HPG.out.later HB4.out).ex
  have c5 := cell_of_row w4 P 5 _ _ (0, 0) hp.row
  change w4.cell? ⟨P, 5, none⟩ = some (.map (some M)) at c5
  have C5 := hidm (show w4.drew.cell? ⟨P, 5, none⟩ = some (.map (some M)) from c5)
  have HRG := hidm (show w4.drew.rangeAt B 0 C2.toList from by rw [HCC2.out]; exact range_row (w := w4.drew) HR4.out)
  have HNE := hidm (show B ≠ M from fun e => by
    obtain ⟨es, c, hb, _⟩ := hp.map
    have := HR4.out
    rw [e, hb] at this
    cases this)
  have HPA := hidm hp
  have HL4 := hidm hl
  have HP1 := hidm hp1
  have HP2 := hidm hp2
  have HFIT := hidm HPG.out.fit
  clear hl hp hp1 hp2 c5
  go_wp2_with fail
  refine wp_region_held_drew (S := fun u => u.cell? ⟨P, 5, none⟩ = some (.map (some M)) ∧ u.rangeAt B 0 C2.toList) (by kernel_rfl) (⟨C5.out, HRG.out⟩) (fun hHeld => ?_)
  refine Man.take1 (i := 0) (v := ?_) rfl (by kernel_rfl) (by kernel_rfl) (by kernel_rfl) (fun _ _ _ h => h) (by rfl) ?_ (by assumption) ?_
  rotate_left
  · (intro u hSu; (try dsimp only at hSu); go_simp; (try with_reducible rfl))
  (try simp only [Act.put, List.setIfInBounds_toArray, List.set_cons_zero, List.set_cons_succ])
  refine Man.take1 (i := 1) (v := ?_) rfl (by kernel_rfl) (by kernel_rfl) (by kernel_rfl) (fun _ _ _ h => h) (by rfl) ?_ (by assumption) ?_
  rotate_left
  · (intro u hSu; (try dsimp only at hSu); go_simp; (try with_reducible rfl))
  (try simp only [Act.put, List.setIfInBounds_toArray, List.set_cons_zero, List.set_cons_succ])
  refine Man.take1 (i := 2) (v := ?_) rfl (by kernel_rfl) (by kernel_rfl) (by kernel_rfl) (fun _ _ _ h => h) (by rfl) ?_ (by assumption) ?_
  rotate_left
  · (intro u hSu; (try dsimp only at hSu); go_simp; (try with_reducible rfl))
  (try simp only [Act.put, List.setIfInBounds_toArray, List.set_cons_zero, List.set_cons_succ])
  refine Man.take1 (i := 3) (v := ?_) rfl (by kernel_rfl) (by kernel_rfl) (by kernel_rfl) (fun _ _ _ h => h) (by rfl) ?_ (by assumption) ?_
  rotate_left
  · (intro u hSu; (try dsimp only at hSu); go_simp; (try with_reducible rfl))
  (try simp only [Act.put, List.setIfInBounds_toArray, List.set_cons_zero, List.set_cons_succ])
  refine Man.take1 (i := 4) (v := .agg C2) rfl (by kernel_rfl) (by kernel_rfl) (by kernel_rfl) (fun _ _ _ h => h) (by rfl) ?_ (by assumption) ?_
  · intro u hSu
    exact Dsk.exec_load_mid 80 _ rfl B 0 rfl C2 _ hSu.2 Tryz.underlying80 rfl HI2.out
  (try simp only [Act.put, List.setIfInBounds_toArray, List.set_cons_zero, List.set_cons_succ])
  refine Man.one (i := 5) rfl (by kernel_rfl) (fun K hK => ?_)
  obtain ⟨ob, hput, hmp⟩ := (HPA.out.map.later (Below.refl _ _).drew).put HPA.out.ok.2.2.2.rise (by have := HPA.out.ok.2.2.2.count; have := HPA.out.ok.2.2.1; omega) 0 (by omega) m2 HM2L.out
  rw [← HCC2.out, show ((0 : Nat) : Int) = 0 from rfl] at hput
  have HMP := hidm hmp
  have HOO := hidm (only_map (w := w4.drew) (M := M) ob)
  go_simp
  clear hput hmp
  refine hK.out _ _ ⟨(cells_but HOO.out (block_lt_of_cell hHeld.1) HPA.out.ne).trans hHeld.1, rangeAt_keep hHeld.2 (setBlock_other _ _ _ _ HNE.out)⟩ (fun hNew => ?_)
  clear hK K hHeld hNew
  (try simp only [Act.put, List.setIfInBounds_toArray, List.set_cons_zero, List.set_cons_succ])
  refine wpAnyH_done (by kernel_rfl) ?_ _
  have HFIN := hidm (Pg.turn (ch := Pgr.put v.ch 0 m2) (HL4.out.later (Below.refl _ _).drew) (HPA.out.keep (w' := w4.drew) rfl rfl) HP1.out HP2.out HFIT.out HOO.out HMP.out (HPA.out.ok.2.2.2.put HPA.out.ok.2.1 HM2L.out))
  go_wp2_with fail
  go_ret
  exact ⟨rfl, HFIN.out.1, fun j hj => (HFIN.out.2 j hj).trans (HB4.out.block j (HPG.out.qlt j hj))⟩
/-! ### Alloc -/
set_option maxHeartbeats 1000000 in
theorem alloc_no (p : Option Addr) (w : World) (h : NotPager p w) : Calls Tryz.prog 41 #[.pointer p] w fun e w' => e = .returned (.tuple #[.int .i64 0, .int .i64 13]) ∧ w = w' := by
  have G := hidm (gvn_no p w h)
  go_enter Tryz.func41, Tryz.ntmps41
  go_wp2_with fail
  refine G.out.mono ?_
  rintro e w1 ⟨rfl, rfl⟩
  go_wp2_with fail
  go_ret2
  exact ⟨rfl, rfl⟩
/-- What an Alloc of page k changes. -/
def PV.alloc (v : PV) (m : List UInt8) (k : Nat) : PV := (v.put 0 (takeB m k)).put k zeros
/-- What an Alloc comes to: page k, the least that is free; or there is none. -/
def AllocP (W : World) (Q : Nat → Prop) (P L D : Nat) (v : PV) (g : PL) (d : PD) (m : List UInt8) (w : World) (e : Ending) (w' : World) : Prop :=
  (∃ k : Nat, k < v.pages ∧ k ≠ 0 ∧ useB m k = false ∧ (∀ j, j < k → useB m j = true) ∧ e = .returned (.tuple #[.int .i64 (k : Int), .int .i64 0]) ∧ Pg W Q P L D (v.alloc m k) g d w' ∧ KeepQ Q w w') ∨
    ((∀ j, j < v.pages → useB m j = true) ∧ e = .returned (.tuple #[.int .i64 0, .int .i64 3]) ∧ Below w.heap.size w w')
set_option maxHeartbeats 8000000 in
set_option maxRecDepth 100000 in
theorem alloc_in (h : Pg W Q P L D v g d w) : Calls Tryz.prog 41 #[.pointer (some ⟨P, 0, none⟩)] w fun e w' => AllocP W Q P L D v g d (Pg.see v d 0) w e w' := by
  have G := hidm (gvn_yes P w h.cells.1)
  have UM := hidm (usem_in h)
  have hml := h.see_len 0
  obtain ⟨m, hm⟩ : ∃ m, m = Pg.see v d 0 := ⟨_, rfl⟩
  rw [← hm] at UM hml
  have HM := hidm hm
  obtain ⟨C, hC⟩ : ∃ C, C = sec m := ⟨_, rfl⟩
  obtain ⟨Z, hZ⟩ : ∃ Z, Z = sec zeros := ⟨_, rfl⟩
  have hz := zeroCon
  rw [← hZ] at hz
  rw [← hC] at UM
  have HI := hidm (show (Tryz.prog.info? 80).map (·.size) = some C.size from by rw [hC, Dsk.sec_size, hml]; exact infoCon)
  have HZC := hidm (show Z.size = C.size from by rw [hZ, hC, Dsk.sec_size, Dsk.sec_size, hml, Dsk.zeros_len])
  have H1 := hidm (show C.all (·.oneCell') = true from by rw [hC]; exact Dsk.sec_one _)
  have HC := hidm hC
  have HML := hidm hml
  have HPG := hidm h
  have hn24 := h.ok.2.2.1
  have c4 := h.cells.2.2.2.2.1
  have C4 := hidm (fun (w' : World) (hb : Below w.heap.size w w') => cell_later hb c4)
  have HZ := hidm hZ
  have hbz := buildCon
  rw [← hZ] at hbz
  obtain ⟨n, hn⟩ : ∃ n, n = v.pages := ⟨_, rfl⟩
  rw [← hn] at hn24 C4
  have HNP := hidm hn
  have US := hidm (fun (B k : Nat) (w' : World) (hr : w'.heap[B]? = some (.cells (sec m) 80 (0, 0))) (hk : k < n) => uses_any B k m w' hr hml (by omega))
  have TK := hidm (fun (B k : Nat) (w' : World) (hr : w'.heap[B]? = some (.cells (sec m) 80 (0, 0))) (hk : k < n) => take_in B k m w' hr hml (by omega))
  rw [← hm]
  clear h hm hC hZ hml hn c4
  go_enter Tryz.func41, Tryz.ntmps41
  go_wp2_with fail
  refine G.out.mono ?_
  rintro e w1 ⟨rfl, rfl⟩
  go_wp2_with fail
  refine UM.out.mono ?_
  rintro e w2 ⟨rfl, hb2⟩
  have HB2 := hidm hb2
  clear hb2
  have c4 := C4.out _ (HB2.out.alloc HB2.out.size (.cells C 80))
  go_wp2_with (refine Dsk.wpList_store_new rfl 80 _ _ rfl w2 Z C rfl rfl HI.out HZC.out H1.out ?_)
  clear c4
  have HROW := hidm (show (w2.alloc (.cells C 80)).heap[w2.heap.size]? = some (.cells (sec m) 80 (0, 0)) from by rw [← HC.out]; exact heap_alloc_last w2 _)
  have HB3 := hidm (HB2.out.alloc HB2.out.size (.cells C 80))
  have HLT := hidm (show w2.heap.size < (w2.alloc (.cells C 80)).heap.size from by simp)
  have HGE := hidm HB2.out.size
  obtain ⟨w3, hw3⟩ : ∃ w3, w3 = w2.alloc (.cells C 80) := ⟨_, rfl⟩
  rw [← hw3] at HROW HB3 HLT ⊢
  obtain ⟨B, hB⟩ : ∃ B, B = w2.heap.size := ⟨_, rfl⟩
  rw [← hB] at HROW HLT HGE ⊢
  clear hw3 hB
  go_loopw [5, 15] (fun _ ii wr => ∃ i : Nat, ii = .int .i64 (i : Int) ∧ i ≤ n ∧ Hid (w3 = wr) ∧ Hid (∀ j, j < i → useB m j = true)) (fun _ ii _ => (n - (intOf ii).toNat))
  case atStart => exact ⟨0, rfl, by omega, hidm rfl, hidm (fun j hj => by omega)⟩
  case round =>
    obtain ⟨i, rfl, hi, HW, HALL⟩ := hrel
    rcases Nat.lt_or_ge i n with hlt | hge
    · have f1 : (i : Int) < (n : Int) := by omega
      have U := hidm (US.out B i _ (HW.out ▸ HROW.out) hlt)
      obtain ⟨j, hj⟩ : ∃ j, j = i + 1 := ⟨_, rfl⟩
      have i1 : (i : Int) + 1 = (j : Int) := by omega
      have i1w : IntKind.i64.wrap (j : Int) = (j : Int) := by simp only [IntKind.wrap_i64]; omega
      have HJ := hidm hj
      have HJN := hidm (show j ≤ n from by omega)
      have HIN := hidm hlt
      clear hj
      obtain ⟨b, hb⟩ : ∃ b, b = useB m i := ⟨_, rfl⟩
      rw [← hb] at U
      have HBU := hidm hb
      clear hb
      go_wp2_with fail
      refine U.out.mono ?_
      rintro e w4 ⟨rfl, rfl⟩
      cases b with
      | true =>
        have HALL2 := hidm (show ∀ q, q < j → useB m q = true from fun q hq => by
          rcases Nat.lt_or_ge q i with h1 | h1
          · exact HALL.out q h1
          · rw [show q = i by have := HJ.out; omega]; exact HBU.out.symm)
        go_wp2_with fail
        go_roundw
        case rel => exact ⟨j, rfl, HJN.out, HW, HALL2⟩
        case measure => have := HJ.out; simp [intOf]; omega
      | false =>
        have HI0 := hidm (show i ≠ 0 from fun e => by have := HBU.out; rw [e] at this; cases this)
        have HM2L := hidm (take_len (k := i) HML.out)
        have TI := hidm (TK.out B i w3 HROW.out hlt)
        obtain ⟨m2, hm2⟩ : ∃ m2, m2 = takeB m i := ⟨_, rfl⟩
        rw [← hm2] at TI HM2L
        have HM2 := hidm hm2
        have HC2 := hidm (show (sec m2).size = 128 from by rw [Dsk.sec_size]; exact HM2L.out)
        obtain ⟨C2, hC2⟩ : ∃ C2, C2 = sec m2 := ⟨_, rfl⟩
        have HCC2 := hidm hC2
        rw [← hC2] at HC2
        have HI2 := hidm (show (Tryz.prog.info? 80).map (·.size) = some C2.size from by rw [HC2.out]; exact infoCon)
        clear hm2 hC2
        have HWW := HW.out
        subst HWW
        go_wp2_with fail
        refine TI.out.mono ?_
        rintro e w4 ⟨rfl, hr4, ho4⟩
        have HR4 := hidm hr4
        have HB4 := hidm (HB3.out.trans (ho4.below (fun k hk => by rw [show k = B from hk]; exact HGE.out) HB3.out.size))
        clear hr4 ho4
        obtain ⟨M, hl, hp, hp1, hp2⟩ := (HPG.out.later HB4.out).ex
        have c5 := cell_of_row w4 P 5 _ _ (0, 0) hp.row
        change w4.cell? ⟨P, 5, none⟩ = some (.map (some M)) at c5
        have C5 := hidm (show w4.drew.cell? ⟨P, 5, none⟩ = some (.map (some M)) from c5)
        have HRG := hidm (show w4.drew.rangeAt B 0 C2.toList from by rw [HCC2.out]; exact range_row (w := w4.drew) HR4.out)
        have HNE := hidm (show B ≠ M from fun e => by
          obtain ⟨es, c, hb, _⟩ := hp.map
          have := HR4.out
          rw [e, hb] at this
          cases this)
        have HPA := hidm hp
        have HL4 := hidm hl
        have HP1 := hidm hp1
        have HP2 := hidm hp2
        have HFIT := hidm HPG.out.fit
        clear hl hp hp1 hp2 c5
        have HOK1 := hidm (HPA.out.ok.2.2.2.put (k := 0) HPA.out.ok.2.1 HM2L.out)
        have HZZ := HZ
        go_wp2_with fail
        refine wp_region_held_drew (S := fun u => u.cell? ⟨P, 5, none⟩ = some (.map (some M)) ∧ u.rangeAt B 0 C2.toList) (by kernel_rfl) (⟨C5.out, HRG.out⟩) (fun hHeld => ?_)
        refine Man.take1 (i := 0) (v := ?_) rfl (by kernel_rfl) (by kernel_rfl) (by kernel_rfl) (fun _ _ _ h => h) (by rfl) ?_ (by assumption) ?_
        rotate_left
        · (intro u hSu; (try dsimp only at hSu); go_simp; (try with_reducible rfl))
        (try simp only [Act.put, List.setIfInBounds_toArray, List.set_cons_zero, List.set_cons_succ])
        refine Man.take1 (i := 1) (v := ?_) rfl (by kernel_rfl) (by kernel_rfl) (by kernel_rfl) (fun _ _ _ h => h) (by rfl) ?_ (by assumption) ?_
        rotate_left
        · (intro u hSu; (try dsimp only at hSu); go_simp; (try with_reducible rfl))
        (try simp only [Act.put, List.setIfInBounds_toArray, List.set_cons_zero, List.set_cons_succ])
        refine Man.take1 (i := 2) (v := ?_) rfl (by kernel_rfl) (by kernel_rfl) (by kernel_rfl) (fun _ _ _ h => h) (by rfl) ?_ (by assumption) ?_
        rotate_left
        · (intro u hSu; (try dsimp only at hSu); go_simp; (try with_reducible rfl))
        (try simp only [Act.put, List.setIfInBounds_toArray, List.set_cons_zero, List.set_cons_succ])
        refine Man.take1 (i := 3) (v := ?_) rfl (by kernel_rfl) (by kernel_rfl) (by kernel_rfl) (fun _ _ _ h => h) (by rfl) ?_ (by assumption) ?_
        rotate_left
        · (intro u hSu; (try dsimp only at hSu); go_simp; (try with_reducible rfl))
        (try simp only [Act.put, List.setIfInBounds_toArray, List.set_cons_zero, List.set_cons_succ])
        refine Man.take1 (i := 4) (v := ?_) rfl (by kernel_rfl) (by kernel_rfl) (by kernel_rfl) (fun _ _ _ h => h) (by rfl) ?_ (by assumption) ?_
        rotate_left
        · (intro u hSu; (try dsimp only at hSu); go_simp; (try with_reducible rfl))
        (try simp only [Act.put, List.setIfInBounds_toArray, List.set_cons_zero, List.set_cons_succ])
        refine Man.take1 (i := 5) (v := ?_) rfl (by kernel_rfl) (by kernel_rfl) (by kernel_rfl) (fun _ _ _ h => h) (by rfl) ?_ (by assumption) ?_
        rotate_left
        · (intro u hSu; (try dsimp only at hSu); go_simp; (try with_reducible rfl))
        (try simp only [Act.put, List.setIfInBounds_toArray, List.set_cons_zero, List.set_cons_succ])
        refine Man.take1 (i := 6) (v := ?_) rfl (by kernel_rfl) (by kernel_rfl) (by kernel_rfl) (fun _ _ _ h => h) (by rfl) ?_ (by assumption) ?_
        rotate_left
        · (intro u hSu; (try dsimp only at hSu); go_simp; (try with_reducible rfl))
        (try simp only [Act.put, List.setIfInBounds_toArray, List.set_cons_zero, List.set_cons_succ])
        refine Man.take1 (i := 7) (v := ?_) rfl (by kernel_rfl) (by kernel_rfl) (by kernel_rfl) (fun _ _ _ h => h) (by rfl) ?_ (by assumption) ?_
        rotate_left
        · (intro u hSu; (try dsimp only at hSu); go_simp; (try with_reducible rfl))
        (try simp only [Act.put, List.setIfInBounds_toArray, List.set_cons_zero, List.set_cons_succ])
        refine Man.take1 (i := 8) (v := ?_) rfl (by kernel_rfl) (by kernel_rfl) (by kernel_rfl) (fun _ _ _ h => h) (by rfl) ?_ (by assumption) ?_
        rotate_left
        · (intro u hSu; (try dsimp only at hSu); go_simp; (try with_reducible rfl))
        (try simp only [Act.put, List.setIfInBounds_toArray, List.set_cons_zero, List.set_cons_succ])
        refine Man.take1 (i := 9) (v := .agg C2) rfl (by kernel_rfl) (by kernel_rfl) (by kernel_rfl) (fun _ _ _ h => h) (by rfl) ?_ (by assumption) ?_
        · intro u hSu
          exact Dsk.exec_load_mid 80 _ rfl B 0 rfl C2 _ hSu.2 Tryz.underlying80 rfl HI2.out
        (try simp only [Act.put, List.setIfInBounds_toArray, List.set_cons_zero, List.set_cons_succ])
        refine Man.take1 (i := 10) (v := ?_) rfl (by kernel_rfl) (by kernel_rfl) (by kernel_rfl) (fun _ _ _ h => h) (by rfl) ?_ (by assumption) ?_
        rotate_left
        · (intro u hSu; (try dsimp only at hSu); go_simp; (try with_reducible rfl))
        (try simp only [Act.put, List.setIfInBounds_toArray, List.set_cons_zero, List.set_cons_succ])
        refine Man.one (i := 11) rfl (by kernel_rfl) (fun K hK => ?_)
        obtain ⟨Vz, bnz, oaz, obz, hentz, hstoz⟩ := MapIs.entry (HPA.out.map.later (Below.refl _ _).drew) HPA.out.ok.2.2.2.rise (by have := HPA.out.ok.2.2.2.count; have := HPA.out.ok.2.2.1; omega) 0 (by omega) m2 HM2L.out
        rw [show ((0 : Nat) : Int) = 0 from rfl] at hentz
        have HST := hidm hstoz
        have HO1 := hidm (only_map (w := w4.drew) (M := M) oaz)
        go_simp
        clear hentz hstoz
        refine hK.out _ _ ⟨(cells_but HO1.out (block_lt_of_cell hHeld.1) HPA.out.ne).trans hHeld.1, rangeAt_keep hHeld.2 (setBlock_other _ _ _ _ HNE.out)⟩ (fun hNew => ?_)
        clear hK K hHeld
        have hHeld := hNew
        clear hNew
        (try simp only [Act.put, List.setIfInBounds_toArray, List.set_cons_zero, List.set_cons_succ])
        refine Man.take1 (i := 12) (v := ?_) rfl (by kernel_rfl) (by kernel_rfl) (by kernel_rfl) (fun _ _ _ h => h) (by rfl) ?_ (by assumption) ?_
        rotate_left
        · (intro u hSu; (try dsimp only at hSu); go_simp; (try with_reducible rfl))
        (try simp only [Act.put, List.setIfInBounds_toArray, List.set_cons_zero, List.set_cons_succ])
        refine Man.one (i := 13) rfl (by kernel_rfl) (fun K hK => ?_)
        obtain ⟨hrun, hmp⟩ := HST.out _ rfl
        have HMP := hidm hmp
        rw [← HCC2.out] at hrun
        have HO2 := hidm (only_map (w := ChangeMaps.setBlock w4.drew M oaz) (M := M) obz)
        go_simp
        clear hrun hmp
        refine hK.out _ _ ⟨(cells_but HO2.out (block_lt_of_cell hHeld.1) HPA.out.ne).trans hHeld.1, rangeAt_keep hHeld.2 (setBlock_other _ _ _ _ HNE.out)⟩ (fun hNew => ?_)
        clear hK K hHeld
        have hHeld := hNew
        clear hNew
        (try simp only [Act.put, List.setIfInBounds_toArray, List.set_cons_zero, List.set_cons_succ])
        refine Man.one (i := 14) rfl (by kernel_rfl) (fun K hK => ?_)
        obtain ⟨Vk, bnk, oak, obk, hentk, hstok⟩ := MapIs.entry HMP.out HOK1.out.rise (by have := HOK1.out.count; have := HPA.out.ok.2.2.1; omega) i (by have := HIN.out; have := HPA.out.ok.2.2.1; omega) zeros Dsk.zeros_len
        have HST2 := hidm hstok
        have HO3 := hidm (only_map (w := ChangeMaps.setBlock (ChangeMaps.setBlock w4.drew M oaz) M obz) (M := M) oak)
        go_simp
        clear hentk hstok
        refine hK.out _ _ ⟨(cells_but HO3.out (block_lt_of_cell hHeld.1) HPA.out.ne).trans hHeld.1, rangeAt_keep hHeld.2 (setBlock_other _ _ _ _ HNE.out)⟩ (fun hNew => ?_)
        clear hK K hHeld
        have hHeld := hNew
        clear hNew
        (try simp only [Act.put, List.setIfInBounds_toArray, List.set_cons_zero, List.set_cons_succ])
        refine Man.take1 (i := 15) (v := ?_) rfl (by kernel_rfl) (by kernel_rfl) (by kernel_rfl) (fun _ _ _ h => h) (by rfl) ?_ (by assumption) ?_
        rotate_left
        · (intro u hSu; (try dsimp only at hSu); go_simp; (try with_reducible rfl))
        (try simp only [Act.put, List.setIfInBounds_toArray, List.set_cons_zero, List.set_cons_succ])
        refine Man.one (i := 16) rfl (by kernel_rfl) (fun K hK => ?_)
        obtain ⟨hrun, hmp⟩ := HST2.out _ rfl
        have HMP2 := hidm hmp
        rw [← HZZ.out] at hrun
        have HO4 := hidm (only_map (w := ChangeMaps.setBlock (ChangeMaps.setBlock (ChangeMaps.setBlock w4.drew M oaz) M obz) M oak) (M := M) obk)
        go_simp
        clear hrun hmp
        refine hK.out _ _ ⟨(cells_but HO4.out (block_lt_of_cell hHeld.1) HPA.out.ne).trans hHeld.1, rangeAt_keep hHeld.2 (setBlock_other _ _ _ _ HNE.out)⟩ (fun hNew => ?_)
        clear hK K hHeld hNew
        (try simp only [Act.put, List.setIfInBounds_toArray, List.set_cons_zero, List.set_cons_succ])
        refine wpAnyH_done (by kernel_rfl) ?_ _
        have HOO := hidm (((HO1.out.trans HO2.out (fun _ e => .inl e)).trans HO3.out (fun _ e => .inl e)).trans HO4.out (fun _ e => .inl e))
        have HFIN := hidm (Pg.turn (ch := Pgr.put (Pgr.put v.ch 0 m2) i zeros) (HL4.out.later (Below.refl _ _).drew) (HPA.out.keep (w' := w4.drew) rfl rfl) HP1.out HP2.out HFIT.out HOO.out HMP2.out (HOK1.out.put (by have := HIN.out; have := HNP.out; omega) Dsk.zeros_len))
        go_wp2_with fail
        go_ret2
        refine .inl ⟨i, by have := HIN.out; have := HNP.out; omega, HI0.out, HBU.out.symm, HALL.out, rfl, ?_, fun j hj => (HFIN.out.2 j hj).trans (HB4.out.block j (HPG.out.qlt j hj))⟩
        have := HFIN.out.1
        unfold PV.alloc PV.put
        rw [← HM2.out]
        exact this
    · obtain rfl : i = n := by omega
      have f1 : ¬ (i : Int) < (i : Int) := by omega
      go_wp2_with fail
      go_ret2
      exact .inr ⟨fun q hq => HALL.out q (by rw [HNP.out]; exact hq), rfl, HW.out ▸ HB3.out⟩
end
end Pgr
end Go.Proofs.YtmccnlffikegfaaGreatDoor
