/- Copy, beneath a pager. Conditions: as each says. -/
import Derived.Test.YtkgbemkcnahkoaaGreatDoorZDlto
import Derived.Shelf.SlMaps.Clone
import Derived.Lib.SliceRun
namespace Go.Proofs.YtkgbemkcnahkoaaGreatDoor
open Go.RowKit
namespace Dsk
set_option maxHeartbeats 2000000 in
set_option maxRecDepth 100000 in
theorem mclone_any (M : Nat) (es : Array MapEntry) (clock : Nat) (w : World) (hb : w.heap[M]? = some (.map es clock)) :
    Calls Tryz.prog 71 #[.map (some M)] w fun e w' => e = .returned (.map (some w.heap.size)) ∧ w' = w.alloc (.map es clock) := by
  have hq := fun w => run_eql_map_nil_sl (P := Tryz.prog) w 80 _ _ (some M) Tryz.underlying80
  go_enter Tryz.func71, Tryz.ntmps71
  go_wp2
  rw [run_callFunc_extern Tryz.func110 (by kernel_rfl) (by kernel_rfl) (by kernel_rfl) (e := Extern.MapsClone.clone) (by kernel_rfl), run_maps_clone_sl w 80 hb]
  simp only [Result.andThen]
  rw [Oper.upon_value]
  go_wp2
  rw [run_typeAssert_map_sl _ 80 20 _ _ _ Tryz.underlying80]
  simp only [Result.andThen]
  rw [Oper.upon_value]
  go_wp2
  go_ret
  exact ⟨rfl, rfl⟩
set_option maxHeartbeats 2000000 in
theorem sclone_nil (w : World) :
    Calls Tryz.prog 72 #[.slice none 0 0] w fun e w' => e = .returned (.slice none 0 0) ∧ w' = w := by
  have hq : ∀ (w : World) (a : Option Addr) (n c n' c' : Nat), (binOp .eql 81 (.slice a n c) (.slice none n' c')).run Tryz.prog w = .ok (.bool a.isNone) w := fun w a n c n' c' => Lib.run_eql_slice_nil w _ _ a n c n' c' Tryz.underlying81
  go_enter Tryz.func72, Tryz.ntmps72
  go_wp2_with fail
  go_ret
  exact ⟨rfl, rfl⟩
set_option maxHeartbeats 2000000 in
set_option maxRecDepth 100000 in
theorem sclone_some (g n c : Nat) (xs : List Value) (w : World) (hn : n ≤ 1000000) (h1 : ∀ v ∈ xs, v.oneCell' = true) (hown : w.ownsRow 0 103 257 (.slice (some ⟨g, 0, none⟩) n c) n xs) :
    Calls Tryz.prog 72 #[.slice (some ⟨g, 0, none⟩) n c] w fun e w' => ∃ v', e = .returned v' ∧ w'.ownsRow w.heap.size 103 257 v' n xs ∧ Below w.heap.size w w' := by
  obtain ⟨i0, hi0, hz0, hz1, hz2⟩ := info_parts infoW
  have hq : ∀ (w : World) (a : Option Addr) (n c n' c' : Nat), (binOp .eql 81 (.slice a n c) (.slice none n' c')).run Tryz.prog w = .ok (.bool a.isNone) w := fun w a n c n' c' => Lib.run_eql_slice_nil w _ _ a n c n' c' Tryz.underlying81
  have hzW : (Value.agg zeroW).cells.size = 257 := by simp [Value.cells, zeroW, vals_len, zeros_len]
  have HXL := hidm (show xs.length = n * 257 from hown.1)
  have HO := hidm (show ∀ j u, xs[j]? = some u → g < w.heap.size ∧ w.cell? ⟨g, j, none⟩ = some u from fun j u hu => by
    rcases hown.2 with ⟨hv, _⟩ | ⟨g', c', cur, hv, _, hh, _, _, hsz, htk⟩
    · cases hv
    · simp only [Value.slice.injEq, Option.some.injEq, Addr.mk.injEq] at hv
      obtain ⟨⟨rfl, _⟩, _⟩ := hv
      refine ⟨lt_of_block hh, ?_⟩
      rw [cell_of_row _ _ _ _ _ (0, 0) hh]
      rw [← htk] at hu
      have hj : j < n * 257 := by
        have := (List.getElem?_eq_some_iff.1 hu).1
        simp at this; omega
      rw [List.getElem?_take_of_lt hj] at hu
      simpa using hu)
  have H1 := hidm h1
  clear hown h1
  go_enter Tryz.func72, Tryz.ntmps72
  go_wp2_with (at_builtin; refine wpList_append_own _ rfl _ _ 81 rfl w.heap.size 103 i0 (.agg zeroW) 257 264 Tryz.underlying81 hi0 hz0 hz1 hz2 hzW (by decide) _ _ _ rfl (World.ownsRow_made w #[] 0 (Nat.le_refl _) (Nat.zero_le _) rfl) ⟨g, 0, none⟩ n c xs rfl ?qc1 ?qc2 ?qc3 ?qc4 ?qc5 ?qc6 ?_)
  case qc1 => exact HXL.out
  case qc2 =>
    intro j u hj
    obtain ⟨h1, h2⟩ := HO.out j u hj
    have hadd : (⟨g, 0, none⟩ : Addr).add j = ⟨g, j, none⟩ := by unfold Addr.add; split <;> simp_all
    rw [hadd]
    exact cell_later ((Below.refl _ w).alloc (Nat.le_refl _) _) h2
  case qc3 => exact H1.out
  case qc4 => unfold maxLen; omega
  case qc5 => omega
  case qc6 => simp
  intro v' w1 hown hgrow hnil
  have HOW := hidm (show w1.ownsRow w.heap.size 103 257 v' n xs from by simpa using hown)
  have HGR := hidm hgrow
  clear hown hgrow hnil
  go_wp2_with fail
  go_ret
  exact ⟨v', rfl, HOW.out, ((Below.refl _ w).alloc (Nat.le_refl _) _).grown HGR.out (by simp) (by intro k hk; simp [Value.ownBlock] at hk; omega)⟩
theorem sclone_any (ao : Option Addr) (n c : Nat) (xs : List Value) (w : World) (hn : n ≤ 1000000) (h1 : ∀ v ∈ xs, v.oneCell' = true) (hown : w.ownsRow 0 103 257 (.slice ao n c) n xs) :
    Calls Tryz.prog 72 #[.slice ao n c] w fun e w' => ∃ ao' c', e = .returned (.slice ao' n c') ∧ w'.ownsRow w.heap.size 103 257 (.slice ao' n c') n xs ∧ Below w.heap.size w w' := by
  rcases hown.2 with ⟨hv, h0⟩ | ⟨g, c', cur, hv, _⟩
  · simp only [Value.slice.injEq] at hv
    obtain ⟨rfl, hn0, rfl⟩ := hv
    subst hn0
    have hx : xs = [] := List.length_eq_zero_iff.1 (by simpa using hown.1)
    subst hx
    exact (sclone_nil w).mono fun e w' ⟨he, hw⟩ => ⟨none, 0, he, World.ownsRow_nil _ _ _ _, hw ▸ Below.refl _ _⟩
  · simp only [Value.slice.injEq, true_and] at hv
    obtain ⟨rfl, rfl⟩ := hv
    refine (sclone_some g n c xs w hn h1 hown).mono fun e w' ⟨v', he, ho, hb⟩ => ?_
    rcases ho.2 with ⟨hv, h0⟩ | ⟨g', c2, cur2, hv, _⟩
    · subst hv; subst h0
      exact ⟨none, 0, he, ho, hb⟩
    · subst hv
      exact ⟨_, _, he, ho, hb⟩
theorem MapAt.copied {M : Nat} {f : Int → List UInt8} {w : World} (h : MapAt M f w) : ∃ es clock, w.heap[M]? = some (.map es clock) ∧ MapAt w.heap.size f (w.alloc (.map es clock)) := by
  obtain ⟨hl, es, c, hh, he⟩ := h
  exact ⟨es, c, hh, hl, es, c, heap_alloc_last w _, he⟩
set_option maxHeartbeats 4000000 in
set_option maxRecDepth 100000 in
theorem copy_any {D : Nat} {d : PD} {T : Nat → Prop} (w : World) (h : DiskIs D d T w) :
    Calls Tryz.prog 37 #[.pointer (some ⟨D, 0, none⟩)] w fun e w' => e = .returned (.pointer (some ⟨w.heap.size, 0, none⟩)) ∧ DiskIs w.heap.size d (Come w w') w' ∧ Below w.heap.size w w' := by
  obtain ⟨M, ao, cap, hA⟩ := h
  have HA := hidm hA
  have G := hidm (given_yes D w hA.c0)
  have c0 := hA.c0
  have c1 := hA.c1
  have c2 := hA.c2
  have c3 := hA.c3
  have c4 := hA.c4
  have c5 := hA.c5
  have c6 := hA.c6
  have c7 := hA.c7
  have k2 : ∀ o, (w.alloc o).cell? ⟨D, 2, none⟩ = some (.map (some M)) := fun o => cell_later ((Below.refl _ w).alloc (Nat.le_refl _) o) c2
  clear hA
  go_enter Tryz.func37, Tryz.ntmps37
  go_wp2_with fail
  refine G.out.mono ?_
  rintro e w1 ⟨rfl, rfl⟩
  go_wp2_with fail
  obtain ⟨O, hO⟩ : ∃ O, O = Obj.cells #[.pointer (some ⟨w.heap.size, 0, none⟩), .int .i64 (d.n : Int), .map (some M), .slice ao d.cs.length cap, .int .i64 (d.wr : Int), .int .i64 (d.fl : Int), .bool d.fu, .int .i64 (d.lf : Int)] 83 (0, 0) := ⟨_, rfl⟩
  rw [← hO]
  have hO2 : O = .cells (dcells w.heap.size d M (.slice ao d.cs.length cap)) 83 (0, 0) := hO
  clear hO
  have hB1 := (Below.refl w.heap.size w).alloc (Nat.le_refl _) O
  obtain ⟨es, clock, hes, hm2⟩ := (HA.out.map.later hB1).copied
  refine (mclone_any M es clock _ hes).mono ?_
  rintro e w1 ⟨rfl, rfl⟩
  have hsz : (w.alloc O).heap.size = w.heap.size + 1 := by simp
  rw [hsz] at hm2 ⊢
  have hB2 := hB1.alloc (by rw [hsz]; omega) (.map es clock)
  have hr2 : ((w.alloc O).alloc (.map es clock)).heap[w.heap.size]? = some (.cells (dcells w.heap.size d M (.slice ao d.cs.length cap)) 83 (0, 0)) := by
    rw [Below.heap_alloc _ _ _ (by rw [hsz]; omega), heap_alloc_last w _, hO2]
  obtain ⟨W2, hW2⟩ : ∃ W2, W2 = (w.alloc O).alloc (.map es clock) := ⟨_, rfl⟩
  have hsz2 : W2.heap.size = w.heap.size + 2 := by rw [hW2]; simp
  rw [← hW2] at hm2 hB2 hr2 ⊢
  clear hW2 hes hB1 hO2 k2 c0 c1 c2 c4 c5 c6 c7 hsz
  have HDlt := hidm (show D < w.heap.size from HA.out.lt D HA.out.tD)
  have d2 : W2.cell? ⟨w.heap.size, 2, none⟩ = some (.map (some M)) := row_cell hr2 2
  have z2 := frozen_of_row W2 w.heap.size 2 _ _ hr2
  have k3 : ∀ v, (W2.setCell ⟨w.heap.size, 2, none⟩ v).cell? ⟨D, 3, none⟩ = some (.slice ao d.cs.length cap) := fun v => by
    rw [World.cell?_of_block (w := W2) (a := ⟨D, 3, none⟩) (heap_setCell_other W2 _ D v (by have := HDlt.out; simp; omega))]
    exact cell_later hB2 c3
  have HR2 := hidm hr2
  have HM2 := hidm hm2
  have HB2 := hidm hB2
  clear hr2 hm2 hB2 c3
  go_wp2_with fail
  obtain ⟨W3, hW3⟩ : ∃ W3, W3 = W2.setCell ⟨w.heap.size, 2, none⟩ (.map (some (w.heap.size + 1))) := ⟨_, rfl⟩
  have hsz3 : W3.heap.size = w.heap.size + 2 := by rw [hW3]; simp [hsz2]
  have hB3 : Below w.heap.size w W3 := by
    rw [hW3]
    exact ((Only.of (T := fun k => k = w.heap.size) HB2.out).set (.inl rfl) _).below (fun k e => by have : k = w.heap.size := e; omega) (Nat.le_refl _)
  have hr3 : W3.heap[w.heap.size]? = some (.cells (dcells w.heap.size d (w.heap.size + 1) (.slice ao d.cs.length cap)) 83 (0, 0)) := by
    rw [hW3, row_set HR2.out]; rfl
  have hm3 : MapAt (w.heap.size + 1) d.f W3 := by
    rw [hW3]; exact map_set HR2.out HM2.out 2 _
  rw [← hW3]
  clear hW3 k3 d2 z2
  refine (sclone_any ao d.cs.length cap (flatW d.cs) W3 HA.out.ok.2.2.1 (flatW_one _) (owns_later HA.out.own hB3)).mono ?_
  rintro e W4 ⟨ao', c', rfl, hown, hb4⟩
  have hr4 := below_keeps hb4 hr3
  have hm4 := hm3.later hb4
  have d3 : W4.cell? ⟨w.heap.size, 3, none⟩ = some (.slice ao d.cs.length cap) := row_cell hr4 3
  have z3 := frozen_of_row W4 w.heap.size 3 _ _ hr4
  have HR4 := hidm hr4
  have HM4 := hidm hm4
  have HO4 := hidm hown
  have HB4 := hidm (hB3.trans (hb4.mono hB3.size))
  have HS4 := hidm (show w.heap.size + 2 ≤ W4.heap.size from by have := hb4.size; omega)
  clear hr4 hm4 hown hb4 hr3 hm3 hB3
  go_wp2_with fail
  go_ret
  have hBF : Below w.heap.size w (W4.setCell ⟨w.heap.size, 3, none⟩ (.slice ao' d.cs.length c')) :=
    ((Only.of (T := fun k => k = w.heap.size) HB4.out).set (.inl rfl) _).below (fun k e => by have : k = w.heap.size := e; omega) (Nat.le_refl _)
  have hlt := HS4.out
  have hO0 : W4.ownsRow 0 103 257 (.slice ao' d.cs.length c') d.cs.length (flatW d.cs) := by
    refine ⟨HO4.out.1, ?_⟩
    rcases HO4.out.2 with h2 | ⟨g, c, cur, hv, hg, rest⟩
    · exact .inl h2
    · exact .inr ⟨g, c, cur, hv, Nat.zero_le _, rest⟩
  refine ⟨rfl, ⟨w.heap.size + 1, ao', c', ?_, map_set HR4.out HM4.out 3 _, own_set HR4.out hO0 3 _, ?_, ?_, ?_, fun k hk => hk.2, HA.out.ok⟩, hBF⟩
  · rw [row_set HR4.out]; rfl
  · unfold Come; simp; omega
  · unfold Come; simp; omega
  · intro p hp
    have hq := HO4.out.lt p.block (by rw [hp]; rfl)
    unfold Come
    simp only [World.size_setCell]
    omega
end Dsk
end Go.Proofs.YtkgbemkcnahkoaaGreatDoor
