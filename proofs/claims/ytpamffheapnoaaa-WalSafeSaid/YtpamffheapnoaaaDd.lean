/- lay, New. Conditions: the sector has 128 bytes. -/
import Derived.Test.YtpamffheapnoaaaDc
import Derived.Test.YtpamffheapnoaaaMan
namespace Go.Proofs.Ytpamffheapnoaaa
open Go.RowKit
namespace Dsk
theorem exec_load_mid {oi : Oper} {a : Act} {u : World} (ty : TypeId) (x : Operand) (ho : oi.op = .load ty x) (b o : Nat) (hx : a.eval x = .pointer (some ⟨b, o, none⟩)) (cs : Array Value) (d : TypeDesc) (hc : u.rangeAt b o cs.toList)
    (hu : Try.prog.underlying ty = some d) (hd : d.isRow = true) (hi : (Try.prog.info? ty).map (·.size) = some cs.size) : (execOp a.eval oi).run Try.prog u = .ok (.value (.agg cs)) u := by
  unfold execOp
  simp only [ho, hx, Instr.loadAt, Instr.sureAddr, Sem.run_bind, Sem.run_pure, Result.andThen_ok, run_loadVar_mid u b o ty cs.toList d hc hu hd (by simpa using hi)]
theorem range_new (w : World) (C : Array Value) (t : TypeId) : (w.alloc (.cells C t)).rangeAt w.heap.size 0 C.toList := fun j v hv => by
  rw [Nat.zero_add, cell_of_row _ _ j _ _ (0, 0) (heap_alloc_last w _)]
  simpa using hv
theorem rangeAt_keep {w w' : World} {b o : Nat} {cs : List Value} (h : w.rangeAt b o cs) (hb : w'.heap[b]? = w.heap[b]?) : w'.rangeAt b o cs := fun j v hv => by
  rw [World.cell?_of_block (w := w) (a := ⟨b, o + j, none⟩) hb]; exact h j v hv
theorem buildZ (w : World) : (Instr.build 76 #[]).run Try.prog w = .ok (.agg (sec zeros)) w := run_build w 76 #[] (sec zeros) (by kernel_rfl)
theorem setBlock_other (w : World) (M k : Nat) (o : Obj) (h : k ≠ M) : (ChangeMaps.setBlock w M o).heap[k]? = w.heap[k]? := by
  have : M ≠ k := fun e => h e.symm
  simp [ChangeMaps.setBlock, this]
set_option maxHeartbeats 4000000 in
set_option maxRecDepth 100000 in
theorem lay_any (D M : Nat) (f : Int → List UInt8) (k : Int) (s : List UInt8) (hs : s.length = 128) (w : World) (h2 : w.cell? ⟨D, 2, none⟩ = some (.map (some M))) (hm : MapAt M f w) :
    Calls Try.prog 43 #[.pointer (some ⟨D, 0, none⟩), .int .i64 k, .agg (sec s)] w fun e w' => e = .returned (.tuple #[]) ∧ MapAt M (upd f k s) w' ∧ Only (fun j => j = M) w w' := by
  have hDM : D ≠ M := fun e => by
    obtain ⟨_, es, c, hh, _⟩ := hm
    rw [e] at h2
    simp [World.cell?, hh] at h2
  obtain ⟨C, hC⟩ : ∃ C, C = sec s := ⟨_, rfl⟩
  obtain ⟨Z, hZ⟩ : ∃ Z, Z = sec zeros := ⟨_, rfl⟩
  have hbz := zeroSec
  have heq := fun w => eqlSec w s zeros hs zeros_len
  rw [← hZ] at hbz heq
  rw [← hC] at heq ⊢
  have HI := hidm (show (Try.prog.info? 76).map (·.size) = some C.size from by rw [hC, sec_size, hs]; exact infoSec)
  have hB := (Below.refl w.heap.size w).alloc (Nat.le_refl _) (.cells C 76)
  have hm1 := hm.later hB
  have hM := hm.lt
  have hr := range_new w C 76
  have HC := hidm hC
  clear hC hZ
  obtain ⟨z, hz⟩ : ∃ z, z = (s == zeros) := ⟨_, rfl⟩
  rw [← hz] at heq
  have HZ := hidm hz
  clear hz
  obtain ⟨W, hW⟩ : ∃ W, W = w.alloc (.cells C 76) := ⟨_, rfl⟩
  cases z
  · have k2 : W.cell? ⟨D, 2, none⟩ = some (.map (some M)) := by rw [hW]; exact cell_later hB h2
    obtain ⟨o, hp, hmp⟩ := (show MapAt M f W.drew from by rw [hW]; exact hm1.later ((Below.refl _ _).drew)).put k s hs
    rw [← HC.out] at hp
    have HS0 : Hid (W.drew.cell? ⟨D, 2, none⟩ = some (.map (some M)) ∧ W.drew.rangeAt w.heap.size 0 C.toList) := hidm ⟨k2, by rw [hW]; exact hr⟩
    have HNEW : Hid ((ChangeMaps.setBlock W.drew M o).cell? ⟨D, 2, none⟩ = some (.map (some M)) ∧ (ChangeMaps.setBlock W.drew M o).rangeAt w.heap.size 0 C.toList) :=
      hidm ⟨(World.cell?_of_block (w := W.drew) (a := ⟨D, 2, none⟩) (setBlock_other _ _ _ _ hDM)).trans HS0.out.1, rangeAt_keep HS0.out.2 (setBlock_other _ _ _ _ (by omega))⟩
    have HF := hidm (show MapAt M (upd f k s) (ChangeMaps.setBlock W.drew M o) ∧ Only (fun j => j = M) w (ChangeMaps.setBlock W.drew M o) from
      ⟨hmp, (show Only (fun j => j = M) w W.drew from .of (by rw [hW]; exact hB.drew)).trans (Only.setBlock (T := fun j => j = M) rfl o) (fun _ h => .inl h)⟩)
    have HR := hidm hr
    have HW := hidm hW
    clear hmp hr hW
    go_enter Try.func43, Try.ntmps43
    go_wp2_with (first
      | (refine wpList_load_mid rfl 76 _ rfl w.heap.size 0 rfl C.toList (.array 128 5) HR.out Try.underlying76 rfl (by rw [HI.out]; simp) ?_))
    rw [← HW.out]
    refine wp_region_held_drew (S := fun u => u.cell? ⟨D, 2, none⟩ = some (.map (some M)) ∧ u.rangeAt w.heap.size 0 C.toList) (by kernel_rfl) HS0.out (fun hHeld => ?_)
    refine Man.take1 (i := 0) (v := ?_) rfl (by kernel_rfl) (by kernel_rfl) (by kernel_rfl) (fun _ _ _ h => h) (by rfl) ?_ (by assumption) ?_
    rotate_left
    · (intro u hSu; (try dsimp only at hSu); go_simp; (try with_reducible rfl))
    (try simp only [Act.put, List.setIfInBounds_toArray, List.set_cons_zero, List.set_cons_succ])
    refine Man.take1 (i := 1) (v := ?_) rfl (by kernel_rfl) (by kernel_rfl) (by kernel_rfl) (fun _ _ _ h => h) (by rfl) ?_ (by assumption) ?_
    rotate_left
    · (intro u hSu; (try dsimp only at hSu); go_simp; (try with_reducible rfl))
    (try simp only [Act.put, List.setIfInBounds_toArray, List.set_cons_zero, List.set_cons_succ])
    refine Man.take1 (i := 2) (v := ?_) rfl (by kernel_rfl) (by kernel_rfl) (by kernel_rfl) (fun _ _ _ h => h) (by rfl) ?_ (by assumption) ?_
    rotate_left
    · (intro u hSu; (try dsimp only at hSu); go_simp; (try with_reducible rfl))
    (try simp only [Act.put, List.setIfInBounds_toArray, List.set_cons_zero, List.set_cons_succ])
    refine Man.take1 (i := 3) (v := ?_) rfl (by kernel_rfl) (by kernel_rfl) (by kernel_rfl) (fun _ _ _ h => h) (by rfl) ?_ (by assumption) ?_
    rotate_left
    · (intro u hSu; (try dsimp only at hSu); go_simp; (try with_reducible rfl))
    (try simp only [Act.put, List.setIfInBounds_toArray, List.set_cons_zero, List.set_cons_succ])
    refine Man.take1 (i := 4) (v := ?_) rfl (by kernel_rfl) (by kernel_rfl) (by kernel_rfl) (fun _ _ _ h => h) (by rfl) ?_ (by assumption) ?_
    rotate_left
    · (intro u hSu; (try dsimp only at hSu); go_simp; (try with_reducible rfl))
    (try simp only [Act.put, List.setIfInBounds_toArray, List.set_cons_zero, List.set_cons_succ])
    refine Man.take1 (i := 5) (v := .agg C) rfl (by kernel_rfl) (by kernel_rfl) (by kernel_rfl) (fun _ _ _ h => h) (by rfl) ?_ (by assumption) ?_
    · intro u hSu
      exact exec_load_mid 76 _ rfl w.heap.size 0 rfl C _ hSu.2 Try.underlying76 rfl HI.out
    (try simp only [Act.put, List.setIfInBounds_toArray, List.set_cons_zero, List.set_cons_succ])
    refine Man.one (i := 6) rfl (by kernel_rfl) (fun K hK => ?_)
    go_simp
    refine hK.out _ _ ?_ (fun hNew => ?_)
    · exact HNEW.out
    (try simp only [Act.put, List.setIfInBounds_toArray, List.set_cons_zero, List.set_cons_succ])
    refine wpAnyH_done (by kernel_rfl) ?_ _
    go_end0
    exact ⟨rfl, HF.out⟩
  · have k2 : W.cell? ⟨D, 2, none⟩ = some (.map (some M)) := by rw [hW]; exact cell_later hB h2
    have hsz : s = zeros := by have := HZ.out; simpa using this.symm
    obtain ⟨o, hp, hmp⟩ := (show MapAt M f W from by rw [hW]; exact hm1).del 0 k
    have HF := hidm (show MapAt M (upd f k s) (ChangeMaps.setBlock W M o) ∧ Only (fun j => j = M) w (ChangeMaps.setBlock W M o) from by
      rw [hsz]; exact ⟨hmp, (show Only (fun j => j = M) w W from .of (by rw [hW]; exact hB)).trans (Only.setBlock (T := fun j => j = M) rfl o) (fun _ h => .inl h)⟩)
    have HR := hidm hr
    have HW := hidm hW
    rw [hW] at k2 hp
    clear hmp hr hsz hW
    go_enter Try.func43, Try.ntmps43
    go_wp2_with (first
      | (refine wpList_load_mid rfl 76 _ rfl w.heap.size 0 rfl C.toList (.array 128 5) HR.out Try.underlying76 rfl (by rw [HI.out]; simp) ?_))
    refine bodyPost_ret (results_none rfl _ _ _) rfl ?_
    rw [← HW.out]
    exact ⟨rfl, HF.out⟩
end Dsk
end Go.Proofs.Ytpamffheapnoaaa
