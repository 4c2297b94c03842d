/- What a page becomes; the pages that are changed, rising; what is changed is taken back. Conditions: as each says. -/
import Derived.Test.YtmccnlffikegfaaGreatDoorZPbto
import Derived.Test.YtmccnlffikegfaaGreatDoorZIter
import Derived.Test.YtmccnlffikegfaaGreatDoorZDhto
import Derived.Lib.BufferWrite
namespace Go.Proofs.YtmccnlffikegfaaGreatDoor
open Go.RowKit
namespace Pgr
open Dsk (Only below_keeps cell_later sec vals pad zeros upd IntsAt ints)
/-- Block M is the map of the changes ch. -/
def MapIs (M : Nat) (ch : Ch) (w : World) : Prop := w.ownsMap Tryz.prog 3 elem M ch.length (dat ch)
theorem MapIs.keep {M : Nat} {ch : Ch} {w w' : World} (h : MapIs M ch w) (hk : w'.heap[M]? = w.heap[M]?) : MapIs M ch w' := by
  obtain ⟨es, c, hb, rest⟩ := h
  exact ⟨es, c, hk.trans hb, rest⟩
theorem MapIs.lt {M : Nat} {ch : Ch} {w : World} (h : MapIs M ch w) : M < w.heap.size := World.ownsMap.lt h
theorem MapIs.later {M : Nat} {ch : Ch} {w w' : World} (h : MapIs M ch w) (hb : Below w.heap.size w w') : MapIs M ch w' := h.keep (hb.block M h.lt)
theorem MapIs.of {M n : Nat} {ch : Ch} {w : World} (h : w.ownsMap Tryz.prog 3 elem M n (dat ch)) : MapIs M ch w := by
  obtain ⟨es, c, hb, F, _, hD⟩ := h
  refine ⟨es, c, hb, F, ?_, hD⟩
  have h1 := congrArg Maps.size hD
  rw [dat_size] at h1
  have h2 : Maps.size (DataW.map ((es.toList.map (WideElems.rg Tryz.prog 3 elem)).foldr DataW.insert [])) = es.size := length_read es
  omega
theorem MapIs.new (w : World) : MapIs w.heap.size [] (w.alloc (.map #[] 0)) := World.ownsMap_made w _ _ _
theorem zeroCon (w : World) : (zeroValue 80).run Tryz.prog w = .ok (.agg (sec zeros)) w := by
  obtain ⟨zv, _⟩ := zero_of_info (P := Tryz.prog) (t := 80) (v := .agg (sec zeros)) (n := 128) (by kernel_rfl)
  exact zv w
theorem infoCon : (Tryz.prog.info? 80).map (·.size) = some 128 := by kernel_rfl
theorem cells_text (s : List UInt8) : Lib.byteCells s = vals s := rfl
theorem pad_cells (s : ByteArray) : ((sec zeros).toList.take 0 ++ Lib.byteCells s.data.toList ++ (sec zeros).toList.drop (0 + s.size)).toArray = sec (pad s.data.toList) := by
  rw [cells_text]
  show (([] : List Value) ++ vals s.data.toList ++ (vals zeros).drop (0 + s.size)).toArray = (vals (pad s.data.toList)).toArray
  congr 1
  unfold pad vals
  rw [List.nil_append, Nat.zero_add, List.map_append]
  congr 1
  unfold zeros
  rw [← List.map_drop, List.drop_replicate, Dsk.len_eq]
theorem setRow_below {B g : Nat} {a w : World} {cs : Array Value} (h : Below B a w) (hg : B ≤ g) : Below B a (w.setRow g cs) :=
  ⟨h.os, h.tape, h.output, by simpa [World.setRow] using h.size, fun k hk => (setRow_other w g k cs (by omega)).trans (h.block k hk)⟩
set_option maxHeartbeats 4000000 in
set_option maxRecDepth 100000 in
theorem con_any (s : ByteArray) (hs : s.size ≤ 128) (w : World) :
    Calls Tryz.prog 60 #[.string s] w fun e w' => e = .returned (.agg (sec (pad s.data.toList))) ∧ Below w.heap.size w w' := by
  have hz := zeroCon
  obtain ⟨Z, hZ⟩ : ∃ Z, Z = sec zeros := ⟨_, rfl⟩
  have hZs : Z.size = 128 := by rw [hZ, Dsk.sec_size, Dsk.zeros_len]
  have hcopy := Lib.run_copy_row_string (P := Tryz.prog) ((w.alloc (.cells Z 80)).alloc (.cells Z 80)) 62 9 3 5 (w.alloc (.cells Z 80)).heap.size 0 128 128 s Z 80 Tryz.underlying62 (by kernel_rfl) (heap_alloc_last _ _) hs (by rw [hZs]; omega)
  obtain ⟨C, hC⟩ : ∃ C, C = sec (pad s.data.toList) := ⟨_, rfl⟩
  have hpc := pad_cells s
  rw [← hZ, ← hC] at hpc
  rw [World.setRow_alloc_new, hpc, World.size_alloc] at hcopy
  rw [← hC]
  rw [← hZ] at hz
  have hCs : C.size = 128 := by rw [hC, Dsk.sec_size]; exact Dsk.pad_len (by rw [Dsk.len_eq]; exact hs)
  have HI := hidm (show (Tryz.prog.info? 80).map (·.size) = some C.size from by rw [hCs]; exact infoCon)
  have HZC := hidm (show Z.size = C.size from by rw [hZs, hCs])
  have H1 := hidm (show C.all (·.oneCell') = true from by rw [hC]; exact Dsk.sec_one _)
  have HR1 := hidm (show ((w.alloc (.cells Z 80)).alloc (.cells C 80)).heap[w.heap.size + 1]? = some (.cells C 80 (0, 0)) from by
    have := heap_alloc_last (w.alloc (.cells Z 80)) (.cells C 80)
    rwa [World.size_alloc] at this)
  have HR0 := hidm (show ((w.alloc (.cells Z 80)).alloc (.cells C 80)).heap[w.heap.size]? = some (.cells Z 80 (0, 0)) from (heap_alloc_old _ _ (by simp)).trans (heap_alloc_last w _))
  have HB := hidm (show Below w.heap.size w (((w.alloc (.cells Z 80)).alloc (.cells C 80)).setRow w.heap.size C) from setRow_below (((Below.refl _ _).alloc (Nat.le_refl _) _).alloc (by simp) _) (Nat.le_refl _))
  clear hZ hC hZs hCs hpc hs
  go_enter Tryz.func60, Tryz.ntmps60
  go_wp2_with (first
    | (refine wpList_load_row rfl 80 _ rfl (w.heap.size + 1) rfl 80 C (0, 0) _ HR1.out Tryz.underlying80 rfl HI.out ?_)
    | (refine wpList_store_row rfl 80 _ _ rfl w.heap.size C rfl rfl 80 Z HR0.out HI.out HZC.out H1.out ?_))
  (try simp only [Exit.inBlock, Exit.then])
  refine bodyPost_ret (results_cell_row rfl _ _ w.heap.size 80 C (0, 0) _ rfl (setRow_heap _ _ _ _ _ _ HR0.out) Tryz.underlying80 rfl HI.out) rfl ?_
  exact ⟨rfl, HB.out⟩
/-! ### The pages that are changed -/
theorem sortsA (m : Nat) : AnyZI.SortsIn Tryz.prog Tryz.sortedA_ren Fence.wide m :=
  ⟨fun blk off cap ss W hH hblk hsz => callsIn_wide.2 (AnyM.slices_Sort_int Tryz.sortA blk off cap ss W hH hblk hsz),
   fun p cap W => callsIn_wide.2 (AnyM.slices_Sort_int_none Tryz.sortA p cap W)⟩
set_option maxHeartbeats 1000000 in
theorem rising_raw {H : Type} (b nn : Nat) (D0 : DataW H) (R : Value → Option (DataW H × List MemPlace)) (w : World) (hown : w.ownsMap Tryz.prog 3 R b nn D0) (hmax : Maps.size D0 ≤ maxLen) (hbytes : Maps.size D0 * 8 ≤ 140737488355328) :
    Calls Tryz.prog 74 #[.map (some b)] w fun e w' => ∃ (v : Value) (ss : List Int), e = .returned v ∧ ss.Perm (intKeys D0) ∧
      w'.ownsRow w.heap.size 3 1 v ss.length ((ss.mergeSort (fun x y => decide (x ≤ y))).map encZ) ∧ (v = .slice none 0 0 ↔ ss = []) ∧ Below w.heap.size w w' := by
  refine (callsIn_wide (n := 6)).1 ?_
  have hbl := hown.lt
  have hseq : SeqGives Fence.wide 2 Tryz.prog 127 #[.pointer (some ⟨w.heap.size, 0, none⟩)] encZ (fun ss => ss.Perm (intKeys D0)) (Maps.size D0) (w.alloc (.cells #[.map (some b)] 83)) :=
    AnyZI.keys_gives (ρ := Tryz.keysA_ren) { Tryz.keysA with } Fence.wide _ trivial rfl (by omega) w.heap.size b nn D0 _ (by simp) (by simp) (by
      obtain ⟨es, clock, hb, Ft, hs, hD⟩ := hown
      exact ⟨es, clock, (Below.heap_alloc _ _ b hbl).trans hb, Ft, hs, hD⟩)
  have cK : ∀ mb W, CallsIn Fence.wide 5 Tryz.prog 103 #[.map mb] W fun e w' => e = .returned (.func (.func 127) #[] #[.pointer (some ⟨W.heap.size, 0, none⟩)]) ∧ w' = W.alloc (.cells #[.map mb] 83) := fun mb W => AnyZI.keys_in Tryz.keysA Fence.wide 5 trivial rfl mb W
  have cS := AnyZI.sorted_in Tryz.sortedA Fence.wide 5 trivial trivial trivial trivial rfl (by omega) (sortsA _) (enters_of Tryz.func126 (by kernel_rfl) rfl) 127 #[.pointer (some ⟨w.heap.size, 0, none⟩)] trivial (enters_of Tryz.func127 (by kernel_rfl) rfl) _ _ hmax hbytes _ hseq
  change CallsIn _ _ Tryz.prog 102 _ _ _ at cS
  have hfK : Fence.wide.fn 103 := trivial
  have hfS : Fence.wide.fn 102 := trivial
  refine callsIn_of_wp Tryz.func74 rfl trivial ?_ rfl
  simp only [Tryz.ntmps74, List.size_toArray, List.length_cons, List.length_nil, Nat.reduceAdd, Nat.reduceSub, Array.replicate_succ, Array.replicate_zero, List.push_toArray, List.append_toArray, List.nil_append, List.cons_append]
  gi_wp2_with (first
    | (gi_at_call 103; refine (cK _ _).mono ?_; rintro e w' ⟨rfl, rfl⟩)
    | (gi_at_call 102; refine cS.mono ?_; rintro e w' ⟨v, ss, rfl, hS, hrow, hnil, hb⟩))
  go_ret
  exact ⟨v, ss, rfl, hS, ownsRow_base_a hrow (by simp), hnil, ((Below.refl _ w).alloc (Nat.le_refl _) _).trans (hb.mono (by simp))⟩
/-- The numbers of the pages. -/
def nums (ch : Ch) : List Nat := ch.map Prod.fst
theorem rising_any {N : Nat} {ch : Ch} {M : Nat} {w : World} (hN : N ≤ 1024) (ho : Ok N ch) (hm : MapIs M ch w) :
    Calls Tryz.prog 74 #[.map (some M)] w fun e w' => ∃ v, e = .returned v ∧ IntsAt w.heap.size (nums ch) v w' ∧ Below w.heap.size w w' := by
  have hc := ho.count
  refine (rising_raw M _ _ _ w hm (by rw [dat_size]; unfold maxLen; omega) (by rw [dat_size]; omega)).mono fun e w' h => ?_
  obtain ⟨v, ss, rfl, hp, hrow, _, hb⟩ := h
  refine ⟨v, rfl, ?_, hb⟩
  have hl : ss.length = (nums ch).length := by rw [hp.length_eq, dat_keys]; simp [nums]
  rw [keys_sorted ho.rise hp, hl] at hrow
  unfold IntsAt
  have : List.map encZ (ch.map (fun p => (p.1 : Int))) = ints (nums ch) := by unfold ints nums; rw [List.map_map, List.map_map]; rfl
  rw [← this]
  exact hrow
/-! ### What is changed is taken back -/
theorem dat_del (ch : Ch) (kl : Lit) : (dat ch).del kl = dat (ch.filter fun p => !(lit p.1).sameKey kl) := by
  show DataW.map ((ch.map ent).filter _) = DataW.map _
  congr 1
  rw [List.filter_map]
  rfl
/-- What is still to come. -/
def still (ch : Ch) (left : Lit → Bool) : Ch := ch.filter fun p => left (lit p.1)
theorem still_all {ch : Ch} (h : ch.Pairwise (fun a b => a.1 < b.1)) : still ch (Maps.has (dat ch)) = ch := by
  refine List.filter_eq_self.2 (fun p hp => ?_)
  rw [dat_has, mem_look h (k := p.1) (s := p.2) hp]; rfl
theorem still_none {ch : Ch} {left : Lit → Bool} (h : ∀ kl, left kl = false) : still ch left = [] := List.filter_eq_nil_iff.2 (fun p _ => by rw [h]; simp)
theorem still_del (ch : Ch) (left : Lit → Bool) (kl : Lit) : (dat (still ch left)).del kl = dat (still ch (fun z => left z && !z.sameKey kl)) := by
  rw [dat_del]
  unfold still
  rw [List.filter_filter]
  congr 2
  funext p
  exact Bool.and_comm _ _
set_option maxHeartbeats 4000000 in
set_option maxRecDepth 100000 in
theorem forget_any {ch : Ch} {P M : Nat} {w : World} (hr : ch.Pairwise (fun a b => a.1 < b.1)) (hc : w.cell? ⟨P, 5, none⟩ = some (.map (some M))) (hne : P ≠ M) (hm : MapIs M ch w) :
    Calls Tryz.prog 47 #[.pointer (some ⟨P, 0, none⟩)] w fun e w' => e = .returned (.tuple #[]) ∧ MapIs M [] w' ∧ Only (fun k => k = M) w w' := by
  have K : Maps.Keyed Tryz.prog 3 := Maps.int_keyed Tryz.underlying3
  have hP := block_lt_of_cell hc
  have hM := hm.lt
  have HN := hidm hne
  have HST := hidm (still_all hr)
  have HM := hidm hm
  clear hr hm
  go_enter Tryz.func47, Tryz.ntmps47
  go_wp2_with (first | (at_range; refine wpList_range_own _ rfl _ 83 rfl 3 80 K Tryz.underlying83 elem M ch.length (dat ch) rfl HM.out ?_; intro w0 hrg0 hg0 hs0) | go_in)
  (try go_frame)
  have HO0 := hidm ((Only.refl (fun k => k = M) w).grown hg0 (fun k hk => by cases hk))
  have HR0 := hidm (show w0.ranges Tryz.prog 3 elem M w.heap.size ch.length (dat (still ch (Maps.has (dat ch)))) (Maps.has (dat ch)) (Maps.size (dat ch)) from by rw [HST.out]; exact hrg0)
  clear hrg0 hg0 hs0
  go_loopw [2] (fun _ wr => ∃ (left : Lit → Bool) (cnt : Nat), Hid (wr.ranges Tryz.prog 3 elem M w.heap.size ch.length (dat (still ch left)) left cnt) ∧ Hid (Only (fun k => k = M) w wr)) (fun _ wr => wr.rangeLeft M w.heap.size)
  case atStart => exact ⟨_, _, HR0, HO0⟩
  case round =>
    obtain ⟨left, cnt, HR, HO⟩ := hrel
    have hrg := HR.out
    go_wp2_with (first
      | (at_next; refine wpList_next_ranges _ rfl _ rfl 3 K elem encZ id (fun key kl hk => by obtain ⟨x, hx, _⟩ := Maps.keyOf_i64 Tryz.underlying3 hk; exact ⟨x, hx⟩) (fun v _ _ => ⟨v, rfl⟩) M w.heap.size ch.length _ _ _ rfl hrg ?_ ?_)
      | go_in)
    · intro hc0 hl0
      have HF := hidm (show MapIs M [] _ from MapIs.of (by have := hrg.owns; rw [still_none hl0] at this; exact this))
      clear hrg
      go_wp2_with fail
      go_end0
      exact ⟨rfl, HF.out, HO.out⟩
    · intro x c kl yd yp w2 cnt2 hkey hlk hv hat hrg2 hlt hg2 hs2 hen
      have HRG2 := hidm hrg2
      have HO2 := hidm (HO.out.grown hg2 (fun k hk => by cases hk; exact .inr (Nat.le_refl _)))
      have hc2 : w2.cell? ⟨P, 5, none⟩ = some (.map (some M)) := by
        have := HO2.out.block P hP (fun e => HN.out e)
        unfold World.cell? at hc ⊢
        rw [this]; exact hc
      have HLT := hidm hlt
      have HLE := hidm hrg.left_eq
      have HKEY := hidm hkey
      clear hat hv hrg2 hlt hg2 hs2 hlk hkey hrg
      go_wp2_with (first
        | (at_delete; refine wpList_delete_ranges _ rfl _ _ 83 3 rfl 80 K Tryz.underlying83 elem M w.heap.size ch.length _ _ _ rfl HRG2.out _ _ rfl HKEY.out ?_; intro w3 cnt3 hrg3 hle hturn; (try go_frame))
        | go_in)
      rw [still_del] at hrg3
      have e3 : (fun z => (left z && !z.sameKey kl) && !z.sameKey kl) = fun z => left z && !z.sameKey kl := Maps.strike_twice left kl
      have HRG3 := hidm hrg3
      have HO3 := hidm (HO2.out.grown hturn.grown (fun k hk => by cases hk; exact .inl rfl))
      have HLT3 := hidm (show w3.rangeLeft M w.heap.size < wr.rangeLeft M w.heap.size from by rw [hrg3.left_eq, HLE.out]; have := HLT.out; omega)
      clear hrg3 hle hturn
      rw [e3] at HRG3
      go_wp2_with fail
      go_roundw
      case rel => exact ⟨_, _, HRG3, HO3⟩
      case measure => exact HLT3.out
end Pgr
end Go.Proofs.YtmccnlffikegfaaGreatDoor
