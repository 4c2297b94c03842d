/- Rows of blocks; slices.Delete of one element. Condition: no more than three thousand elements. -/
import Derived.Test.YtapdhelioecneaaW4
import Derived.Deep.RegionLaw
import Derived.Shelf.RegionOpenPlain
import Derived.Lib.SlicesDelete
import Derived.Lib.Walk
namespace Go.Proofs.Ytapdhelioecneaa
open Go.RowKit
namespace Idx
/-- A block of the index, with where its items lie. -/
structure Bkm where
  ao : Option Addr
  cap : Nat
  xs : List It
def Bkm.th (b : Bkm) : Value := .slice b.ao b.xs.length b.cap
def Bkm.cells (b : Bkm) : List Value := [.slice b.ao b.xs.length b.cap, .int .i64 (maxE b.xs)]
def f2 (l : List Bkm) : List Value := l.flatMap Bkm.cells
theorem f2_len (l : List Bkm) : (f2 l).length = l.length * 2 := by
  induction l with
  | nil => rfl
  | cons v l ih => simp only [f2, List.flatMap_cons, List.length_append] at ih ⊢; rw [ih]; simp [Bkm.cells]; omega
theorem f2_app (l m : List Bkm) : f2 (l ++ m) = f2 l ++ f2 m := by simp [f2]
theorem f2_at (vs : List Bkm) : ∀ (j : Nat) (h : j < vs.length) (f : Nat), f < 2 → (f2 vs)[j * 2 + f]? = (vs[j]).cells[f]? := by
  induction vs with
  | nil => intro j h; cases h
  | cons v vs ih =>
    intro j h f hf
    have e : f2 (v :: vs) = v.cells ++ f2 vs := rfl
    have el : v.cells.length = 2 := rfl
    cases j with
    | zero => rw [e, List.getElem?_append_left (by rw [el]; omega)]; simp
    | succ j =>
      rw [e, List.getElem?_append_right (by rw [el]; omega), el, show (j + 1) * 2 + f - 2 = j * 2 + f by omega]
      exact ih j (by simpa using h) f hf
theorem f2_one (l : List Bkm) : ∀ u, u ∈ f2 l → u.oneCell' = true := by
  intro u hu
  simp only [f2, List.mem_flatMap] at hu
  obtain ⟨v, _, hv⟩ := hu
  simp only [Bkm.cells, List.mem_cons, List.not_mem_nil, or_false] at hv
  rcases hv with rfl | rfl <;> rfl
theorem f2_drop (l : List Bkm) (i : Nat) : f2 (l.drop i) = (f2 l).drop (i * 2) := by
  induction l generalizing i with
  | nil => simp [f2]
  | cons x l ih =>
    cases i with
    | zero => simp
    | succ i =>
      have e : f2 (x :: l) = x.cells ++ f2 l := rfl
      rw [List.drop_succ_cons, ih, e, show (i + 1) * 2 = x.cells.length + i * 2 by show _ = 2 + i * 2; omega, List.drop_append]
      simp
theorem f2_take (l : List Bkm) (i : Nat) : f2 (l.take i) = (f2 l).take (i * 2) := by
  induction l generalizing i with
  | nil => simp [f2]
  | cons x l ih =>
    cases i with
    | zero => simp [f2]
    | succ i =>
      have e : f2 (x :: l) = x.cells ++ f2 l := rfl
      have e2 : f2 (x :: l.take i) = x.cells ++ f2 (l.take i) := rfl
      rw [List.take_succ_cons, e2, ih, e, show (i + 1) * 2 = x.cells.length + i * 2 by show _ = 2 + i * 2; omega, List.take_append]
      simp
      exact (List.take_of_length_le (by omega)).symm
/-- The slice v owns these blocks. -/
def Row2 (base : Nat) (l : List Bkm) (v : Value) (w : World) : Prop := w.ownsRow base 91 2 v l.length (f2 l)
/-- A slice of blocks that is read. -/
def BksAt (l : List Bkm) (v : Value) (w : World) : Prop := ∃ ao cap, v = .slice ao l.length cap ∧ l.length ≤ cap ∧ cap ≤ 9223372036854775807 ∧ (l = [] ∨ ∃ b off, ao = some ⟨b, off, none⟩ ∧ b < w.heap.size ∧ ∀ j, j < l.length * 2 → w.cell? ⟨b, off + j, none⟩ = (f2 l)[j]?)
section
variable {l : List Bkm} {v : Value} {w w' : World} {base base' n : Nat}
theorem Row2.mono (h : Row2 base l v w) (hb : base' ≤ base) : Row2 base' l v w := ⟨h.1, h.2.elim .inl (fun ⟨g, c, cur, hv, hg, rest⟩ => .inr ⟨g, c, cur, hv, Nat.le_trans hb hg, rest⟩)⟩
theorem Row2.kept (h : Row2 base l v w) (hk : ∀ g, v.ownBlock = some g → w'.heap[g]? = w.heap[g]?) : Row2 base l v w' := own_of h hk
theorem Row2.later (h : Row2 base l v w) (hb : Below n w w') (hn : w.heap.size ≤ n) : Row2 base l v w' := own_of h (fun g hg => hb.block g (Nat.lt_of_lt_of_le (h.lt g hg).2 hn))
theorem Row2.form (h : Row2 base l v w) : ∃ ao cap, v = .slice ao l.length cap ∧ l.length ≤ cap ∧ cap ≤ 9223372036854775807 := by
  rcases h.2 with ⟨h2, h0⟩ | ⟨g, cap, cur, hv, _, _, hc, hm, _⟩
  · exact ⟨none, 0, by rw [h2, h0], by omega, by omega⟩
  · exact ⟨_, cap, hv, hc, by unfold maxLen at hm; omega⟩
theorem Row2.held (h : Row2 base l v w) (hp : 0 < l.length) : ∃ g cap, v = .slice (some ⟨g, 0, none⟩) l.length cap ∧ l.length ≤ cap ∧ cap ≤ 9223372036854775807 ∧ base ≤ g ∧ g < w.heap.size := by
  rcases h.2 with ⟨_, h2⟩ | ⟨g, c, cur, hv, hlo, hh, hnc, hcm, _⟩
  · omega
  · exact ⟨g, c, hv, hnc, by unfold maxLen at hcm; omega, hlo, lt_of_block hh⟩
theorem Row2.blocks (h : Row2 base l v w) : BksAt l v w := by
  rcases h.2 with ⟨h2, h0⟩ | ⟨g, cap, cur, hv, _, hh, hc, hm, _⟩
  · have e : l = [] := List.eq_nil_of_length_eq_zero h0
    subst e
    exact ⟨none, 0, h2, Nat.le_refl _, by omega, .inl rfl⟩
  · refine ⟨some ⟨g, 0, none⟩, cap, hv, hc, by unfold maxLen at hm; omega, .inr ⟨g, 0, rfl, lt_of_block hh, fun j hj => ?_⟩⟩
    subst hv
    rw [Nat.zero_add, World.ownsRow.cellAt h j (by omega)]
theorem BksAt.keep (h : BksAt l v w) (hs : w.heap.size ≤ w'.heap.size) (hk : ∀ g, v.ownBlock = some g → w'.heap[g]? = w.heap[g]?) : BksAt l v w' := by
  obtain ⟨ao, cap, rfl, hc, hm, h2⟩ := h
  refine ⟨ao, cap, rfl, hc, hm, ?_⟩
  rcases h2 with h2 | ⟨b, off, rfl, h4, h5⟩
  · exact .inl h2
  · exact .inr ⟨b, off, rfl, Nat.lt_of_lt_of_le h4 hs, fun j hj => by rw [World.cell?_of_block (a := ⟨b, off + j, none⟩) (hk b rfl)]; exact h5 j hj⟩
theorem BksAt.later (h : BksAt l v w) (hb : Below n w w') (hn : w.heap.size ≤ n) : BksAt l v w' := by
  obtain ⟨ao, cap, h1, hc, hm, h2⟩ := h
  refine ⟨ao, cap, h1, hc, hm, ?_⟩
  rcases h2 with h2 | ⟨b, off, h3, h4, h5⟩
  · exact .inl h2
  · exact .inr ⟨b, off, h3, Nat.lt_of_lt_of_le h4 hb.size, fun j hj => by rw [hb.cell (p := ⟨b, off + j, none⟩) (Nat.lt_of_lt_of_le h4 hn)]; exact h5 j hj⟩
theorem BksAt.at (h : BksAt l v w) (i : Nat) (hi : i < l.length) : ∃ b off cap, v = .slice (some ⟨b, off, none⟩) l.length cap ∧ b < w.heap.size ∧
    w.cell? ⟨b, off + i * 2, none⟩ = some (.slice (l[i]).ao (l[i]).xs.length (l[i]).cap) ∧ w.cell? ⟨b, off + i * 2 + 1, none⟩ = some (.int .i64 (maxE (l[i]).xs)) := by
  obtain ⟨ao, cap, h1, _, _, h2⟩ := h
  rcases h2 with rfl | ⟨b, off, rfl, h4, h5⟩
  · cases hi
  · refine ⟨b, off, cap, h1, h4, ?_, ?_⟩
    · have := h5 (i * 2 + 0) (by omega); rw [f2_at l i hi 0 (by omega)] at this; exact this
    · have := h5 (i * 2 + 1) (by omega); rw [f2_at l i hi 1 (by omega)] at this; exact this
end
theorem f2_dropAt (l : List Bkm) (i j : Nat) : (f2 (l.drop i))[j]? = (f2 l)[i * 2 + j]? := by rw [f2_drop, List.getElem?_drop]
theorem flat_dropOf (l : List It) (i j : Nat) : (flat (l.drop i))[j]? = (flat l)[i * 4 + j]? := by rw [flat_drop, List.getElem?_drop]
theorem flat_del (l : List It) (i : Nat) (hi : i < l.length) (j : Nat) : (flat (l.take i ++ l.drop (i + 1)))[j]? = if j < i * 4 then (flat l)[j]? else (flat l)[j + 4]? := by
  rw [flat_app, flat_take, flat_drop]
  have h1 : ((flat l).take (i * 4)).length = i * 4 := by rw [List.length_take, flat_len]; omega
  by_cases h : j < i * 4
  · rw [if_pos h, List.getElem?_append_left (by omega), List.getElem?_take_of_lt h]
  · rw [if_neg h, List.getElem?_append_right (by omega), h1, List.getElem?_drop]
    congr 1
    omega
set_option maxHeartbeats 8000000 in
set_option maxRecDepth 100000 in
theorem delI_any {l : List It} {g c : Nat} {w : World} (h : Row4 31 0 l (.slice (some ⟨g, 0, none⟩) l.length c) w) (i : Nat) (hi : i < l.length) (hl : l.length ≤ 3000) :
    Calls Try.prog 53 #[.slice (some ⟨g, 0, none⟩) l.length c, .int .i64 (i : Nat), .int .i64 ((i : Int) + 1)] w fun e w' => e = .returned (.slice (some ⟨g, 0, none⟩) (l.length - 1) c) ∧ Row4 31 0 (l.take i ++ l.drop (i + 1)) (.slice (some ⟨g, 0, none⟩) (l.length - 1) c) w' ∧ w.grownBy w' (some g) := by
  obtain ⟨cur, hg, hsz, hnc, hc63, _, hcell, hsome, hfz⟩ := row_block h
  obtain ⟨n, hn⟩ : ∃ n, n = l.length := ⟨_, rfl⟩
  rw [← hn] at hnc hcell hl ⊢
  have hin : i < n := by omega
  obtain ⟨i0, hi0, hz0, hz1, hz2⟩ := info_parts (show (Try.prog.info? 31).map (fun i => (i.zero, i.size, i.bytes)) = some (some (.agg #[.string ⟨#[]⟩, .int .i64 0, .int .i64 0, .int .i64 0]), 4, 40) from by kernel_rfl)
  have hdl : (flat (l.drop (i + 1))).length = (n - (i + 1)) * 4 := by rw [flat_len, List.length_drop, hn]
  have s1 := hide hdl
  have s2 := hide (flat_one (l.drop (i + 1)))
  have s3 : Hid (∀ t, t < (flat (l.drop (i + 1))).length → (w.drew.cell? ⟨g, 0 + i * 4 + t, none⟩).isSome = true ∧ w.drew.frozen? ⟨g, 0 + i * 4 + t, none⟩ = false) := by
    intro t ht
    rw [hdl] at ht
    rw [Nat.zero_add]
    exact ⟨by show (w.cell? _).isSome = true; exact hsome _ (by omega), hfz _⟩
  obtain ⟨A, hA, hsrc⟩ : ∃ A : Addr, (if c = i + 1 then some (⟨g, 0, none⟩ : Addr) else some ⟨g, (i + 1) * 4, none⟩) = some A ∧ Hid (∀ t u, (flat (l.drop (i + 1)))[t]? = some u → w.drew.cell? (A.add t) = some u) := by
    by_cases e : c = i + 1
    · refine ⟨⟨g, 0, none⟩, by simp [e], fun t u hu => ?_⟩
      have h0 := (List.getElem?_eq_some_iff.1 hu).1
      rw [hdl] at h0
      omega
    · refine ⟨⟨g, (i + 1) * 4, none⟩, by simp [e], fun t u hu => ?_⟩
      have ht := (List.getElem?_eq_some_iff.1 hu).1
      rw [hdl] at ht
      rw [flat_dropOf] at hu
      rw [add_none]
      show w.cell? _ = _
      rw [hcell _ (by omega), hu]
  obtain ⟨W1, hW1⟩ : ∃ W1, W1 = w.drew.setCells g (0 + i * 4) (flat (l.drop (i + 1))) := ⟨_, rfl⟩
  obtain ⟨cur1, hg1, hz9⟩ : ∃ cur1, W1.heap[g]? = some (.cells cur1 31 (0, 0)) ∧ cur1.size = cur.size := by
    rw [hW1]; exact block_setCells g 31 _ _ w.drew cur hg
  have hs9 : ∀ j, j < (flat (l.drop (i + 1))).length → (w.drew.cell? ⟨g, 0 + i * 4 + j, none⟩).isSome = true := fun j hj => (s3.out j hj).1
  have hW1c : ∀ k, W1.cell? ⟨g, k, none⟩ = if 0 + i * 4 ≤ k ∧ k < 0 + i * 4 + (n - (i + 1)) * 4 then (flat (l.drop (i + 1)))[k - (0 + i * 4)]? else w.cell? ⟨g, k, none⟩ := fun k => by
    rw [hW1, setCells_get g _ _ _ hs9 k, hdl]
    rfl
  have hW1s : ∀ k, k < c * 4 → (W1.cell? ⟨g, k, none⟩).isSome = true := fun k hk => by
    rw [hW1c]
    split
    · rw [List.getElem?_eq_getElem (by rw [hdl]; omega)]; rfl
    · exact hsome k hk
  have hW1f : ∀ k, W1.frozen? ⟨g, k, none⟩ = false := fun k => frozen_of_row W1 g k cur1 31 hg1
  have hcl : ∀ ty c9, (Builtin.clear_ #[42] ty #[.slice (some ⟨g, (n - 1) * 4, none⟩) 1 c9]).run Try.prog W1 = .ok (.tuple #[]) (W1.setCells g ((n - 1) * 4) [.string ⟨#[]⟩, .int .i64 0, .int .i64 0, .int .i64 0]) := fun ty c9 =>
    run_clear_wide W1 42 31 ty (.agg #[.string ⟨#[]⟩, .int .i64 0, .int .i64 0, .int .i64 0]) Try.underlying42 Try.zeroValue31 [.string ⟨#[]⟩, .int .i64 0, .int .i64 0, .int .i64 0] g ((n - 1) * 4) 1 c9 (by omega) (by kernel_rfl) (by intro v hv; simp at hv; rcases hv with rfl | rfl <;> rfl) (fun j hj => hW1s _ (by have : j < 4 := hj; omega)) (fun j hj => hW1f _)
  have HFIN := hide (show Row4 31 0 (l.take i ++ l.drop (i + 1)) (.slice (some ⟨g, 0, none⟩) (n - 1) c) (W1.setCells g ((n - 1) * 4) [.string ⟨#[]⟩, .int .i64 0, .int .i64 0, .int .i64 0]) ∧ w.grownBy (W1.setCells g ((n - 1) * 4) [.string ⟨#[]⟩, .int .i64 0, .int .i64 0, .int .i64 0]) (some g) from by
    obtain ⟨cur2, hg2, hz8⟩ := block_setCells g 31 [.string ⟨#[]⟩, .int .i64 0, .int .i64 0, .int .i64 0] ((n - 1) * 4) W1 cur1 hg1
    have hll : (l.take i ++ l.drop (i + 1)).length = n - 1 := by rw [List.length_append, List.length_take, List.length_drop, ← hn]; omega
    refine ⟨?_, gb_trans (gb_trans (gb_drew w _) (by rw [hW1]; exact grown_setCells g _ _ _)) (grown_setCells g _ _ _)⟩
    show World.ownsRow _ 0 31 4 _ _ _
    rw [hll]
    refine row_of_cells hg2 (by rw [hz8, hz9, hsz]) (by omega) (by unfold maxLen; omega) (Nat.zero_le _) (by rw [flat_len, hll]) (fun j hj => ?_)
    rw [World.cell?_setCells_out g _ _ _ ⟨g, j, none⟩ (fun _ _ => .inl hj), hW1c, flat_del l i hi j]
    by_cases h1 : j < i * 4
    · rw [if_neg (by omega), if_pos h1, hcell j (by omega)]
    · rw [if_neg h1, if_pos (by omega), flat_dropOf]
      congr 1
      omega)
  have hW : Hid (W1 = w.drew.setCells g (0 + i * 4) (flat (l.drop (i + 1)))) := hW1
  have hic : i ≤ c := by omega
  have mixed : Try.prog.follows Departure.mixedOrders = true := by kernel_rfl
  have hw1 : IntKind.i64.wrap ((i : Int) + 1) = (i : Int) + 1 := by rw [IntKind.wrap_i64]; omega
  have hb1 : (0 : Int) ≤ (i : Int) + 1 := by omega
  have hb2 : (i : Int) + 1 ≤ (n : Int) := by omega
  have hb3 : (i : Int) ≤ (i : Int) + 1 := by omega
  have hb4 : ((i : Int) == (i : Int) + 1) = false := by rw [beq_eq_false_iff_ne]; omega
  have hb5 : (i : Int) + 1 ≤ (c : Int) := by omega
  have hb6 : (n : Int) ≤ (c : Int) := by omega
  have hb7 : (i : Int) ≤ (c : Int) := by omega
  have htn : ((i : Int) + 1).toNat = i + 1 := by omega
  have hnn : i + (n - (i + 1)) = n - 1 := by omega
  have hn1 : n - (n - 1) = 1 := by omega
  have hn2 : ¬ c = n - 1 := by omega
  have hn3 : ((n - 1 : Nat) : Int) ≤ (n : Int) := by omega
  clear h hg hsz hcell hsome hfz hi hn hdl hs9 hW1 hW1c hW1s hW1f hg1 hz9 hz0 hz2
  go_enter Try.func53, Try.ntmps53
  go_wp2_with fail
  go_region_law_o (refine step_append_room rfl (.tmp 22) (.tmp 25) 42 rfl 31 i0 4 Try.underlying42 hi0 hz1 g 0 i c (by simp [Act.eval, Act.put]) A (n - (i + 1)) (c - (i + 1)) (flat (l.drop (i + 1))) (by simp [Act.eval, Act.put]) s1.out hsrc.out s2.out (by omega) s3.out ?_; rw [← hW.out])
  go_wp2
  go_ret
  exact ⟨rfl, HFIN.out⟩
theorem f2_del (l : List Bkm) (i : Nat) (hi : i < l.length) (j : Nat) : (f2 (l.take i ++ l.drop (i + 1)))[j]? = if j < i * 2 then (f2 l)[j]? else (f2 l)[j + 2]? := by
  rw [f2_app, f2_take, f2_drop]
  have h1 : ((f2 l).take (i * 2)).length = i * 2 := by rw [List.length_take, f2_len]; omega
  by_cases h : j < i * 2
  · rw [if_pos h, List.getElem?_append_left (by omega), List.getElem?_take_of_lt h]
  · rw [if_neg h, List.getElem?_append_right (by omega), h1, List.getElem?_drop]
    congr 1
    omega
set_option maxHeartbeats 8000000 in
set_option maxRecDepth 100000 in
theorem delB_any {l : List Bkm} {g c : Nat} {w : World} (h : Row2 0 l (.slice (some ⟨g, 0, none⟩) l.length c) w) (i : Nat) (hi : i < l.length) (hl : l.length ≤ 3000) :
    Calls Try.prog 54 #[.slice (some ⟨g, 0, none⟩) l.length c, .int .i64 (i : Nat), .int .i64 ((i : Int) + 1)] w fun e w' => e = .returned (.slice (some ⟨g, 0, none⟩) (l.length - 1) c) ∧ Row2 0 (l.take i ++ l.drop (i + 1)) (.slice (some ⟨g, 0, none⟩) (l.length - 1) c) w' ∧ w.grownBy w' (some g) := by
  obtain ⟨cur, hg, hsz, hnc, hc63, _, hcell, hsome, hfz⟩ := row_block h
  obtain ⟨n, hn⟩ : ∃ n, n = l.length := ⟨_, rfl⟩
  rw [← hn] at hnc hcell hl ⊢
  have hin : i < n := by omega
  obtain ⟨i0, hi0, hz0, hz1, hz2⟩ := info_parts (show (Try.prog.info? 91).map (fun i => (i.zero, i.size, i.bytes)) = some (some (.agg #[.slice none 0 0, .int .i64 0]), 2, 32) from by kernel_rfl)
  have hdl : (f2 (l.drop (i + 1))).length = (n - (i + 1)) * 2 := by rw [f2_len, List.length_drop, hn]
  have s1 := hide hdl
  have s2 := hide (f2_one (l.drop (i + 1)))
  have s3 : Hid (∀ t, t < (f2 (l.drop (i + 1))).length → (w.drew.cell? ⟨g, 0 + i * 2 + t, none⟩).isSome = true ∧ w.drew.frozen? ⟨g, 0 + i * 2 + t, none⟩ = false) := by
    intro t ht
    rw [hdl] at ht
    rw [Nat.zero_add]
    exact ⟨by show (w.cell? _).isSome = true; exact hsome _ (by omega), hfz _⟩
  obtain ⟨A, hA, hsrc⟩ : ∃ A : Addr, (if c = i + 1 then some (⟨g, 0, none⟩ : Addr) else some ⟨g, (i + 1) * 2, none⟩) = some A ∧ Hid (∀ t u, (f2 (l.drop (i + 1)))[t]? = some u → w.drew.cell? (A.add t) = some u) := by
    by_cases e : c = i + 1
    · refine ⟨⟨g, 0, none⟩, by simp [e], fun t u hu => ?_⟩
      have h0 := (List.getElem?_eq_some_iff.1 hu).1
      rw [hdl] at h0
      omega
    · refine ⟨⟨g, (i + 1) * 2, none⟩, by simp [e], fun t u hu => ?_⟩
      have ht := (List.getElem?_eq_some_iff.1 hu).1
      rw [hdl] at ht
      rw [f2_dropAt] at hu
      rw [add_none]
      show w.cell? _ = _
      rw [hcell _ (by omega), hu]
  obtain ⟨W1, hW1⟩ : ∃ W1, W1 = w.drew.setCells g (0 + i * 2) (f2 (l.drop (i + 1))) := ⟨_, rfl⟩
  obtain ⟨cur1, hg1, hz9⟩ : ∃ cur1, W1.heap[g]? = some (.cells cur1 91 (0, 0)) ∧ cur1.size = cur.size := by
    rw [hW1]; exact block_setCells g 91 _ _ w.drew cur hg
  have hs9 : ∀ j, j < (f2 (l.drop (i + 1))).length → (w.drew.cell? ⟨g, 0 + i * 2 + j, none⟩).isSome = true := fun j hj => (s3.out j hj).1
  have hW1c : ∀ k, W1.cell? ⟨g, k, none⟩ = if 0 + i * 2 ≤ k ∧ k < 0 + i * 2 + (n - (i + 1)) * 2 then (f2 (l.drop (i + 1)))[k - (0 + i * 2)]? else w.cell? ⟨g, k, none⟩ := fun k => by
    rw [hW1, setCells_get g _ _ _ hs9 k, hdl]
    rfl
  have hW1s : ∀ k, k < c * 2 → (W1.cell? ⟨g, k, none⟩).isSome = true := fun k hk => by
    rw [hW1c]
    split
    · rw [List.getElem?_eq_getElem (by rw [hdl]; omega)]; rfl
    · exact hsome k hk
  have hW1f : ∀ k, W1.frozen? ⟨g, k, none⟩ = false := fun k => frozen_of_row W1 g k cur1 91 hg1
  have hcl : ∀ ty c9, (Builtin.clear_ #[65] ty #[.slice (some ⟨g, (n - 1) * 2, none⟩) 1 c9]).run Try.prog W1 = .ok (.tuple #[]) (W1.setCells g ((n - 1) * 2) [.slice none 0 0, .int .i64 0]) := fun ty c9 =>
    run_clear_wide W1 65 91 ty (.agg #[.slice none 0 0, .int .i64 0]) Try.underlying65 Try.zeroValue91 [.slice none 0 0, .int .i64 0] g ((n - 1) * 2) 1 c9 (by omega) (by kernel_rfl) (by intro v hv; simp at hv; rcases hv with rfl | rfl <;> rfl) (fun j hj => hW1s _ (by have : j < 2 := hj; omega)) (fun j hj => hW1f _)
  have HFIN := hide (show Row2 0 (l.take i ++ l.drop (i + 1)) (.slice (some ⟨g, 0, none⟩) (n - 1) c) (W1.setCells g ((n - 1) * 2) [.slice none 0 0, .int .i64 0]) ∧ w.grownBy (W1.setCells g ((n - 1) * 2) [.slice none 0 0, .int .i64 0]) (some g) from by
    obtain ⟨cur2, hg2, hz8⟩ := block_setCells g 91 [.slice none 0 0, .int .i64 0] ((n - 1) * 2) W1 cur1 hg1
    have hll : (l.take i ++ l.drop (i + 1)).length = n - 1 := by rw [List.length_append, List.length_take, List.length_drop, ← hn]; omega
    refine ⟨?_, gb_trans (gb_trans (gb_drew w _) (by rw [hW1]; exact grown_setCells g _ _ _)) (grown_setCells g _ _ _)⟩
    show World.ownsRow _ 0 91 2 _ _ _
    rw [hll]
    refine row_of_cells hg2 (by rw [hz8, hz9, hsz]) (by omega) (by unfold maxLen; omega) (Nat.zero_le _) (by rw [f2_len, hll]) (fun j hj => ?_)
    rw [World.cell?_setCells_out g _ _ _ ⟨g, j, none⟩ (fun _ _ => .inl hj), hW1c, f2_del l i hi j]
    by_cases h1 : j < i * 2
    · rw [if_neg (by omega), if_pos h1, hcell j (by omega)]
    · rw [if_neg h1, if_pos (by omega), f2_dropAt]
      congr 1
      omega)
  have hW : Hid (W1 = w.drew.setCells g (0 + i * 2) (f2 (l.drop (i + 1)))) := hW1
  have hic : i ≤ c := by omega
  have mixed : Try.prog.follows Departure.mixedOrders = true := by kernel_rfl
  have hw1 : IntKind.i64.wrap ((i : Int) + 1) = (i : Int) + 1 := by rw [IntKind.wrap_i64]; omega
  have hb1 : (0 : Int) ≤ (i : Int) + 1 := by omega
  have hb2 : (i : Int) + 1 ≤ (n : Int) := by omega
  have hb3 : (i : Int) ≤ (i : Int) + 1 := by omega
  have hb4 : ((i : Int) == (i : Int) + 1) = false := by rw [beq_eq_false_iff_ne]; omega
  have hb5 : (i : Int) + 1 ≤ (c : Int) := by omega
  have hb6 : (n : Int) ≤ (c : Int) := by omega
  have hb7 : (i : Int) ≤ (c : Int) := by omega
  have htn : ((i : Int) + 1).toNat = i + 1 := by omega
  have hnn : i + (n - (i + 1)) = n - 1 := by omega
  have hn1 : n - (n - 1) = 1 := by omega
  have hn2 : ¬ c = n - 1 := by omega
  have hn3 : ((n - 1 : Nat) : Int) ≤ (n : Int) := by omega
  clear h hg hsz hcell hsome hfz hi hn hdl hs9 hW1 hW1c hW1s hW1f hg1 hz9 hz0 hz2
  go_enter Try.func54, Try.ntmps54
  go_wp2_with fail
  go_region_law_o (refine step_append_room rfl (.tmp 22) (.tmp 25) 65 rfl 91 i0 2 Try.underlying65 hi0 hz1 g 0 i c (by simp [Act.eval, Act.put]) A (n - (i + 1)) (c - (i + 1)) (f2 (l.drop (i + 1))) (by simp [Act.eval, Act.put]) s1.out hsrc.out s2.out (by omega) s3.out ?_; rw [← hW.out])
  go_wp2
  go_ret
  exact ⟨rfl, HFIN.out⟩
end Idx
end Go.Proofs.Ytapdhelioecneaa
