/- A disk in memory; given, burnt, burn, place, New, Len, Count, Fuse. Conditions: as each says. -/
import Derived.Test.YtpamffheapnoaaaDa
namespace Go.Proofs.Ytpamffheapnoaaa
open Go.RowKit
namespace Dsk
/-- A write that is in the cache. -/
structure Wt where
  pos : Nat
  laid : List UInt8
  had : List UInt8
def Wt.ok (x : Wt) : Prop := x.laid.length = 128 ∧ x.had.length = 128
def Wt.cells (x : Wt) : List Value := .int .i64 (x.pos : Int) :: (vals x.laid ++ vals x.had)
def flatW (l : List Wt) : List Value := l.flatMap Wt.cells
theorem Wt.cells_len {x : Wt} (h : x.ok) : x.cells.length = 257 := by
  simp only [Wt.cells, List.length_cons, List.length_append, vals_len, h.1, h.2]
theorem Wt.cells_one (x : Wt) : ∀ v ∈ x.cells, v.oneCell' = true := by
  intro v hv
  rcases List.mem_cons.1 hv with rfl | hv
  · rfl
  · rcases List.mem_append.1 hv with hv | hv
    · exact vals_one _ v hv
    · exact vals_one _ v hv
theorem flatW_snoc (l : List Wt) (x : Wt) : flatW (l ++ [x]) = flatW l ++ x.cells := by simp [flatW]
theorem flatW_one (l : List Wt) : ∀ v ∈ flatW l, v.oneCell' = true := by
  intro v hv
  obtain ⟨x, _, hx⟩ := List.mem_flatMap.1 hv
  exact x.cells_one v hx
/-- A plain disk. -/
structure PD where
  n : Nat
  f : Int → List UInt8
  cs : List Wt
  wr : Nat
  fl : Nat
  fu : Bool
  lf : Nat
def PD.ok (d : PD) : Prop := d.n ≤ 4096 ∧ (∀ x ∈ d.cs, x.ok) ∧ d.cs.length ≤ 1000000 ∧ d.wr ≤ 1000000 ∧ d.fl ≤ 1000000 ∧ d.lf ≤ 9223372036854775807
def dcells (D : Nat) (d : PD) (M : Nat) (sl : Value) : Array Value :=
  #[.pointer (some ⟨D, 0, none⟩), .int .i64 (d.n : Int), .map (some M), sl, .int .i64 (d.wr : Int), .int .i64 (d.fl : Int), .bool d.fu, .int .i64 (d.lf : Int)]
/-- Block D is the disk d, in the blocks of T. -/
structure DiskAt (D : Nat) (d : PD) (M : Nat) (ao : Option Addr) (cap : Nat) (T : Nat → Prop) (w : World) : Prop where
  row : w.heap[D]? = some (.cells (dcells D d M (.slice ao d.cs.length cap)) 61 (0, 0))
  map : MapAt M d.f w
  own : w.ownsRow 0 78 257 (.slice ao d.cs.length cap) d.cs.length (flatW d.cs)
  tD : T D
  tM : T M
  tC : ∀ p, ao = some p → T p.block
  lt : ∀ k, T k → k < w.heap.size
  ok : d.ok
def DiskIs (D : Nat) (d : PD) (T : Nat → Prop) (w : World) : Prop := ∃ M ao cap, DiskAt D d M ao cap T w
section
variable {D : Nat} {d : PD} {M : Nat} {ao : Option Addr} {cap : Nat} {T : Nat → Prop} {w w' : World}
theorem DiskAt.cellAt (h : DiskAt D d M ao cap T w) (j : Nat) : w.cell? ⟨D, j, none⟩ = (dcells D d M (.slice ao d.cs.length cap))[j]? := cell_of_row w D j _ _ _ h.row
theorem DiskAt.c0 (h : DiskAt D d M ao cap T w) : w.cell? ⟨D, 0, none⟩ = some (.pointer (some ⟨D, 0, none⟩)) := h.cellAt 0
theorem DiskAt.c1 (h : DiskAt D d M ao cap T w) : w.cell? ⟨D, 1, none⟩ = some (.int .i64 (d.n : Int)) := h.cellAt 1
theorem DiskAt.c2 (h : DiskAt D d M ao cap T w) : w.cell? ⟨D, 2, none⟩ = some (.map (some M)) := h.cellAt 2
theorem DiskAt.c3 (h : DiskAt D d M ao cap T w) : w.cell? ⟨D, 3, none⟩ = some (.slice ao d.cs.length cap) := h.cellAt 3
theorem DiskAt.c4 (h : DiskAt D d M ao cap T w) : w.cell? ⟨D, 4, none⟩ = some (.int .i64 (d.wr : Int)) := h.cellAt 4
theorem DiskAt.c5 (h : DiskAt D d M ao cap T w) : w.cell? ⟨D, 5, none⟩ = some (.int .i64 (d.fl : Int)) := h.cellAt 5
theorem DiskAt.c6 (h : DiskAt D d M ao cap T w) : w.cell? ⟨D, 6, none⟩ = some (.bool d.fu) := h.cellAt 6
theorem DiskAt.c7 (h : DiskAt D d M ao cap T w) : w.cell? ⟨D, 7, none⟩ = some (.int .i64 (d.lf : Int)) := h.cellAt 7
theorem DiskAt.z (h : DiskAt D d M ao cap T w) (j : Nat) : w.frozen? ⟨D, j, none⟩ = false := frozen_of_row w D j _ _ h.row
theorem ownsRow_of {B : Nat} {e : TypeId} {sz : Nat} {v : Value} {n : Nat} {xs : List Value} (h : w.ownsRow B e sz v n xs) (hk : ∀ g, v.ownBlock = some g → w'.heap[g]? = w.heap[g]?) : w'.ownsRow B e sz v n xs := by
  refine ⟨h.1, ?_⟩
  rcases h.2 with h2 | ⟨g, c, cur, hv, hg, hh, rest⟩
  · exact .inl h2
  · exact .inr ⟨g, c, cur, hv, hg, (hk g (by rw [hv]; rfl)).trans hh, rest⟩
theorem owns_later {B : Nat} {e : TypeId} {sz : Nat} {v : Value} {n : Nat} {xs : List Value} (h : w.ownsRow B e sz v n xs) (hb : Below w.heap.size w w') : w'.ownsRow B e sz v n xs :=
  ownsRow_of h (fun g hg => hb.block g (h.lt g hg).2)
theorem DiskAt.later (h : DiskAt D d M ao cap T w) (hb : Below w.heap.size w w') : DiskAt D d M ao cap T w' :=
  ⟨below_keeps hb h.row, h.map.later hb, owns_later h.own hb, h.tD, h.tM, h.tC, fun k hk => Nat.lt_of_lt_of_le (h.lt k hk) hb.size, h.ok⟩
theorem DiskAt.keep {T' : Nat → Prop} (h : DiskAt D d M ao cap T w) (hb : Only T' w w') (hd : ∀ k, T k → ¬ T' k) : DiskAt D d M ao cap T w' :=
  ⟨hb.keeps (hd _ h.tD) h.row, h.map.keep (hb.block M h.map.lt (hd _ h.tM)), ownsRow_of h.own (fun g hg => hb.block g (h.own.lt g hg).2 (hd _ (by
    cases ao with
    | none => cases hg
    | some p => have := h.tC p rfl; cases hg; exact this))), h.tD, h.tM, h.tC, fun k hk => Nat.lt_of_lt_of_le (h.lt k hk) hb.size, h.ok⟩
theorem DiskIs.later (h : DiskIs D d T w) (hb : Below w.heap.size w w') : DiskIs D d T w' := by
  obtain ⟨M, ao, cap, h⟩ := h
  exact ⟨M, ao, cap, h.later hb⟩
theorem DiskIs.keep {T' : Nat → Prop} (h : DiskIs D d T w) (hb : Only T' w w') (hd : ∀ k, T k → ¬ T' k) : DiskIs D d T w' := by
  obtain ⟨M, ao, cap, h⟩ := h
  exact ⟨M, ao, cap, h.keep hb hd⟩
theorem DiskIs.wider {T' : Nat → Prop} (h : DiskIs D d T w) (hT : ∀ k, T k → T' k) (hl : ∀ k, T' k → k < w.heap.size) : DiskIs D d T' w := by
  obtain ⟨M, ao, cap, h⟩ := h
  exact ⟨M, ao, cap, h.row, h.map, h.own, hT _ h.tD, hT _ h.tM, fun p hp => hT _ (h.tC p hp), hl, h.ok⟩
theorem DiskIs.ok (h : DiskIs D d T w) : d.ok := by
  obtain ⟨M, ao, cap, h⟩ := h
  exact h.ok
theorem DiskIs.lt (h : DiskIs D d T w) : ∀ k, T k → k < w.heap.size := by
  obtain ⟨M, ao, cap, h⟩ := h
  exact h.lt
theorem DiskIs.tD (h : DiskIs D d T w) : T D := by
  obtain ⟨M, ao, cap, h⟩ := h
  exact h.tD
/-- A store into the disk's own block: the new row. -/
theorem row_set {cs : Array Value} {t : TypeId} (hg : w.heap[D]? = some (.cells cs t (0, 0))) (i : Nat) (v : Value) : (w.setCell ⟨D, i, none⟩ v).heap[D]? = some (.cells (cs.setIfInBounds i v) t (0, 0)) := heap_setCell_same w D i cs t v hg
theorem own_set {B : Nat} {v : Value} {n : Nat} {xs : List Value} {cs : Array Value} (hD : w.heap[D]? = some (.cells cs 61 (0, 0))) (h : w.ownsRow B 78 257 v n xs) (i : Nat) (u : Value) : (w.setCell ⟨D, i, none⟩ u).ownsRow B 78 257 v n xs := by
  refine ⟨h.1, ?_⟩
  rcases h.2 with h2 | ⟨g, c, cur, hv, hg, hh, rest⟩
  · exact .inl h2
  · have hne : g ≠ D := fun e => by rw [e, hD] at hh; simp at hh
    exact .inr ⟨g, c, cur, hv, hg, (heap_setCell_other w _ g u hne).trans hh, rest⟩
theorem map_set {f : Int → List UInt8} {cs : Array Value} (hD : w.heap[D]? = some (.cells cs 61 (0, 0))) (h : MapAt M f w) (i : Nat) (u : Value) : MapAt M f (w.setCell ⟨D, i, none⟩ u) := by
  refine h.keep (heap_setCell_other w _ M u ?_)
  obtain ⟨_, es, c, hh, _⟩ := h
  intro e
  rw [e, hD] at hh
  simp at hh
/-- One field of the disk's block is written. -/
theorem DiskAt.put (h : DiskAt D d M ao cap T w) (i : Nat) (v : Value) (d' : PD) (hd : (dcells D d M (.slice ao d.cs.length cap)).setIfInBounds i v = dcells D d' M (.slice ao d'.cs.length cap)) (hf : d'.f = d.f) (hc : d'.cs = d.cs) (hok : d'.ok) :
    DiskAt D d' M ao cap T (w.setCell ⟨D, i, none⟩ v) := by
  refine ⟨by rw [row_set h.row, hd], hf ▸ map_set h.row h.map i v, ?_, h.tD, h.tM, h.tC, fun k hk => by simpa using h.lt k hk, hok⟩
  rw [hc]
  exact own_set h.row h.own i v
end
/-- What is no disk that was given. -/
def NotGiven (p : Option Addr) (w : World) : Prop := p = none ∨ ∃ Z, p = some ⟨Z, 0, none⟩ ∧ w.cell? ⟨Z, 0, none⟩ = some (.pointer none)
theorem NotGiven.later {p : Option Addr} {w w' : World} (h : NotGiven p w) (hb : Below w.heap.size w w') : NotGiven p w' := by
  rcases h with h | ⟨Z, h1, h2⟩
  · exact .inl h
  · exact .inr ⟨Z, h1, cell_later hb h2⟩
theorem eqpIn_nil (w : World) (d : Nat) (a : Addr) : (Op.equalIn (d + 1) 29 (.pointer none) (.pointer (some a))).run Try.prog w = .ok false w := by
  simp [Op.equalIn, run_underlying Try.underlying29]
theorem eqp_nil (w : World) (a : Addr) : (binOp .eql 29 (.pointer none) (.pointer (some a))).run Try.prog w = .ok (.bool false) w := by
  simp only [binOp, Sem.run_bind]
  rw [show Op.equal 29 (.pointer none) (.pointer (some a)) = Op.equalIn (9999 + 1) 29 (.pointer none) (.pointer (some a)) from rfl, eqpIn_nil]
  rfl
theorem eqpIn_same (w : World) (d : Nat) (a : Addr) : (Op.equalIn (d + 1) 29 (.pointer (some a)) (.pointer (some a))).run Try.prog w = .ok true w := by
  have hs : (sizeOf 61).run Try.prog w = .ok 8 w := by simp [go_sem]
  simp [Op.equalIn, run_underlying Try.underlying29, hs, run_sameAddr_same]
theorem eqp_same (w : World) (a : Addr) : (binOp .eql 29 (.pointer (some a)) (.pointer (some a))).run Try.prog w = .ok (.bool true) w := by
  simp only [binOp, Sem.run_bind]
  rw [show Op.equal 29 (.pointer (some a)) (.pointer (some a)) = Op.equalIn (9999 + 1) 29 (.pointer (some a)) (.pointer (some a)) from rfl, eqpIn_same]
  rfl
set_option maxHeartbeats 1000000 in
theorem given_no (p : Option Addr) (w : World) (h : NotGiven p w) : Calls Try.prog 35 #[.pointer p] w fun e w' => e = .returned (.bool false) ∧ w = w' := by
  rcases h with rfl | ⟨Z, rfl, hz⟩
  · go_enter Try.func35, Try.ntmps35
    go_wp2_with fail
    go_ret
    exact ⟨rfl, rfl⟩
  · have he := fun w => eqp_nil w ⟨Z, 0, none⟩
    go_enter Try.func35, Try.ntmps35
    go_wp2_with fail
    go_ret
    exact ⟨rfl, rfl⟩
set_option maxHeartbeats 1000000 in
theorem given_yes (D : Nat) (w : World) (h : w.cell? ⟨D, 0, none⟩ = some (.pointer (some ⟨D, 0, none⟩))) : Calls Try.prog 35 #[.pointer (some ⟨D, 0, none⟩)] w fun e w' => e = .returned (.bool true) ∧ w = w' := by
  have he := fun w => eqp_same w ⟨D, 0, none⟩
  go_enter Try.func35, Try.ntmps35
  go_wp2_with fail
  go_ret
  exact ⟨rfl, rfl⟩
set_option maxHeartbeats 1000000 in
theorem burnt_any (D : Nat) (fu : Bool) (lf : Nat) (w : World) (h6 : w.cell? ⟨D, 6, none⟩ = some (.bool fu)) (h7 : w.cell? ⟨D, 7, none⟩ = some (.int .i64 (lf : Int))) :
    Calls Try.prog 68 #[.pointer (some ⟨D, 0, none⟩)] w fun e w' => e = .returned (.bool (fu && lf == 0)) ∧ w = w' := by
  cases fu
  · go_enter Try.func68, Try.ntmps68
    go_wp2_with fail
    go_ret
    exact ⟨rfl, rfl⟩
  · go_enter Try.func68, Try.ntmps68
    go_wp2_with fail
    go_ret
    refine ⟨?_, rfl⟩
    rw [show ((lf : Int) == 0) = (lf == 0) from by rw [Bool.eq_iff_iff]; simp]; rfl
end Dsk
end Go.Proofs.Ytpamffheapnoaaa
