/- Write. Conditions: as each says. -/
import Derived.Test.YtmccnlffikegfaaGreatDoorZDato
namespace Go.Proofs.YtmccnlffikegfaaGreatDoor
open Go.RowKit
namespace Dsk
set_option maxHeartbeats 1000000 in
theorem write_none (p : Option Addr) (k : Int) (s : ByteArray) (w : World) (h : NotGiven p w) : Calls Tryz.prog 98 #[.pointer p, .int .i64 k, .string s] w fun e w' => e = .returned (.int .i64 13) ∧ Below w.heap.size w w' := by
  have G := hidm (place_none p k w h)
  go_enter Tryz.func98, Tryz.ntmps98
  go_wp2_with fail
  refine G.out.mono ?_
  rintro e w1 ⟨rfl, rfl⟩
  go_wp2_with fail
  go_ret
  exact ⟨rfl, Below.refl _ _⟩
set_option maxHeartbeats 1000000 in
theorem write_off {D : Nat} {d : PD} {T : Nat → Prop} (k : Int) (s : ByteArray) (w : World) (h : DiskIs D d T w) (hk : off d.n k) :
    Calls Tryz.prog 98 #[.pointer (some ⟨D, 0, none⟩), .int .i64 k, .string s] w fun e w' => e = .returned (.int .i64 2) ∧ Below w.heap.size w w' := by
  have G := hidm (place_off k w h hk)
  go_enter Tryz.func98, Tryz.ntmps98
  go_wp2_with fail
  refine G.out.mono ?_
  rintro e w1 ⟨rfl, rfl⟩
  go_wp2_with fail
  go_ret
  exact ⟨rfl, Below.refl _ _⟩
set_option maxHeartbeats 1000000 in
theorem write_big {D : Nat} {d : PD} {T : Nat → Prop} (k : Nat) (s : ByteArray) (hs : 128 < s.size) (w : World) (h : DiskIs D d T w) (hk : k < d.n) :
    Calls Tryz.prog 98 #[.pointer (some ⟨D, 0, none⟩), .int .i64 (k : Int), .string s] w fun e w' => e = .returned (.int .i64 19) ∧ Below w.heap.size w w' := by
  have G := hidm (place_on k w h hk)
  have f1 : (128 : Int) < (s.size : Int) := by omega
  go_enter Tryz.func98, Tryz.ntmps98
  go_wp2_with fail
  refine G.out.mono ?_
  rintro e w1 ⟨rfl, rfl⟩
  go_wp2_with fail
  go_ret
  exact ⟨rfl, Below.refl _ _⟩
def PD.burnt (d : PD) : Bool := d.fu && d.lf == 0
set_option maxHeartbeats 1000000 in
theorem write_burnt {D : Nat} {d : PD} {T : Nat → Prop} (k : Nat) (s : ByteArray) (hs : s.size ≤ 128) (w : World) (h : DiskIs D d T w) (hk : k < d.n) (hb : d.burnt = true) :
    Calls Tryz.prog 98 #[.pointer (some ⟨D, 0, none⟩), .int .i64 (k : Int), .string s] w fun e w' => e = .returned (.int .i64 6) ∧ Below w.heap.size w w' := by
  have G := hidm (place_on k w h hk)
  obtain ⟨M, ao, cap, hA⟩ := h
  have B := hidm (burnt_any D d.fu d.lf w hA.c6 hA.c7)
  have f1 : ¬ (128 : Int) < (s.size : Int) := by omega
  go_enter Tryz.func98, Tryz.ntmps98
  go_wp2_with fail
  refine G.out.mono ?_
  rintro e w1 ⟨rfl, rfl⟩
  go_wp2_with fail
  refine B.out.mono ?_
  rintro e w1 ⟨rfl, rfl⟩
  rw [show (d.fu && d.lf == 0) = true from hb]
  go_wp2_with fail
  go_ret
  exact ⟨rfl, Below.refl _ _⟩
/-- What a write makes of a disk. -/
def PD.write (d : PD) (k : Nat) (s : List UInt8) : PD := { d with f := upd d.f k (pad s), cs := d.cs ++ [⟨k, pad s, d.f k⟩], wr := d.wr + 1 }
theorem cells_pad (k : Nat) (s : ByteArray) (had : List UInt8) (hs : s.size ≤ 128) :
    ((.int .i64 (k : Int) :: (vals zeros ++ vals had) : List Value).take 1 ++ Lib.byteCells s.data.toList ++ (.int .i64 (k : Int) :: (vals zeros ++ vals had) : List Value).drop (1 + s.size)).toArray = (⟨k, pad s.data.toList, had⟩ : Wt).val := by
  have e1 : Lib.byteCells s.data.toList = vals s.data.toList := rfl
  have e2 : (.int .i64 (k : Int) :: (vals zeros ++ vals had) : List Value).drop (1 + s.size) = vals (List.replicate (128 - s.size) 0) ++ vals had := by
    rw [Nat.add_comm, List.drop_succ_cons, List.drop_append_of_le_length (by rw [vals_len, zeros_len]; exact hs)]
    congr 1
    unfold vals zeros
    rw [List.map_replicate, List.map_replicate, List.drop_replicate]
  have hl : s.data.toList.length = s.size := len_eq s
  rw [e1, e2]
  simp [Wt.val, Wt.cells, pad, vals, hl]
theorem range_laid (w : World) (x : Wt) : (w.alloc (.cells x.val 102)).rangeAt w.heap.size 1 (sec x.laid).toList := fun j v hv => by
  have hj : j < x.laid.length := by
    have := (List.getElem?_eq_some_iff.1 hv).1
    simpa [sec_size] using this
  rw [cell_of_row _ _ _ _ _ (0, 0) (heap_alloc_last w _)]
  rw [← hv]
  simp only [Wt.val, Wt.cells, sec, List.getElem?_toArray]
  rw [Nat.add_comm 1 j, List.getElem?_cons_succ, List.getElem?_append_left (by rw [vals_len]; exact hj)]
theorem row_cell {w : World} {D : Nat} {cs : Array Value} {t : TypeId} (h : w.heap[D]? = some (.cells cs t (0, 0))) (j : Nat) : w.cell? ⟨D, j, none⟩ = cs[j]? := cell_of_row w D j cs t _ h
set_option maxHeartbeats 8000000 in
set_option maxRecDepth 100000 in
theorem write_on {D : Nat} {d : PD} {T : Nat → Prop} (k : Nat) (s : ByteArray) (hs : s.size ≤ 128) (w : World) (h : DiskIs D d T w) (hk : k < d.n) (hb : d.burnt = false) (hc : d.cs.length < 1000000) (hw : d.wr < 1000000) :
    Calls Tryz.prog 98 #[.pointer (some ⟨D, 0, none⟩), .int .i64 (k : Int), .string s] w fun e w' => e = .returned (.int .i64 0) ∧ DiskIs D (d.write k s.data.toList).burn (Grow T w w') w' ∧ Only T w w' := by
  obtain ⟨i0, hi0, hz0, hz1, hz2⟩ := info_parts infoW
  have G := hidm (place_on k w h hk)
  obtain ⟨M, ao, cap, hA⟩ := h
  have HA := hidm hA
  have B := hidm (burnt_any D d.fu d.lf w hA.c6 hA.c7)
  have f1 : ¬ (128 : Int) < (s.size : Int) := by omega
  have h2 := hA.c2
  have hl := hA.map.look (k : Int)
  have hh := hA.map.1 (k : Int)
  obtain ⟨had, hhad⟩ : ∃ had, had = d.f (k : Int) := ⟨_, rfl⟩
  rw [← hhad] at hl hh
  have HHAD := hidm hhad
  clear hhad
  have hpl : (pad s.data.toList).length = 128 := pad_len (by rw [len_eq]; exact hs)
  obtain ⟨x, hx⟩ : ∃ x : Wt, x = ⟨k, pad s.data.toList, had⟩ := ⟨_, rfl⟩
  have hxo : x.ok := by rw [hx]; exact ⟨hpl, hh⟩
  have hxl : x.laid = pad s.data.toList := by rw [hx]
  obtain ⟨XV, hXV⟩ : ∃ XV, XV = x.val := ⟨_, rfl⟩
  have hXs : XV.size = 257 := by rw [hXV]; exact Wt.val_size hxo
  have HXI := hidm (show (Tryz.prog.info? 102).map (·.size) = some XV.size from by rw [hXs]; exact sizeW)
  have HX1 := hidm (show ∀ u ∈ XV.toList, u.oneCell' = true from by rw [hXV]; exact x.cells_one)
  obtain ⟨X0, hX0⟩ : ∃ X0 : Array Value, X0 = (.int .i64 (k : Int) :: (vals zeros ++ vals had) : List Value).toArray := ⟨_, rfl⟩
  have hX0s : X0.size = 257 := by rw [hX0]; simp [vals_len, zeros_len, hh]
  have HBW := hidm (show Tryz.prog.built 102 [(0, .int .i64 (k : Int)), (2, .agg (sec had))] = some X0 from by rw [hX0]; exact build_write k had hh)
  have HX0I := hidm (show (Tryz.prog.info? 102).map (·.size) = some X0.size from by rw [hX0s]; exact sizeW)
  have HX01 := hidm (show X0.all (·.oneCell') = true from by
    rw [hX0]
    refine all_oneCell_toArray fun v hv => ?_
    rcases List.mem_cons.1 hv with rfl | hv
    · rfl
    · rcases List.mem_append.1 hv with hv | hv
      · exact vals_one _ v hv
      · exact vals_one _ v hv)
  have hcopy := Lib.run_copy_row_string (P := Tryz.prog) (w.alloc (.cells X0 102)) 62 9 3 5 w.heap.size 1 128 128 s X0 102 Tryz.underlying62 (by kernel_rfl) (heap_alloc_last w _) hs (by rw [hX0s]; omega)
  rw [World.setRow_alloc_new, hX0, cells_pad k s had hs, ← hX0, ← hx, ← hXV] at hcopy
  obtain ⟨C, hC⟩ : ∃ C, C = sec had := ⟨_, rfl⟩
  rw [← hC] at hl HBW
  obtain ⟨L8, hL8⟩ : ∃ L8, L8 = sec x.laid := ⟨_, rfl⟩
  have HRL := hidm (show (w.alloc (.cells XV 102)).rangeAt w.heap.size 1 L8.toList from by rw [hXV, hL8]; exact range_laid w x)
  have HL8 := hidm (show (Tryz.prog.info? 100).map (·.size) = some L8.toList.length from by rw [hL8, Array.length_toList, sec_size, hxo.1]; exact infoSec)
  obtain ⟨ZW, hZW⟩ : ∃ ZW, ZW = zeroW := ⟨_, rfl⟩
  have hz := zeroWV
  rw [← hZW] at hz
  have HZC := hidm (show ZW.size = X0.size from by rw [hZW, hX0s]; simp [zeroW, vals_len, zeros_len])
  have hBx : Below w.heap.size w (w.alloc (.cells XV 102)) := (Below.refl _ _).alloc (Nat.le_refl _) _
  have LAY := hidm (lay_any D M d.f k x.laid hxo.1 (w.alloc (.cells XV 102)) (cell_later hBx h2) (hA.map.later hBx))
  rw [← hL8] at LAY
  have HX := hidm hx
  have HXV := hidm hXV
  have HXO := hidm hxo
  have hDlt := h2
  clear hL8 hC hX0 hXV hZW hx hxl hpl hxo hX0s
  go_enter Tryz.func98, Tryz.ntmps98
  go_wp2_with fail
  refine G.out.mono ?_
  rintro e w1 ⟨rfl, rfl⟩
  go_wp2_with fail
  refine B.out.mono ?_
  rintro e w1 ⟨rfl, rfl⟩
  rw [show (d.fu && d.lf == 0) = false from hb]
  go_wp2_with (first
    | (refine wpList_buildTo rfl 102 _ rfl (some 27) rfl X0 (by simp [Act.eval]; exact HBW.out) ?_)
    | (refine wpList_store_new rfl 102 _ _ rfl w ZW X0 rfl rfl HX0I.out HZC.out HX01.out ?_)
    | (refine wpList_load_mid rfl 100 _ rfl w.heap.size 1 rfl L8.toList (.array 128 5) HRL.out Tryz.underlying100 rfl HL8.out ?_))
  refine LAY.out.mono ?_
  rintro e w5 ⟨rfl, hm5, ho5⟩
  have hDM : D ≠ M := fun e => by
    obtain ⟨_, es, cl, hh2, _⟩ := HA.out.map
    have := HA.out.row
    rw [e, hh2] at this
    simp at this
  have hlt := HA.out.lt
  have hDw := hlt D HA.out.tD
  have hMw := hlt M HA.out.tM
  have hrow5 : w5.heap[D]? = some (.cells (dcells D d M (.slice ao d.cs.length cap)) 90 (0, 0)) := ho5.keeps hDM (below_keeps hBx HA.out.row)
  have hown5 := own_map (owns_later HA.out.own hBx) (HA.out.map.later hBx) ho5
  have hB5 : w5.heap[w.heap.size]? = some (.cells XV 102 (0, 0)) := ho5.keeps (by omega) (heap_alloc_last w _)
  have hsz5 := ho5.size
  rw [World.size_alloc] at hsz5
  have hon5 : Only T w w5 := (Only.of hBx).trans ho5 (fun i hi => .inl (by rw [hi]; exact HA.out.tM))
  have HS0 := hidm (show w5.drew.rangeAt w.heap.size 0 XV.toList from fun j v hv => by
    rw [Nat.zero_add]
    show w5.cell? _ = _
    rw [cell_of_row _ _ j _ _ (0, 0) hB5]
    simpa using hv)
  obtain ⟨WA, hWA⟩ : ∃ WA, WA = w5.drew.alloc (.cells XV 102) := ⟨_, rfl⟩
  have hbA : Below w5.heap.size w5 WA := by rw [hWA]; exact ((Below.refl _ w5).drew).alloc (Nat.le_refl _) _
  have HOA := hidm (show (w5.drew.alloc (.cells XV 102)).ownsRow 0 102 257 (.slice ao d.cs.length cap) d.cs.length (flatW d.cs) from by rw [← hWA]; exact owns_later hown5 hbA)
  have HLN := hidm (show XV.toList.length = 1 * 257 from by simp [hXs])
  have HXS := hidm hXs
  have HSZA := hidm (show (w5.drew.alloc (.cells XV 102)).heap.size = w5.heap.size + 1 from by simp)
  obtain ⟨o1, o2, o3, o4, o5, o6⟩ := HA.out.ok
  have ho2 : ∀ y ∈ d.cs ++ [x], y.ok := fun y hy => by
    rcases List.mem_append.1 hy with hy | hy
    · exact o2 y hy
    · rw [List.mem_singleton.1 hy]; exact HXO.out
  have hl1 : (d.cs ++ [x]).length ≤ 1000000 := by rw [List.length_append]; simp; omega
  have HOK1 := hidm (show ({ d with f := upd d.f k x.laid, cs := d.cs ++ [x] } : PD).ok from ⟨o1, ho2, hl1, o4, o5, o6⟩)
  have HOK2 := hidm (show ({ d with f := upd d.f k x.laid, cs := d.cs ++ [x], wr := d.wr + 1 } : PD).ok from ⟨o1, ho2, hl1, (by show d.wr + 1 ≤ _; omega), o5, o6⟩)
  have HWR := hidm (show ({ d with f := upd d.f k x.laid, cs := d.cs ++ [x], wr := d.wr + 1 } : PD) = d.write k s.data.toList from by unfold PD.write; rw [HX.out, HHAD.out])
  have HBN := hidm (show (d.write k s.data.toList).fu = true → 1 ≤ (d.write k s.data.toList).lf from fun h => by
    have hb' := hb
    unfold PD.burnt at hb'
    have h' : d.fu = true := h
    rw [h'] at hb'
    have : d.lf ≠ 0 := by simpa using hb'
    show 1 ≤ d.lf
    omega)
  have HLT := hidm (show ∀ w7 : World, w5.heap.size ≤ w7.heap.size → ∀ q, Grow T w w7 q → q < w7.heap.size from fun w7 h7 q hq => by
    rcases hq with hq | hq
    · have := hlt q hq; omega
    · exact hq.2)
  have f4 : wrap64 ((d.wr : Int) + 1) = ((d.wr + 1 : Nat) : Int) := by unfold wrap64; omega
  clear o1 o2 o3 o4 o5 o6 ho2 hl1
  have HDB := hidm (show w.heap.size ≠ D from by omega)
  have hob : ∀ q, (Value.slice ao d.cs.length cap).ownBlock = some q → T q := fun q hq => by
    cases hao : ao with
    | none => rw [hao] at hq; cases hq
    | some p => rw [hao] at hq; cases hq; exact HA.out.tC p hao
  have hobD : ∀ q, (Value.slice ao d.cs.length cap).ownBlock = some q → q ≠ D ∧ q ≠ M := fun q hq => by
    rcases hown5.2 with h3 | ⟨g, c, cur, hv, _, hh3, _⟩
    · rw [h3.1] at hq; cases hq
    · rw [hv] at hq
      cases hq
      refine ⟨fun e => ?_, fun e => ?_⟩
      · have e' : g = D := e
        rw [e', hrow5] at hh3; simp at hh3
      · have e' : g = M := e
        obtain ⟨_, es, cl, hh2, _⟩ := hm5
        rw [e', hh2] at hh3; simp at hh3
  have HGR := hidm (show ∀ w7, (w5.drew.alloc (.cells XV 102)).grownBy w7 (Value.slice ao d.cs.length cap).ownBlock → (w5.drew.alloc (.cells XV 102)).grownBy w7 (Value.slice ao d.cs.length cap).ownBlock ∧ ∀ q, (Value.slice ao d.cs.length cap).ownBlock = some q → T q from fun w7 h7 => ⟨h7, hob⟩)
  have HON := hidm (show Only T w (w5.drew.alloc (.cells XV 102)) from by rw [← hWA]; exact hon5.trans (T' := fun _ => False) (.of hbA) (fun _ h => h.elim))
  have HKEEP := hidm (show ∀ w7, (w5.drew.alloc (.cells XV 102)).grownBy w7 (Value.slice ao d.cs.length cap).ownBlock →
      w7.heap[D]? = some (.cells (dcells D d M (.slice ao d.cs.length cap)) 90 (0, 0)) ∧ MapAt M (upd d.f k x.laid) w7 ∧ w7.rangeAt w.heap.size 0 XV.toList from by
    rw [← hWA]
    intro w7 h7
    refine ⟨?_, ?_, ?_⟩
    · rw [h7.block D (by have := hbA.size; omega) (fun e => (hobD D e.symm).1 rfl)]
      exact below_keeps hbA hrow5
    · refine (hm5.later hbA).keep (h7.block M (by have := hbA.size; omega) (fun e => (hobD M e.symm).2 rfl))
    · have h8 : WA.rangeAt w.heap.size 0 XV.toList := by rw [hWA]; exact World.rangeAt_alloc HS0.out _
      exact rangeAt_keep h8 (h7.block _ (by have := hbA.size; omega) (fun e => by have := hlt _ (hob _ e.symm); omega)))
  have c3 := row_cell hrow5 3
  have c3d : w5.drew.cell? ⟨D, 3, none⟩ = some (.slice ao d.cs.length cap) := c3
  have c3a : (w5.drew.alloc (.cells XV 102)).cell? ⟨D, 3, none⟩ = some (.slice ao d.cs.length cap) := by rw [← hWA]; exact cell_later hbA c3
  have c3b : (w5.alloc (.cells XV 102)).cell? ⟨D, 3, none⟩ = some (.slice ao d.cs.length cap) := c3a
  clear hWA hbA hobD hob hon5 hown5 hB5 hrow5 hm5 ho5 hlt c3 hcopy hl hBx h2 hA
  go_wp2_with fail
  refine wp_region_held_drew (S := fun u => u.rangeAt w.heap.size 0 XV.toList) (by kernel_rfl) HS0.out (fun hHeld => ?_)
  refine Man.take1 (i := 0) (v := ?_) rfl (by kernel_rfl) (by kernel_rfl) (by kernel_rfl) (fun _ _ _ h => h) (by rfl) ?_ (by assumption) ?_
  rotate_left
  · (intro u hSu; (try dsimp only at hSu); go_simp; (try with_reducible rfl))
  (try simp only [Act.put, List.setIfInBounds_toArray, List.set_cons_zero, List.set_cons_succ])
  refine Man.take1 (i := 1) (v := ?_) rfl (by kernel_rfl) (by kernel_rfl) (by kernel_rfl) (fun _ _ _ h => h) (by rfl) ?_ (by assumption) ?_
  rotate_left
  · (intro u hSu; (try dsimp only at hSu); go_simp; (try with_reducible rfl))
  (try simp only [Act.put, List.setIfInBounds_toArray, List.set_cons_zero, List.set_cons_succ])
  refine Man.take1 (i := 2) (v := ?_) rfl (by kernel_rfl) (by kernel_rfl) (by kernel_rfl) (fun _ _ _ h => h) (by rfl) ?_ (by assumption) ?_
  rotate_left
  · (intro u hSu; (try dsimp only at hSu); go_simp; (try with_reducible rfl))
  (try simp only [Act.put, List.setIfInBounds_toArray, List.set_cons_zero, List.set_cons_succ])
  refine Man.take1 (i := 3) (v := ?_) rfl (by kernel_rfl) (by kernel_rfl) (by kernel_rfl) (fun _ _ _ h => h) (by rfl) ?_ (by assumption) ?_
  rotate_left
  · (intro u hSu; (try dsimp only at hSu); go_simp; (try with_reducible rfl))
  (try simp only [Act.put, List.setIfInBounds_toArray, List.set_cons_zero, List.set_cons_succ])
  refine Man.take1 (i := 5) (v := .agg XV) rfl (by kernel_rfl) (by kernel_rfl) (by kernel_rfl) (fun _ _ _ h => h) (by rfl) ?_ (by assumption) ?_
  · (intro u hSu; exact exec_load_mid 102 _ rfl w.heap.size 0 rfl XV _ hSu Tryz.underlying102 rfl HXI.out)
  (try simp only [Act.put, List.setIfInBounds_toArray, List.set_cons_zero, List.set_cons_succ])
  refine Man.two (i := 4) (j := 6) rfl rfl (by kernel_rfl) (fun K hK => ?_) (fun K hK => ?_)
  · go_simp
    refine hK.out _ _ hHeld (fun hNew => ?_)
    clear hK K hHeld
    have hHeld := hNew
    clear hNew
    (try simp only [Act.put, List.setIfInBounds_toArray, List.set_cons_zero, List.set_cons_succ])
    refine Man.one (i := 6) rfl (by kernel_rfl) (fun K hK => ?_)
    refine val_one (by rfl) (exec_slice1 _ rfl XV rfl HXS.out) ?_
    refine hK.out _ _ (World.rangeAt_alloc hHeld _) (fun hNew => ?_)
    clear hK K hHeld
    have hHeld := hNew
    clear hNew
    (try simp only [Act.put, List.setIfInBounds_toArray, List.set_cons_zero, List.set_cons_succ])
    refine Man.one (i := 7) rfl (by kernel_rfl) (fun K hK => ?_)
    refine step_append_lies _ rfl _ _ 88 rfl 0 102 i0 (.agg zeroW) 257 264 Tryz.underlying88 hi0 hz0 hz1 hz2 rfl (by decide) _ d.cs.length (flatW d.cs) rfl HOA.out ⟨w5.heap.size, 0, none⟩ 1 1 XV.toList rfl HLN.out ?a2x ?a3x (by decide) ?a4x ?a5x ?a6x _ rfl (fun g cap' w7 hown hgrow hg hlt7 => ?_)
    case a2x => exact World.news_of_block (heap_alloc_last _ _)
    case a3x => exact HX1.out
    case a4x => unfold maxLen; omega
    case a5x => omega
    case a6x => omega
    have hgrow : (w5.drew.alloc (.cells XV 102)).grownBy w7 (Value.slice ao d.cs.length cap).ownBlock := hgrow
    have hg : (Value.slice ao d.cs.length cap).ownBlock = some g ∨ g = (w5.drew.alloc (.cells XV 102)).heap.size := hg
    have hke := HKEEP.out w7 hgrow
    have HR7 := hidm hke.1
    have HM7 := hidm hke.2.1
    have hS7 := hke.2.2
    have h37 := row_cell hke.1 3
    have z37 := frozen_of_row w7 D 3 _ _ hke.1
    have h47 := row_cell hke.1 4
    have HG7 := hidm (show Only T w w7 ∧ g < w7.heap.size ∧ (T g ∨ w.heap.size ≤ g) from ⟨HON.out.grown (HGR.out w7 hgrow).1 (fun q hq => .inl ((HGR.out w7 hgrow).2 q hq)), hlt7, by rcases hg with hg | hg; exact .inl ((HGR.out w7 hgrow).2 g hg); exact .inr (by have := HSZA.out; omega)⟩)
    have HS57 := hidm (show w5.heap.size ≤ w7.heap.size from by have := hgrow.size; have := HSZA.out; omega)
    have HO7 := hidm (show w7.ownsRow 0 102 257 (.slice (some ⟨g, 0, none⟩) (d.cs.length + 1) cap') (d.cs.length + 1) (flatW d.cs ++ x.cells) from by have h := hown; rw [HXV.out] at h; exact h)
    clear hke hown hgrow hg
    refine hK.out _ _ hS7 (fun hNew => ?_)
    clear hK K hHeld
    have hHeld := hNew
    clear hNew
    (try simp only [Act.put, List.setIfInBounds_toArray, List.set_cons_zero, List.set_cons_succ])
    refine Man.take1 (i := 8) (v := ?_) rfl (by kernel_rfl) (by kernel_rfl) (by kernel_rfl) (fun _ _ _ h => h) (by rfl) ?_ (by assumption) ?_
    rotate_left
    · (intro u hSu; (try dsimp only at hSu); go_simp; (try with_reducible rfl))
    (try simp only [Act.put, List.setIfInBounds_toArray, List.set_cons_zero, List.set_cons_succ])
    refine Man.take1 (i := 9) (v := ?_) rfl (by kernel_rfl) (by kernel_rfl) (by kernel_rfl) (fun _ _ _ h => h) (by rfl) ?_ (by assumption) ?_
    rotate_left
    · (intro u hSu; (try dsimp only at hSu); go_simp; (try with_reducible rfl))
    (try simp only [Act.put, List.setIfInBounds_toArray, List.set_cons_zero, List.set_cons_succ])
    refine Man.one (i := 10) rfl (by kernel_rfl) (fun K hK => ?_)
    go_simp
    refine hK.out _ _ (rangeAt_keep hHeld (heap_setCell_other _ _ _ _ HDB.out)) (fun hNew => ?_)
    clear hK K hHeld hNew
    (try simp only [Act.put])
    refine wpAnyH_done (by kernel_rfl) ?_ _
    have HDA := hidm (DiskAt.appended (T := Grow T w w7) HR7.out HM7.out HO7.out (.inl HA.out.tD) (.inl HA.out.tM) (by rcases HG7.out.2.2 with h | h; exact .inl h; exact .inr ⟨h, HG7.out.2.1⟩) (HLT.out _ HS57.out) HOK1.out)
    have HON8 := hidm (HG7.out.1.set (p := ⟨D, 3, none⟩) (.inl HA.out.tD) (.slice (some ⟨g, 0, none⟩) (d.cs.length + 1) cap'))
    have HSZ8 := hidm (show (w7.setCell ⟨D, 3, none⟩ (.slice (some ⟨g, 0, none⟩) (d.cs.length + 1) cap')).heap.size = w7.heap.size from by simp)
    obtain ⟨w8, hw8⟩ : ∃ w8, w8 = w7.setCell ⟨D, 3, none⟩ (.slice (some ⟨g, 0, none⟩) (d.cs.length + 1) cap') := ⟨_, rfl⟩
    rw [← hw8] at HDA HON8 HSZ8 ⊢
    clear hw8 h37 z37 h47 HR7 HM7 HG7 HO7
    have c4 := HDA.out.c4
    have z4 := HDA.out.z 4
    go_wp2_with fail
    refine (burn_any (D := D) (d := d.write k s.data.toList) (T := Grow T w w7) _ ?b1x HBN.out).mono ?_
    case b1x => exact ⟨M, _, cap', by have hp := HDA.out.put 4 (.int .i64 ((d.wr + 1 : Nat) : Int)) { d with f := upd d.f k x.laid, cs := d.cs ++ [x], wr := d.wr + 1 } rfl rfl rfl HOK2.out; rw [← HWR.out]; exact hp⟩
    rintro e w10 ⟨rfl, hd10, ho10⟩
    have HD10 := hidm hd10
    have HO10 := hidm ho10
    clear hd10 ho10
    go_wp2_with fail
    go_ret
    have hs10 := HO10.out.size
    rw [World.size_setCell, HSZ8.out] at hs10
    refine ⟨rfl, HD10.out.wider (fun q hq => ?_) (fun q hq => ?_), (HON8.out.set (p := ⟨D, 4, none⟩) (.inl HA.out.tD) _).trans HO10.out (fun q hq => ?_)⟩
    · rcases hq with hq | hq
      · exact .inl hq
      · exact .inr ⟨hq.1, by have := hq.2; omega⟩
    · rcases hq with hq | hq
      · have h1 := HA.out.lt q hq
        have h2 := HON8.out.size
        rw [HSZ8.out] at h2
        omega
      · exact hq.2
    · rcases hq with hq | hq
      · exact .inl hq
      · exact .inr hq.1
  · refine val_one (by rfl) (exec_slice1 _ rfl XV rfl HXS.out) ?_
    refine hK.out _ _ (World.rangeAt_alloc hHeld _) (fun hNew => ?_)
    clear hK K hHeld
    have hHeld := hNew
    clear hNew
    (try simp only [Act.put, List.setIfInBounds_toArray, List.set_cons_zero, List.set_cons_succ])
    refine Man.one (i := 4) rfl (by kernel_rfl) (fun K hK => ?_)
    go_simp
    refine hK.out _ _ hHeld (fun hNew => ?_)
    clear hK K hHeld
    have hHeld := hNew
    clear hNew
    (try simp only [Act.put, List.setIfInBounds_toArray, List.set_cons_zero, List.set_cons_succ])
    refine Man.one (i := 7) rfl (by kernel_rfl) (fun K hK => ?_)
    refine step_append_lies _ rfl _ _ 88 rfl 0 102 i0 (.agg zeroW) 257 264 Tryz.underlying88 hi0 hz0 hz1 hz2 rfl (by decide) _ d.cs.length (flatW d.cs) rfl HOA.out ⟨w5.heap.size, 0, none⟩ 1 1 XV.toList rfl HLN.out ?a2y ?a3y (by decide) ?a4y ?a5y ?a6y _ rfl (fun g cap' w7 hown hgrow hg hlt7 => ?_)
    case a2y => exact World.news_of_block (heap_alloc_last _ _)
    case a3y => exact HX1.out
    case a4y => unfold maxLen; omega
    case a5y => omega
    case a6y => omega
    have hgrow : (w5.drew.alloc (.cells XV 102)).grownBy w7 (Value.slice ao d.cs.length cap).ownBlock := hgrow
    have hg : (Value.slice ao d.cs.length cap).ownBlock = some g ∨ g = (w5.drew.alloc (.cells XV 102)).heap.size := hg
    have hke := HKEEP.out w7 hgrow
    have HR7 := hidm hke.1
    have HM7 := hidm hke.2.1
    have hS7 := hke.2.2
    have h37 := row_cell hke.1 3
    have z37 := frozen_of_row w7 D 3 _ _ hke.1
    have h47 := row_cell hke.1 4
    have HG7 := hidm (show Only T w w7 ∧ g < w7.heap.size ∧ (T g ∨ w.heap.size ≤ g) from ⟨HON.out.grown (HGR.out w7 hgrow).1 (fun q hq => .inl ((HGR.out w7 hgrow).2 q hq)), hlt7, by rcases hg with hg | hg; exact .inl ((HGR.out w7 hgrow).2 g hg); exact .inr (by have := HSZA.out; omega)⟩)
    have HS57 := hidm (show w5.heap.size ≤ w7.heap.size from by have := hgrow.size; have := HSZA.out; omega)
    have HO7 := hidm (show w7.ownsRow 0 102 257 (.slice (some ⟨g, 0, none⟩) (d.cs.length + 1) cap') (d.cs.length + 1) (flatW d.cs ++ x.cells) from by have h := hown; rw [HXV.out] at h; exact h)
    clear hke hown hgrow hg
    refine hK.out _ _ hS7 (fun hNew => ?_)
    clear hK K hHeld
    have hHeld := hNew
    clear hNew
    (try simp only [Act.put, List.setIfInBounds_toArray, List.set_cons_zero, List.set_cons_succ])
    refine Man.take1 (i := 8) (v := ?_) rfl (by kernel_rfl) (by kernel_rfl) (by kernel_rfl) (fun _ _ _ h => h) (by rfl) ?_ (by assumption) ?_
    rotate_left
    · (intro u hSu; (try dsimp only at hSu); go_simp; (try with_reducible rfl))
    (try simp only [Act.put, List.setIfInBounds_toArray, List.set_cons_zero, List.set_cons_succ])
    refine Man.take1 (i := 9) (v := ?_) rfl (by kernel_rfl) (by kernel_rfl) (by kernel_rfl) (fun _ _ _ h => h) (by rfl) ?_ (by assumption) ?_
    rotate_left
    · (intro u hSu; (try dsimp only at hSu); go_simp; (try with_reducible rfl))
    (try simp only [Act.put, List.setIfInBounds_toArray, List.set_cons_zero, List.set_cons_succ])
    refine Man.one (i := 10) rfl (by kernel_rfl) (fun K hK => ?_)
    go_simp
    refine hK.out _ _ (rangeAt_keep hHeld (heap_setCell_other _ _ _ _ HDB.out)) (fun hNew => ?_)
    clear hK K hHeld hNew
    (try simp only [Act.put])
    refine wpAnyH_done (by kernel_rfl) ?_ _
    have HDA := hidm (DiskAt.appended (T := Grow T w w7) HR7.out HM7.out HO7.out (.inl HA.out.tD) (.inl HA.out.tM) (by rcases HG7.out.2.2 with h | h; exact .inl h; exact .inr ⟨h, HG7.out.2.1⟩) (HLT.out _ HS57.out) HOK1.out)
    have HON8 := hidm (HG7.out.1.set (p := ⟨D, 3, none⟩) (.inl HA.out.tD) (.slice (some ⟨g, 0, none⟩) (d.cs.length + 1) cap'))
    have HSZ8 := hidm (show (w7.setCell ⟨D, 3, none⟩ (.slice (some ⟨g, 0, none⟩) (d.cs.length + 1) cap')).heap.size = w7.heap.size from by simp)
    obtain ⟨w8, hw8⟩ : ∃ w8, w8 = w7.setCell ⟨D, 3, none⟩ (.slice (some ⟨g, 0, none⟩) (d.cs.length + 1) cap') := ⟨_, rfl⟩
    rw [← hw8] at HDA HON8 HSZ8 ⊢
    clear hw8 h37 z37 h47 HR7 HM7 HG7 HO7
    have c4 := HDA.out.c4
    have z4 := HDA.out.z 4
    go_wp2_with fail
    refine (burn_any (D := D) (d := d.write k s.data.toList) (T := Grow T w w7) _ ?b1y HBN.out).mono ?_
    case b1y => exact ⟨M, _, cap', by have hp := HDA.out.put 4 (.int .i64 ((d.wr + 1 : Nat) : Int)) { d with f := upd d.f k x.laid, cs := d.cs ++ [x], wr := d.wr + 1 } rfl rfl rfl HOK2.out; rw [← HWR.out]; exact hp⟩
    rintro e w10 ⟨rfl, hd10, ho10⟩
    have HD10 := hidm hd10
    have HO10 := hidm ho10
    clear hd10 ho10
    go_wp2_with fail
    go_ret
    have hs10 := HO10.out.size
    rw [World.size_setCell, HSZ8.out] at hs10
    refine ⟨rfl, HD10.out.wider (fun q hq => ?_) (fun q hq => ?_), (HON8.out.set (p := ⟨D, 4, none⟩) (.inl HA.out.tD) _).trans HO10.out (fun q hq => ?_)⟩
    · rcases hq with hq | hq
      · exact .inl hq
      · exact .inr ⟨hq.1, by have := hq.2; omega⟩
    · rcases hq with hq | hq
      · have h1 := HA.out.lt q hq
        have h2 := HON8.out.size
        rw [HSZ8.out] at h2
        omega
      · exact hq.2
    · rcases hq with hq | hq
      · exact .inl hq
      · exact .inr hq.1
end Dsk
end Go.Proofs.YtmccnlffikegfaaGreatDoor
