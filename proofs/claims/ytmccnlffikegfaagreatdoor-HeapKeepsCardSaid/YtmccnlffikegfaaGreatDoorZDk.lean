/- Crash. Conditions: as each says. -/
import Derived.Test.YtmccnlffikegfaaGreatDoorZDhto
namespace Go.Proofs.YtmccnlffikegfaaGreatDoor
open Go.RowKit
attribute [local go_sem] Oper.semAt_some
namespace Dsk
/-- The slice holds these truths. -/
def BoolsAt (ks : List Bool) (ao : Option Addr) (cap : Nat) (w : World) : Prop := ks.length ≤ cap ∧ cap ≤ 9223372036854775807 ∧ (ks ≠ [] → ∃ b o, ao = some ⟨b, o, none⟩ ∧ b < w.heap.size ∧ ∀ j (h : j < ks.length), w.cell? ⟨b, o + j, none⟩ = some (.bool ks[j]))
theorem BoolsAt.later {ks : List Bool} {ao : Option Addr} {cap : Nat} {w w' : World} (h : BoolsAt ks ao cap w) (hb : Below w.heap.size w w') : BoolsAt ks ao cap w' := by
  obtain ⟨h1, h2, h3⟩ := h
  refine ⟨h1, h2, fun hne => ?_⟩
  obtain ⟨b, o, e, hlt, hc⟩ := h3 hne
  exact ⟨b, o, e, Nat.lt_of_lt_of_le hlt hb.size, fun j hj => cell_later hb (hc j hj)⟩
theorem BoolsAt.keep {T : Nat → Prop} {ks : List Bool} {ao : Option Addr} {cap : Nat} {w w' : World} (h : BoolsAt ks ao cap w) (hb : Only T w w') (hT : ks ≠ [] → ∀ p, ao = some p → ¬ T p.block) : BoolsAt ks ao cap w' := by
  obtain ⟨h1, h2, h3⟩ := h
  refine ⟨h1, h2, fun hne => ?_⟩
  obtain ⟨b, o, e, hlt, hc⟩ := h3 hne
  refine ⟨b, o, e, Nat.lt_of_lt_of_le hlt hb.size, fun j hj => ?_⟩
  rw [World.cell?_of_block (w := w) (a := ⟨b, o + j, none⟩) (hb.block b hlt (hT hne _ e))]
  exact hc j hj
theorem BoolsAt.nil (w : World) : BoolsAt [] none 0 w := ⟨Nat.le_refl _, by omega, fun h => absurd rfl h⟩
set_option maxHeartbeats 1000000 in
theorem crash_none (p : Option Addr) (v : Value) (w : World) (h : NotGiven p w) : Calls Tryz.prog 21 #[.pointer p, v] w fun e w' => e = .returned (.int .i64 13) ∧ Below w.heap.size w w' := by
  have hb := (Below.refl w.heap.size w).alloc (Nat.le_refl _) (.cells #[.pointer p] 44)
  have G := hidm (given_no p _ (h.later hb))
  have HB := hidm hb
  clear hb
  go_enter Tryz.func21, Tryz.ntmps21
  go_wp2_with fail
  refine G.out.mono ?_
  rintro e w1 ⟨rfl, rfl⟩
  go_wp2_with fail
  go_ret
  exact ⟨rfl, HB.out⟩
set_option maxHeartbeats 1000000 in
theorem crash_many {D : Nat} {d : PD} {T : Nat → Prop} (so : Option Addr) (sl sc : Nat) (w : World) (h : DiskIs D d T w) (hk : d.cs.length < sl) :
    Calls Tryz.prog 21 #[.pointer (some ⟨D, 0, none⟩), .slice so sl sc] w fun e w' => e = .returned (.int .i64 1) ∧ Below w.heap.size w w' := by
  obtain ⟨M, ao, cap, hA⟩ := h
  have hb := (Below.refl w.heap.size w).alloc (Nat.le_refl _) (.cells #[.pointer (some ⟨D, 0, none⟩)] 44)
  have G := hidm (given_yes D _ (cell_later hb hA.c0))
  have c3 := cell_later hb hA.c3
  have HB := hidm hb
  have f1 : (d.cs.length : Int) < (sl : Int) := by omega
  clear hb
  go_enter Tryz.func21, Tryz.ntmps21
  go_wp2_with fail
  refine G.out.mono ?_
  rintro e w1 ⟨rfl, rfl⟩
  go_wp2_with fail
  go_ret
  exact ⟨rfl, HB.out⟩
/-- The writes are taken back, the last one first. -/
def undo (f : Int → List UInt8) (l : List Ent) : Int → List UInt8 := l.foldl (fun f x => upd f x.1.2.pos x.1.2.had) f
theorem undo_snoc (f : Int → List UInt8) (l : List Ent) (x : Ent) : undo f (l ++ [x]) = upd (undo f l) x.1.2.pos x.1.2.had := by simp [undo]
/-- Those that are kept are laid anew. -/
def redo (f : Int → List UInt8) (cs : List Wt) (ks : List Bool) : Int → List UInt8 := (cs.zip ks).foldl (fun f p => if p.2 then upd f p.1.pos p.1.laid else f) f
def redoN (f : Int → List UInt8) (cs : List Wt) (ks : List Bool) (k : Nat) : Int → List UInt8 := ((cs.zip ks).take k).foldl (fun f p => if p.2 then upd f p.1.pos p.1.laid else f) f
theorem redoN_succ (f : Int → List UInt8) (cs : List Wt) (ks : List Bool) (k : Nat) (h1 : k < cs.length) (h2 : k < ks.length) : redoN f cs ks (k + 1) = if ks[k] then upd (redoN f cs ks k) (cs[k]).pos (cs[k]).laid else redoN f cs ks k := by
  unfold redoN
  rw [List.take_succ_eq_append_getElem (by simp; omega), List.foldl_append]
  simp
theorem back_stops (F : Fence) (n : Nat) (h7 : F.fn 81) (hro : F.round = none) (hn : 1 ≤ n) (Bs : Nat) (ao : Option Addr) (cap : Nat) (cs : List Wt) (hok : ∀ x ∈ cs, x.ok) (hlen : cs.length ≤ 1000000)
    (w : World) (hBs : w.cell? ⟨Bs, 0, none⟩ = some (.slice ao cs.length cap))
    (hc : cs ≠ [] → ∃ g, ao = some ⟨g, 0, none⟩ ∧ g < w.heap.size ∧ ∀ i (hi : i < cs.length), w.rangeAt g (i * 257) (cs[i]).val.toList) :
    SeqStopsK F n Tryz.prog 81 #[.pointer (some ⟨Bs, 0, none⟩)] enc (Kp2 Bs (ao.map (·.block))) (fun ys => ys = back cs hok cs.length) (fun pre => ∃ k, k ≤ cs.length ∧ pre = back cs hok k) cs.length w := fun l J Jx W hW _ _ hY h0 => by
  refine back_in F n h7 hro hn l Bs ao cap cs hok hlen J Jx hY W (cell_later hW hBs) (fun hne => ?_) h0
  obtain ⟨g, hg, hlt, hr⟩ := hc hne
  exact ⟨g, hg, fun i hi => rangeAt_keep (hr i hi) (hW.block g hlt)⟩
def undoW (f : Int → List UInt8) (cs : List Wt) : Int → List UInt8 := cs.reverse.foldl (fun f x => upd f x.pos x.had) f
theorem undo_back (f : Int → List UInt8) (cs : List Wt) (hok : ∀ x ∈ cs, x.ok) : undo f (back cs hok cs.length) = undoW f cs := by
  have h1 : (back cs hok cs.length).map (fun x => x.1.2) = cs.reverse := by
    apply List.ext_getElem
    · simp [back]
    · intro i h1 h2
      simp only [back, List.map_map, List.getElem_map, List.getElem_range, Function.comp_apply, List.getElem_reverse]
      have hi : i < cs.length := by simpa using h2
      rw [ent_eq (by omega)]
  have h2 : ∀ (l : List Ent) (f : Int → List UInt8), undo f l = (l.map (fun x => x.1.2)).foldl (fun f x => upd f x.pos x.had) f := by
    intro l
    induction l with
    | nil => intro f; rfl
    | cons x l ih => intro f; exact ih _
  rw [h2, h1]; rfl
def PD.crash (d : PD) (ks : List Bool) : PD := { d with f := redo (undoW d.f d.cs) d.cs ks, cs := [], fu := false, lf := 0 }
def noPanic (Q : Exit → Act → World → Prop) : Exit → Act → World → Prop
  | .panic _, _, _ => False
  | e, a, w => Q e a w
theorem noPanic_of {Q : Exit → Act → World → Prop} {e : Exit} {a : Act} {w : World} (h : noPanic Q e a w) : Q e a w := by
  cases e <;> first | exact h | exact h.elim
set_option maxHeartbeats 8000000 in
set_option maxRecDepth 100000 in
theorem crash_on {D : Nat} {d : PD} {T : Nat → Prop} (ks : List Bool) (so : Option Addr) (sc : Nat) (w : World) (h : DiskIs D d T w) (hk : ks.length ≤ d.cs.length) (hks : BoolsAt ks so sc w) (hkT : ks ≠ [] → ∀ p, so = some p → ¬ T p.block) :
    Calls Tryz.prog 21 #[.pointer (some ⟨D, 0, none⟩), .slice so ks.length sc] w fun e w' => e = .returned (.int .i64 0) ∧ DiskIs D (d.crash ks) T w' ∧ Only T w w' := by
  have hok := h.ok.2.1
  obtain ⟨M, ao, cap, hA⟩ := h
  have HA := hidm hA
  have hb := (Below.refl w.heap.size w).alloc (Nat.le_refl _) (.cells #[.pointer (some ⟨D, 0, none⟩)] 44)
  have G := hidm (given_yes D _ (cell_later hb hA.c0))
  have c3 := cell_later hb hA.c3
  have f1 : ¬ (d.cs.length : Int) < (ks.length : Int) := by omega
  have HBW := hidm hb
  clear hA hb
  refine (callsIn_wide (n := 3)).1 (callsIn_of_wp_marks Tryz.func21 rfl trivial (wpIn_wide.2 (wp_mono ?_ (fun e a w h => noPanic_of h))) rfl)
  simp only [Tryz.ntmps21, List.size_toArray, List.length_cons, List.length_nil, Nat.reduceAdd, Nat.reduceSub, Array.replicate_succ, Array.replicate_zero, List.push_toArray, List.append_toArray, List.nil_append, List.cons_append]
  go_wp2_with fail
  refine G.out.mono ?_
  rintro e w1 ⟨rfl, rfl⟩
  -- BEGIN-LOOP
  go_wp2_with fail
  refine (backward_any _ ao d.cs.length cap rfl _).mono ?_
  rintro e w1 ⟨rfl, rfl⟩
  go_wp2_with fail
  obtain ⟨W0, hW0⟩ : ∃ W0, W0 = (w.alloc (.cells #[.pointer (some ⟨D, 0, none⟩)] 44)).alloc (.cells #[.slice ao d.cs.length cap] 88) := ⟨_, rfl⟩
  have hbW : Below w.heap.size w W0 := by rw [hW0]; exact ((Below.refl _ _).alloc (Nat.le_refl _) _).alloc (by simp) _
  have hszW : W0.heap.size = w.heap.size + 2 := by rw [hW0]; simp
  have hBx0 : W0.heap[w.heap.size]? = some (.cells #[.pointer (some ⟨D, 0, none⟩)] 44 (0, 0)) := by
    rw [hW0]
    rw [Below.heap_alloc _ _ _ (by simp)]
    exact heap_alloc_last w _
  have hBs0 : W0.heap[w.heap.size + 1]? = some (.cells #[.slice ao d.cs.length cap] 88 (0, 0)) := by
    rw [hW0]
    have := heap_alloc_last (w.alloc (.cells #[.pointer (some ⟨D, 0, none⟩)] 44)) (.cells #[.slice ao d.cs.length cap] 88)
    rwa [World.size_alloc] at this
  have hA0 := HA.out.later hbW
  have hlen := HA.out.ok.2.2.1
  have hMw := HA.out.map.lt
  have hDw := HA.out.lt D HA.out.tD
  rw [← hW0]
  clear hW0 c3
  have hao : ∀ q, ao.map (·.block) = some q → q < w.heap.size ∧ q ≠ M := fun q hq => by
    cases hao : ao with
    | none => rw [hao] at hq; cases hq
    | some pp =>
      rw [hao] at hq
      cases hq
      refine ⟨HA.out.lt _ (HA.out.tC pp hao), fun e => ?_⟩
      rcases HA.out.own.2 with h3 | ⟨g, c, cur, hv, _, hh3, _⟩
      · have := h3.1; rw [hao] at this; simp at this
      · rw [hao] at hv
        simp only [Value.slice.injEq, Option.some.injEq] at hv
        obtain ⟨rfl, _⟩ := hv
        obtain ⟨_, es, cl, hh2, _⟩ := HA.out.map
        have e' : g = M := e
        rw [e', hh2] at hh3; simp at hh3
  obtain ⟨ZW, hZW⟩ : ∃ ZW, ZW = zeroW := ⟨_, rfl⟩
  have hz := zeroWV
  rw [← hZW] at hz
  have HZW := hidm (show ZW.size = 257 from by rw [hZW]; simp [zeroW, vals_len, zeros_len])
  clear hZW
  refine wpIn_wide.1 (wpIn_rangeFunc_ownH (F := Fence.wide) (n := 3) rfl (by decide) (gf := 81) (lb := #[.pointer (some ⟨w.heap.size + 1, 0, none⟩)]) rfl trivial (enters_of Tryz.func81 (by kernel_rfl) rfl)
    (back_stops Fence.wide 2 trivial rfl (by decide) (w.heap.size + 1) ao cap d.cs hok hlen W0 (row_cell hBs0 0) (fun hne => by
      obtain ⟨g, h1, _, h3, _, _, h6⟩ := hA0.at hne
      exact ⟨g, h1, h3, h6⟩))
    (fun h k => h.trans k)
    (fun W l o o' hl hlo _ _ => ⟨World.putObj_heap_other (by omega), fun q hq => World.putObj_heap_other (by have := (hao q hq).1; omega)⟩)
    (Below.refl _ _) (fun _ => rfl)
    (fun pre W => MapAt M (undo d.f pre) W ∧ Only (fun q => q = M) W0 W)
    (fun _ _ _ => False)
    (fun pre A B row hs hg hr => ⟨hs.1.keep (hg.block M hs.1.lt (fun e => by have := (hr M e.symm).1; omega)), hs.2.grown hg (fun q e => .inr (hr q e).1)⟩)
    (fun _ _ _ _ _ hs _ _ => hs.elim)
    ⟨hA0.map, Only.refl _ _⟩
    (fun x a' W => ∃ Bx, W0.heap.size ≤ Bx ∧ W.heap[Bx]? = some (.cells x.1.2.val 102 (0, 0)) ∧ a' = { tmps := #[.pointer (some ⟨D, 0, none⟩), .slice so ks.length sc, .pointer (some ⟨w.heap.size, 0, none⟩), undef, .int .i64 0, undef, .pointer (some ⟨Bx, 0, none⟩), undef, undef, .pointer (some ⟨D, 0, none⟩), .bool true, .bool false, .slice so ks.length sc, .int .i64 (ks.length : Int), .pointer (some ⟨D, 0, none⟩), .pointer (some ⟨D, 0, none⟩), .pointer (some ⟨D, 3, none⟩), .slice ao d.cs.length cap, .int .i64 (d.cs.length : Int), .bool false, .pointer (some ⟨D, 0, none⟩), .pointer (some ⟨D, 0, none⟩), .pointer (some ⟨D, 3, none⟩), .slice ao d.cs.length cap, .func (.func 81) #[] #[.pointer (some ⟨w.heap.size + 1, 0, none⟩)], .int .i64 (x.1.1 : Int), .agg x.1.2.val, undef, undef, undef, undef, undef, undef, undef, undef, undef, undef, undef, undef, undef, undef, undef, undef, undef, undef, undef, undef, undef, undef, undef, undef, undef, undef, undef, undef, undef, undef, undef, undef, undef, undef, undef, undef, undef, undef, undef, undef, undef, undef], defers := [] })
    (fun x a' s A B row hs hg hr => by
      obtain ⟨Bx, h1, h2, h3⟩ := hs
      exact ⟨Bx, h1, (hg.block Bx (lt_of_block h2) (fun e => by
        obtain ⟨_, o, ho, hc⟩ := hr Bx e.symm
        rw [h2] at ho
        cases ho
        cases hc)).trans h2, h3⟩)
    ?assign ?body ?done ?stop)
  case assign =>
    intro l pre x W K hI hK
    have hxo := x.2
    obtain ⟨XV, hXV⟩ : ∃ XV, XV = x.1.2.val := ⟨_, rfl⟩
    have hXs : XV.size = 257 := by rw [hXV]; exact Wt.val_size hxo
    have HXI := hidm (show (Tryz.prog.info? 102).map (·.size) = some XV.size from by rw [hXs]; exact sizeW)
    have HX1 := hidm (show XV.all (·.oneCell') = true from by rw [hXV]; exact x.1.2.val_one)
    have HZC := hidm (show ZW.size = XV.size from by rw [HZW.out, hXs])
    have HXV := hidm hXV
    unfold enc
    rw [← hXV] at hK ⊢
    clear hXV hXs hxo
    gi_wp2_with (refine wpListIn_store_new rfl 102 _ _ rfl W ZW XV rfl rfl HXI.out HZC.out HX1.out ?_)
    have hsz : W0.heap.size ≤ W.heap.size := hI.2.size
    refine hK _ _ ((KeepsOthers.alloc _ _).from _) ⟨Below.heap_alloc _ _ _ (by omega), fun q hq => Below.heap_alloc _ _ _ (by have := (hao q hq).1; omega)⟩ ⟨hI.1.later ((Below.refl _ _).alloc (Nat.le_refl _) _), hI.2.alloc _⟩ ⟨W.heap.size, hsz, heap_alloc_last W _, rfl⟩
  case body =>
    rintro l pre x a' W hl ⟨r, hr⟩ ⟨hm, ho⟩ ⟨Bx, hBx, hbx, rfl⟩ hlt
    have hxo := x.2
    have hB1 := ho.keeps (k := w.heap.size) (by omega) hBx0
    have cB := row_cell hB1 0
    have cD := row_cell (ho.keeps (k := D) (by
      intro e
      obtain ⟨_, es, cl, hh2, _⟩ := HA.out.map
      have := HA.out.row
      rw [e, hh2] at this
      simp at this) hA0.row) 2
    have cP := row_cell hbx 0
    have cP' : W.cell? ⟨Bx, 0, none⟩ = some (.int .i64 (x.1.2.pos : Int)) := cP
    obtain ⟨C, hC⟩ : ∃ C, C = sec x.1.2.had := ⟨_, rfl⟩
    have HR := hidm (show W.rangeAt Bx 129 C.toList from fun j v hv => by
      rw [row_cell hbx]
      rw [hC] at hv
      have hv2 : (vals x.1.2.had)[j]? = some v := hv
      show ((Value.int .i64 (x.1.2.pos : Int) :: (vals x.1.2.laid ++ vals x.1.2.had) : List Value).toArray)[129 + j]? = some v
      rw [List.getElem?_toArray]
      show (Value.int .i64 (x.1.2.pos : Int) :: (vals x.1.2.laid ++ vals x.1.2.had))[129 + j]? = some v
      have hl8 : (vals x.1.2.laid).length = 128 := by rw [vals_len, hxo.1]
      rw [show 129 + j = (128 + j) + 1 by omega, List.getElem?_cons_succ, List.getElem?_append_right (by omega), hl8, show 128 + j - 128 = j by omega]
      exact hv2)
    have HI := hidm (show (Tryz.prog.info? 100).map (·.size) = some C.toList.length from by rw [hC, Array.length_toList, sec_size, hxo.2]; exact infoSec)
    have LAY := hidm (lay_any D M (undo d.f pre) (x.1.2.pos : Int) x.1.2.had hxo.2 W cD hm)
    rw [← hC] at LAY
    have HO := hidm ho
    clear cP hC hxo hB1 hm ho
    gi_wp2_with (first
      | (refine wpListIn_load_mid rfl 100 _ rfl Bx 129 rfl C.toList _ HR.out Tryz.underlying100 rfl HI.out ?_)
      | (refine ⟨trivial, ?_⟩; gi_at_call 50; refine (CallsIn.inRound l (callsIn_wide.2 LAY.out)).mono ?_; rintro e w' ⟨rfl, hm', ho'⟩))
    exact ⟨⟨ho'.size, fun q o hq hqo _ => ho'.keeps (by omega) hqo⟩, ⟨ho'.block _ (lt_of_block (HO.out.keeps (k := w.heap.size + 1) (by omega) hBs0)) (by omega), fun q hq => ho'.block q (by have := (hao q hq).1; have := HO.out.size; omega) (hao q hq).2⟩, by rw [undo_snoc]; exact hm', HO.out.trans ho' (fun q hq => .inl hq)⟩
  case stop =>
    rintro D' c pre W _ _ h _
    exact h.elim
  case done =>
    rintro D' ys W hD' hys ⟨hm, ho⟩ hK
    rw [hys, undo_back] at hm
    have hDM : D ≠ M := fun e => by
      obtain ⟨_, es, cl, hh2, _⟩ := HA.out.map
      have := HA.out.row
      rw [e, hh2] at this
      simp at this
    have cB := row_cell (ho.keeps (k := w.heap.size) (by omega) hBx0) 0
    have cB' : W.cell? ⟨w.heap.size, 0, none⟩ = some (.pointer (some ⟨D, 0, none⟩)) := cB
    have hrowW := ho.keeps (k := D) hDM hA0.row
    have HKS := hidm ((hks.later hbW).keep ho (fun hne p hp e => hkT hne p hp (by rw [e]; exact HA.out.tM)))
    obtain ⟨f1', hf1'⟩ : ∃ f', f' = undoW d.f d.cs := ⟨_, rfl⟩
    rw [← hf1'] at hm
    have HF1 := hidm hf1'
    obtain ⟨m, hm'⟩ : ∃ m, m = ks.length := ⟨_, rfl⟩
    have HM' := hidm hm'
    rw [← hm'] at hk
    rw [← hm']
    obtain ⟨n, hn'⟩ : ∃ n, n = d.cs.length := ⟨_, rfl⟩
    have HN' := hidm hn'
    have hrowN := hrowW
    unfold dcells at hrowN
    rw [← hn'] at hk hlen hrowN ⊢
    have HMM := hidm hm
    have HOW := hidm ho
    have HKD := hidm hK
    have HA0 := hidm hA0
    have HAO := hidm hao
    have HBX := hidm hBx0
    have HROWW := hidm hrowW
    have HRN := hidm hrowN
    have HOK := hidm hok
    have HKST := hidm hkT
    clear hm' hn' hf1' hm ho hK hA0 hks hkT hok hao cB hBs0 hBx0 hrowW hrowN hys hz HZW
    go_wp2_with fail
    go_loopw [35] (fun ii wr => ∃ i : Nat, ii = .int .i64 i ∧ i ≤ m ∧ Hid (MapAt M (redoN f1' d.cs ks i) wr) ∧ Hid (Only (fun q => q = M) W wr)) (fun ii _ => (m - (intOf ii).toNat))
    case atStart => exact ⟨0, rfl, by omega, hidm (by unfold redoN; simpa using HMM.out), hidm (Only.refl _ _)⟩
    case round =>
      obtain ⟨i, rfl, hi, HMI, HOI⟩ := hrel
      have cBr : wr.cell? ⟨w.heap.size, 0, none⟩ = some (.pointer (some ⟨D, 0, none⟩)) := row_cell (HOI.out.keeps (k := w.heap.size) (by omega) (HOW.out.keeps (k := w.heap.size) (by omega) HBX.out)) 0
      rcases Nat.lt_or_ge i m with hlt | hge
      · have g1 : (i : Int) < m := by omega
        have hik : i < ks.length := by have := HM'.out; omega
        have hic : i < d.cs.length := by have := HN'.out; omega
        obtain ⟨b, o, hso, hbl, hbc⟩ := (HKS.out.keep HOI.out (fun hne p hp e => HKST.out hne p hp (by rw [e]; exact HA.out.tM))).2.2 (fun e => by rw [e] at hik; simp at hik)
        have cK := hbc i hik
        have HST := hidm (redoN_succ f1' d.cs ks i hic hik)
        subst hso
        rcases hkb : ks[i] with _ | _
        · rw [hkb] at cK HST
          have HMN := hidm (show MapAt M (redoN f1' d.cs ks (i + 1)) wr from by rw [HST.out]; exact HMI.out)
          clear hbc hbl hkb
          go_wp2_with fail
          go_roundw
          case rel => exact ⟨i + 1, by go_num, by omega, HMN, HOI⟩
          case measure => simp [intOf]; omega
        · rw [hkb] at cK HST
          obtain ⟨g, hag, hTg, hgw, hgc1, hgc2, hrg⟩ := HA0.out.at (fun e => by rw [e] at hic; simp at hic)
          subst hag
          have hg2 := HAO.out g rfl
          have hr0 : wr.rangeAt g (i * 257) (d.cs[i]).val.toList := rangeAt_keep (hrg i hic) (by
            rw [HOI.out.block g (by have := HOW.out.size; omega) hg2.2, HOW.out.block g hgw hg2.2])
          obtain ⟨x, hx⟩ : ∃ x, x = d.cs[i] := ⟨_, rfl⟩
          rw [← hx] at hr0 HST
          have hxo : x.ok := by rw [hx]; exact HOK.out _ (List.getElem_mem hic)
          obtain ⟨L8, hL8⟩ : ∃ L8, L8 = sec x.laid := ⟨_, rfl⟩
          have HL8 := hidm (show (Tryz.prog.info? 100).map (·.size) = some L8.size from by rw [hL8, sec_size, hxo.1]; exact infoSec)
          have cG : wr.cell? ⟨g, i * 257, none⟩ = some (.int .i64 (x.pos : Int)) := by
            have h := hr0 0 (.int .i64 (x.pos : Int)) (by unfold Wt.val Wt.cells; simp)
            simpa using h
          have hRL : wr.rangeAt g (i * 257 + 1) L8.toList := fun j v hv => by
            rw [hL8] at hv
            have hv2 : (vals x.laid)[j]? = some v := hv
            have hj : j < (vals x.laid).length := (List.getElem?_eq_some_iff.1 hv2).1
            have h := hr0 (j + 1) v (by
              show (Value.int .i64 (x.pos : Int) :: (vals x.laid ++ vals x.had))[j + 1]? = some v
              rw [List.getElem?_cons_succ, List.getElem?_append_left hj]; exact hv2)
            rw [show i * 257 + 1 + j = i * 257 + (j + 1) by omega]; exact h
          have hrow5 := HOI.out.keeps (k := D) hDM HRN.out
          have c35 : wr.cell? ⟨D, 3, none⟩ = some (.slice (some ⟨g, 0, none⟩) n cap) := row_cell hrow5 3
          have c25 : wr.cell? ⟨D, 2, none⟩ = some (.map (some M)) := row_cell hrow5 2
          have LAYR := hidm (lay_any D M (redoN f1' d.cs ks i) (x.pos : Int) x.laid hxo.1 wr.drew c25 (HMI.out.later ((Below.refl _ _).drew)))
          rw [← hL8] at LAYR
          have HS0 : Hid (wr.drew.cell? ⟨w.heap.size, 0, none⟩ = some (.pointer (some ⟨D, 0, none⟩)) ∧ wr.drew.cell? ⟨D, 3, none⟩ = some (.slice (some ⟨g, 0, none⟩) n cap) ∧ wr.drew.cell? ⟨g, i * 257, none⟩ = some (.int .i64 (x.pos : Int)) ∧ wr.drew.rangeAt g (i * 257 + 1) L8.toList) := hidm ⟨cBr, c35, cG, hRL⟩
          have hsz5 := HOI.out.size
          have hszo := HOW.out.size
          have HSK := hidm (show ∀ w5, Only (fun q => q = M) wr.drew w5 → w5.cell? ⟨w.heap.size, 0, none⟩ = some (.pointer (some ⟨D, 0, none⟩)) ∧ w5.cell? ⟨D, 3, none⟩ = some (.slice (some ⟨g, 0, none⟩) n cap) ∧ w5.cell? ⟨g, i * 257, none⟩ = some (.int .i64 (x.pos : Int)) ∧ w5.rangeAt g (i * 257 + 1) L8.toList from fun w5 h5 => by
            have e1 : w5.heap[w.heap.size]? = wr.drew.heap[w.heap.size]? := h5.block _ (show w.heap.size < wr.heap.size by omega) (by omega)
            have e2 : w5.heap[D]? = wr.drew.heap[D]? := h5.block _ (show D < wr.heap.size by omega) hDM
            have e3 : w5.heap[g]? = wr.drew.heap[g]? := h5.block _ (show g < wr.heap.size by omega) hg2.2
            obtain ⟨s1, s2, s3, s4⟩ := HS0.out
            exact ⟨(World.cell?_of_block (w := wr.drew) (a := ⟨w.heap.size, 0, none⟩) e1).trans s1, (World.cell?_of_block (w := wr.drew) (a := ⟨D, 3, none⟩) e2).trans s2, (World.cell?_of_block (w := wr.drew) (a := ⟨g, i * 257, none⟩) e3).trans s3, rangeAt_keep s4 e3⟩)
          have g2 : (i : Int) < n := by omega
          clear hbc hbl hkb hrg hr0 hx hxo hL8 hRL hrow5 c25 c35 cG
          go_wp2_with fail
          refine wp_region_held_drew (S := fun u => u.cell? ⟨w.heap.size, 0, none⟩ = some (.pointer (some ⟨D, 0, none⟩)) ∧ u.cell? ⟨D, 3, none⟩ = some (.slice (some ⟨g, 0, none⟩) n cap) ∧ u.cell? ⟨g, i * 257, none⟩ = some (.int .i64 (x.pos : Int)) ∧ u.rangeAt g (i * 257 + 1) L8.toList) (by kernel_rfl) HS0.out (fun hHeld => ?_)
          refine Man.take1 (i := 0) (v := ?_) rfl (by kernel_rfl) (by kernel_rfl) (by kernel_rfl) (fun _ _ _ h => h) (by rfl) ?_ (by assumption) ?_
          rotate_left
          · (intro u hSu; (try dsimp only at hSu); go_simp; (try with_reducible rfl))
          (try simp only [Act.put, List.setIfInBounds_toArray, List.set_cons_zero, List.set_cons_succ])
          refine Man.take1 (i := 1) (v := ?_) rfl (by kernel_rfl) (by kernel_rfl) (by kernel_rfl) (fun _ _ _ h => h) (by rfl) ?_ (by assumption) ?_
          rotate_left
          · (intro u hSu; (try dsimp only at hSu); go_simp; (try with_reducible rfl))
          (try simp only [Act.put, List.setIfInBounds_toArray, List.set_cons_zero, List.set_cons_succ])
          refine Man.take1 (i := 2) (v := ?_) rfl (by kernel_rfl) (by kernel_rfl) (by kernel_rfl) (fun _ _ _ h => h) (by rfl) ?_ (by assumption) ?_
          rotate_left
          · (intro u hSu; (try dsimp only at hSu); go_simp; (try with_reducible rfl))
          (try simp only [Act.put, List.setIfInBounds_toArray, List.set_cons_zero, List.set_cons_succ])
          refine Man.take1 (i := 3) (v := ?_) rfl (by kernel_rfl) (by kernel_rfl) (by kernel_rfl) (fun _ _ _ h => h) (by rfl) ?_ (by assumption) ?_
          rotate_left
          · (intro u hSu; (try dsimp only at hSu); go_simp; (try with_reducible rfl))
          (try simp only [Act.put, List.setIfInBounds_toArray, List.set_cons_zero, List.set_cons_succ])
          refine Man.take1 (i := 4) (v := ?_) rfl (by kernel_rfl) (by kernel_rfl) (by kernel_rfl) (fun _ _ _ h => h) (by rfl) ?_ (by assumption) ?_
          rotate_left
          · (intro u hSu; (try dsimp only at hSu); go_simp; (try with_reducible rfl))
          (try simp only [Act.put, List.setIfInBounds_toArray, List.set_cons_zero, List.set_cons_succ])
          refine Man.take1 (i := 5) (v := ?_) rfl (by kernel_rfl) (by kernel_rfl) (by kernel_rfl) (fun _ _ _ h => h) (by rfl) ?_ (by assumption) ?_
          rotate_left
          · (intro u hSu; (try dsimp only at hSu); go_simp; (try with_reducible rfl))
          (try simp only [Act.put, List.setIfInBounds_toArray, List.set_cons_zero, List.set_cons_succ])
          refine Man.take1 (i := 6) (v := ?_) rfl (by kernel_rfl) (by kernel_rfl) (by kernel_rfl) (fun _ _ _ h => h) (by rfl) ?_ (by assumption) ?_
          rotate_left
          · (intro u hSu; (try dsimp only at hSu); go_simp; (try with_reducible rfl))
          (try simp only [Act.put, List.setIfInBounds_toArray, List.set_cons_zero, List.set_cons_succ])
          refine Man.take1 (i := 7) (v := ?_) rfl (by kernel_rfl) (by kernel_rfl) (by kernel_rfl) (fun _ _ _ h => h) (by rfl) ?_ (by assumption) ?_
          rotate_left
          · (intro u hSu; (try dsimp only at hSu); go_simp; (try with_reducible rfl))
          (try simp only [Act.put, List.setIfInBounds_toArray, List.set_cons_zero, List.set_cons_succ])
          refine Man.take1 (i := 8) (v := ?_) rfl (by kernel_rfl) (by kernel_rfl) (by kernel_rfl) (fun _ _ _ h => h) (by rfl) ?_ (by assumption) ?_
          rotate_left
          · (intro u hSu; (try dsimp only at hSu); go_simp; (try with_reducible rfl))
          (try simp only [Act.put, List.setIfInBounds_toArray, List.set_cons_zero, List.set_cons_succ])
          refine Man.take1 (i := 9) (v := ?_) rfl (by kernel_rfl) (by kernel_rfl) (by kernel_rfl) (fun _ _ _ h => h) (by rfl) ?_ (by assumption) ?_
          rotate_left
          · (intro u hSu; (try dsimp only at hSu); go_simp; (try with_reducible rfl))
          (try simp only [Act.put, List.setIfInBounds_toArray, List.set_cons_zero, List.set_cons_succ])
          refine Man.take1 (i := 10) (v := ?_) rfl (by kernel_rfl) (by kernel_rfl) (by kernel_rfl) (fun _ _ _ h => h) (by rfl) ?_ (by assumption) ?_
          rotate_left
          · (intro u hSu; (try dsimp only at hSu); go_simp; (try with_reducible rfl))
          (try simp only [Act.put, List.setIfInBounds_toArray, List.set_cons_zero, List.set_cons_succ])
          refine Man.take1 (i := 11) (v := ?_) rfl (by kernel_rfl) (by kernel_rfl) (by kernel_rfl) (fun _ _ _ h => h) (by rfl) ?_ (by assumption) ?_
          rotate_left
          · (intro u hSu; (try dsimp only at hSu); go_simp; (try with_reducible rfl))
          (try simp only [Act.put, List.setIfInBounds_toArray, List.set_cons_zero, List.set_cons_succ])
          refine Man.take1 (i := 12) (v := ?_) rfl (by kernel_rfl) (by kernel_rfl) (by kernel_rfl) (fun _ _ _ h => h) (by rfl) ?_ (by assumption) ?_
          rotate_left
          · (intro u hSu; (try dsimp only at hSu); go_simp; (try with_reducible rfl))
          (try simp only [Act.put, List.setIfInBounds_toArray, List.set_cons_zero, List.set_cons_succ])
          refine Man.take1 (i := 13) (v := ?_) rfl (by kernel_rfl) (by kernel_rfl) (by kernel_rfl) (fun _ _ _ h => h) (by rfl) ?_ (by assumption) ?_
          rotate_left
          · (intro u hSu; (try dsimp only at hSu); go_simp; (try with_reducible rfl))
          (try simp only [Act.put, List.setIfInBounds_toArray, List.set_cons_zero, List.set_cons_succ])
          refine Man.take1 (i := 14) (v := ?_) rfl (by kernel_rfl) (by kernel_rfl) (by kernel_rfl) (fun _ _ _ h => h) (by rfl) ?_ (by assumption) ?_
          rotate_left
          · (intro u hSu; (try dsimp only at hSu); go_simp; (try with_reducible rfl))
          (try simp only [Act.put, List.setIfInBounds_toArray, List.set_cons_zero, List.set_cons_succ])
          refine Man.take1 (i := 15) (v := ?_) rfl (by kernel_rfl) (by kernel_rfl) (by kernel_rfl) (fun _ _ _ h => h) (by rfl) ?_ (by assumption) ?_
          rotate_left
          · (intro u hSu; (try dsimp only at hSu); go_simp; (try with_reducible rfl))
          (try simp only [Act.put, List.setIfInBounds_toArray, List.set_cons_zero, List.set_cons_succ])
          refine Man.take1 (i := 16) (v := .agg L8) rfl (by kernel_rfl) (by kernel_rfl) (by kernel_rfl) (fun _ _ _ h => h) (by rfl) ?_ (by assumption) ?_
          · intro u hSu
            exact exec_load_mid 100 _ rfl g (i * 257 + 1) rfl L8 _ hSu.2.2.2 Tryz.underlying100 rfl HL8.out
          (try simp only [Act.put, List.setIfInBounds_toArray, List.set_cons_zero, List.set_cons_succ])
          refine Man.one (i := 17) rfl (by kernel_rfl) (fun K hK => ?_)
          go_simp
          refine LAYR.out.mono ?_
          rintro e w5 ⟨rfl, hm5, ho5⟩
          have HM5 := hidm hm5
          have HO5 := hidm ho5
          clear hm5 ho5
          refine hK.out _ _ (HSK.out w5 HO5.out) (fun hNew => ?_)
          clear hK K hHeld hNew
          (try simp only [Act.put, List.setIfInBounds_toArray, List.set_cons_zero, List.set_cons_succ])
          refine wpAnyH_done (by kernel_rfl) ?_ _
          go_wp2_with fail
          go_roundw
          case rel => exact ⟨i + 1, by go_num, by omega, hidm (by rw [HST.out]; exact HM5.out), hidm ((HOI.out.drewN 1).trans HO5.out (fun q hq => .inl hq))⟩
          case measure => simp [intOf]; omega
      · obtain rfl : i = m := by omega
        have g1 : ¬ (i : Int) < (i : Int) := by omega
        have hrow5 := HOI.out.keeps (k := D) hDM HROWW.out
        have hRI : redoN f1' d.cs ks i = redo (undoW d.f d.cs) d.cs ks := by
          unfold redoN redo
          rw [List.take_of_length_le (by rw [HM'.out]; simp [List.length_zip]; omega), HF1.out]
        have hTlt := HA.out.lt
        have HDA := hidm (show DiskAt D { d with f := redo (undoW d.f d.cs) d.cs ks } M ao cap T wr from
          ⟨hrow5, by rw [← hRI]; exact HMI.out, own_map (own_map HA0.out.own HA0.out.map HOW.out) HMM.out HOI.out, HA.out.tD, HA.out.tM, HA.out.tC, fun q hq => by have := HOI.out.size; have := HOW.out.size; have := hTlt q hq; omega, HA.out.ok⟩)
        have HKD2 := hidm (HOI.out.keeps (k := D') (by omega) HKD.out)
        have HON := hidm (show Only T w wr from ((Only.of hbW).trans HOW.out (fun q hq => .inl (by rw [hq]; exact HA.out.tM))).trans HOI.out (fun q hq => .inl (by rw [hq]; exact HA.out.tM)))
        have c35 := HDA.out.c3
        have z35 := HDA.out.z 3
        clear hrow5 hRI
        go_wp2_with fail
        have HDE := hidm HDA.out.emptied
        have HON8 := hidm (HON.out.set (p := ⟨D, 3, none⟩) (.inl HA.out.tD) (.slice none 0 0))
        have HKD8 := hidm (show (wr.setCell ⟨D, 3, none⟩ (.slice none 0 0)).heap[D']? = some (.deferred (some [])) from by rw [heap_setCell_other _ _ _ _ (show D' ≠ D by omega)]; exact HKD2.out)
        have HB8 : Hid ((wr.setCell ⟨D, 3, none⟩ (.slice none 0 0)).cell? ⟨w.heap.size, 0, none⟩ = some (.pointer (some ⟨D, 0, none⟩))) := hidm (by
          rw [World.cell?_of_block (w := wr) (a := ⟨w.heap.size, 0, none⟩) (heap_setCell_other _ _ _ _ (show w.heap.size ≠ D by omega))]; exact cBr)
        obtain ⟨w8, hw8⟩ : ∃ w8, w8 = wr.setCell ⟨D, 3, none⟩ (.slice none 0 0) := ⟨_, rfl⟩
        rw [← hw8] at HDE HON8 HKD8 HB8 ⊢
        clear hw8 c35 z35
        have HSZ := hidm (show w.heap.size ≠ D by omega)
        have HS1 := hidm (show ∀ v, (w8.drew.setCell ⟨D, 6, none⟩ v).cell? ⟨w.heap.size, 0, none⟩ = some (.pointer (some ⟨D, 0, none⟩)) from fun v => by
          rw [World.cell?_of_block (w := w8.drew) (a := ⟨w.heap.size, 0, none⟩) (heap_setCell_other _ _ _ _ HSZ.out)]; exact HB8.out)
        have HS2 := hidm (show ∀ v, ((w8.drew.setCell ⟨D, 6, none⟩ (.bool false)).setCell ⟨D, 7, none⟩ v).cell? ⟨w.heap.size, 0, none⟩ = some (.pointer (some ⟨D, 0, none⟩)) from fun v => by
          rw [World.cell?_of_block (w := w8.drew.setCell ⟨D, 6, none⟩ (.bool false)) (a := ⟨w.heap.size, 0, none⟩) (heap_setCell_other _ _ _ _ HSZ.out)]; exact HS1.out _)
        have c6 : w8.cell? ⟨D, 6, none⟩ = some (.bool d.fu) := HDE.out.c6
        have c7 : w8.cell? ⟨D, 7, none⟩ = some (.int .i64 (d.lf : Int)) := HDE.out.c7
        have z6 := HDE.out.z 6
        have z7 := HDE.out.z 7
        refine wp_region_held_drew (S := fun u => u.cell? ⟨w.heap.size, 0, none⟩ = some (.pointer (some ⟨D, 0, none⟩))) (by kernel_rfl) HB8.out (fun hHeld => ?_)
        refine Man.take1 (i := 0) (v := ?_) rfl (by kernel_rfl) (by kernel_rfl) (by kernel_rfl) (fun _ _ _ h => h) (by rfl) ?_ (by assumption) ?_
        rotate_left
        · (intro u hSu; (try dsimp only at hSu); go_simp; (try with_reducible rfl))
        (try simp only [Act.put, List.setIfInBounds_toArray, List.set_cons_zero, List.set_cons_succ])
        refine Man.take1 (i := 1) (v := ?_) rfl (by kernel_rfl) (by kernel_rfl) (by kernel_rfl) (fun _ _ _ h => h) (by rfl) ?_ (by assumption) ?_
        rotate_left
        · (intro u hSu; (try dsimp only at hSu); go_simp; (try with_reducible rfl))
        (try simp only [Act.put, List.setIfInBounds_toArray, List.set_cons_zero, List.set_cons_succ])
        refine Man.take1 (i := 2) (v := ?_) rfl (by kernel_rfl) (by kernel_rfl) (by kernel_rfl) (fun _ _ _ h => h) (by rfl) ?_ (by assumption) ?_
        rotate_left
        · (intro u hSu; (try dsimp only at hSu); go_simp; (try with_reducible rfl))
        (try simp only [Act.put, List.setIfInBounds_toArray, List.set_cons_zero, List.set_cons_succ])
        refine Man.take1 (i := 3) (v := ?_) rfl (by kernel_rfl) (by kernel_rfl) (by kernel_rfl) (fun _ _ _ h => h) (by rfl) ?_ (by assumption) ?_
        rotate_left
        · (intro u hSu; (try dsimp only at hSu); go_simp; (try with_reducible rfl))
        (try simp only [Act.put, List.setIfInBounds_toArray, List.set_cons_zero, List.set_cons_succ])
        refine Man.one (i := 4) rfl (by kernel_rfl) (fun K hK => ?_)
        go_simp
        refine hK.out _ _ (HS1.out _) (fun hNew => ?_)
        clear hK K hHeld
        have hHeld := hNew
        clear hNew
        (try simp only [Act.put])
        refine Man.take1 (i := 5) (v := ?_) rfl (by kernel_rfl) (by kernel_rfl) (by kernel_rfl) (fun _ _ _ h => h) (by rfl) ?_ (by assumption) ?_
        rotate_left
        · (intro u hSu; (try dsimp only at hSu); go_simp; (try with_reducible rfl))
        (try simp only [Act.put, List.setIfInBounds_toArray, List.set_cons_zero, List.set_cons_succ])
        refine Man.take1 (i := 6) (v := ?_) rfl (by kernel_rfl) (by kernel_rfl) (by kernel_rfl) (fun _ _ _ h => h) (by rfl) ?_ (by assumption) ?_
        rotate_left
        · (intro u hSu; (try dsimp only at hSu); go_simp; (try with_reducible rfl))
        (try simp only [Act.put, List.setIfInBounds_toArray, List.set_cons_zero, List.set_cons_succ])
        refine Man.one (i := 7) rfl (by kernel_rfl) (fun K hK => ?_)
        go_simp
        refine hK.out _ _ (HS2.out _) (fun hNew => ?_)
        clear hK K hHeld hNew
        (try simp only [Act.put])
        refine wpAnyH_done (by kernel_rfl) ?_ _
        clear c6 c7 z6 z7
        go_wp2_with fail
        obtain ⟨o1, o2, o3, o4, o5, o6⟩ := HDE.out.ok
        have HD6 := hidm ((HDE.out.later ((Below.refl _ _).drew)).put 6 (.bool false) { d with f := redo (undoW d.f d.cs) d.cs ks, cs := [], fu := false } rfl rfl rfl ⟨o1, o2, o3, o4, o5, o6⟩)
        have HD7 := hidm (HD6.out.put 7 (.int .i64 0) (d.crash ks) rfl rfl rfl ⟨o1, o2, o3, o4, o5, Nat.zero_le _⟩)
        have HK7 := hidm (show ((w8.drew.setCell ⟨D, 6, none⟩ (.bool false)).setCell ⟨D, 7, none⟩ (.int .i64 0)).heap[D']? = some (.deferred (some [])) from by
          rw [heap_setCell_other _ _ _ _ (show D' ≠ D by omega), heap_setCell_other _ _ _ _ (show D' ≠ D by omega)]; exact HKD8.out)
        have HN7 := hidm (((HON8.out.drewN 1).set (p := ⟨D, 6, none⟩) (.inl HA.out.tD) (.bool false)).set (p := ⟨D, 7, none⟩) (.inl HA.out.tD) (.int .i64 0))
        show bodyPostM _ _ _ _ _ Exit.ret _ _
        refine ⟨by simp, .inl ⟨_, _, rfl, run_takeDeferred HK7.out, ?_⟩⟩
        refine ⟨_, results_tmp rfl _ _ _, rfl, ⟨M, none, 0, HD7.out.keep (T' := fun q => q = D') ?_ (fun q hq e => by have := hTlt q hq; omega)⟩, ?_⟩
        · exact (Only.refl _ _).grown (grownBy_putObj' _ D' _) (fun q e => by cases e; exact .inl rfl)
        · exact HN7.out.grown (grownBy_putObj' _ D' _) (fun q e => by cases e; exact .inr (by omega))
end Dsk
end Go.Proofs.YtmccnlffikegfaaGreatDoor
