/- The program's without, Diff. Condition: no more than a million values a row, a thousand pieces. -/
import Derived.Test.YtoacombaddknfaaR6
import Derived.Test.YtoacombaddknfaaOl
namespace Go.Proofs.Ytoacombaddknfaa
open Go.RowKit
namespace Prd
open Spn (Sp hide At below_alloc Right)
open Cod (V RowAt S)
/-- The span of a piece that is not among these. -/
def apartS (l : List Pm) (x : Pm) : List Sp := if x.pc ∈ pcs l then [] else [x.s]
theorem toldP_goes (l l' : List Pm) : toldP l (apartS l') = goes (pcs l) (pcs l') := by
  unfold toldP goes apartS
  induction l with
  | nil => rfl
  | cons x l ih =>
    rw [List.flatMap_cons, ih, show pcs (x :: l) = x.pc :: pcs l from rfl]
    by_cases h : x.pc ∈ pcs l'
    · rw [if_pos h, List.filter_cons_of_neg (by simp [h])]; rfl
    · rw [if_neg h, List.filter_cons_of_pos (by simp [h])]; rfl
set_option maxHeartbeats 2000000 in
set_option maxRecDepth 100000 in
theorem withq_any (l : List Pm) (sl : Value) (k0 : Nat) (x : Pm) (u : World) (hc : u.cell? ⟨k0, 0, none⟩ = some sl) (hlt : k0 < u.heap.size) (h : PcsAt l sl u) (hr : Rows3 l u) (hs : Small l) (hok : Ok Good (pcs l)) (hx : RowAt x.r x.sl u) (hxl : x.r.length ≤ 1000000) :
    Calls Try.prog 61 #[.agg #[.int .i64 x.s.1, .int .i64 x.s.2, .slice x.ro x.r.length x.rc], .pointer (some ⟨k0, 0, none⟩)] u fun e u' => ∃ v, e = .returned v ∧ Spn.Row u.heap.size (apartS l x) v u' ∧ Below u.heap.size u u' := by
  have hb0 := below_alloc u (.cells #[.int .i64 x.s.1, .int .i64 x.s.2, .slice x.ro x.r.length x.rc] 56)
  have HB0 := hide hb0
  have HX0 := hide (Bx3.new u x 56)
  have hlt0 : u.heap.size < (u.alloc (.cells #[.int .i64 x.s.1, .int .i64 x.s.2, .slice x.ro x.r.length x.rc] 56)).heap.size := by simp
  have HLT0 := hide hlt0
  have C1 := hide (mamong_any (h.later hb0 (Nat.le_refl _)) (hr.later hb0) hs hok x (hx.later hb0) hxl)
  by_cases hin : x.pc ∈ pcs l
  · rw [decide_eq_true hin] at C1
    have HE := hide (show apartS l x = [] from if_pos hin)
    rw [HE.out]
    clear h hr hs hok hx hb0 hlt0 hin
    go_enter Try.func61, Try.ntmps61
    go_wp2_with fail
    refine C1.out.mono ?_
    rintro e w1 ⟨rfl, hb⟩
    have HB1 := hide (HB0.out.trans (hb.mono HB0.out.size))
    clear hb C1
    go_wp2_with fail
    go_ret
    exact ⟨_, rfl, World.ownsRow_nil _ _ _ _, HB1.out⟩
  · rw [decide_eq_false hin] at C1
    have HE := hide (show apartS l x = [x.s] from if_neg hin)
    rw [HE.out]
    clear h hr hs hok hx hb0 hlt0 hin
    go_enter Try.func61, Try.ntmps61
    go_wp2_with fail
    refine C1.out.mono ?_
    rintro e w1 ⟨rfl, hb⟩
    have HX1 := hide (HX0.out.later hb HLT0.out)
    have HB1 := hide (HB0.out.trans (hb.mono HB0.out.size))
    obtain ⟨m0, m1, m2, _⟩ := HX1.out
    clear hb C1
    go_wp2_with fail
    refine (wholer_any x _).mono ?_
    rintro e w2 ⟨v, rfl, hrow, hb⟩
    have HR := hide (hrow.mono (base' := u.heap.size) HB1.out.size)
    have HB2 := hide (HB1.out.trans (hb.mono HB1.out.size))
    clear hrow hb m0 m1 m2
    go_wp2_with fail
    go_ret
    exact ⟨v, rfl, HR.out, HB2.out⟩
set_option maxHeartbeats 2000000 in
set_option maxRecDepth 100000 in
theorem without_any {l l' : List Pm} {sl sl' : Value} {w : World} (h : PcsAt l sl w) (hr : Rows3 l w) (hs : Small l) (h' : PcsAt l' sl' w) (hr' : Rows3 l' w) (hs' : Small l') (hok' : Ok Good (pcs l')) :
    Calls Try.prog 47 #[sl, sl'] w fun e w' => ∃ (m : List Pm) (v : Value), e = .returned v ∧ Owns w.heap.size m v w' ∧ pcs m = goes (pcs l) (pcs l') ∧ Below w.heap.size w w' := by
  have hb0 := below_alloc w (.cells #[sl'] 22)
  have HB0 := hide hb0
  have C1 := hide (told_without (apartS l') w.heap.size (h.later hb0 (Nat.le_refl _)) (hr.later hb0) hs (fun x _ => by unfold apartS; split <;> simp) (fun x hx u hu => by
    have hbu := hb0.trans (hu.mono hb0.size)
    have hc : u.cell? ⟨w.heap.size, 0, none⟩ = some sl' := by
      rw [hu.cell (p := ⟨w.heap.size, 0, none⟩) (by simp)]
      go_keep
    exact withq_any l' sl' w.heap.size x u hc (Nat.lt_of_lt_of_le (by simp) hu.size) (h'.later hbu (Nat.le_refl _)) (hr'.later hbu) hs' hok' ((hr x hx).later hbu) (hs.r x hx)))
  obtain ⟨so, sc, rfl, _, _⟩ := h.form
  obtain ⟨so', sc', rfl, _, _⟩ := h'.form
  clear h hr hs h' hr' hs' hok' hb0
  go_enter Try.func47, Try.ntmps47
  go_wp2_with fail
  refine C1.out.mono ?_
  rintro e w1 ⟨m, v, rfl, ho, hp, hb⟩
  have HO1 := hide (show Owns w.heap.size m v w1 from ho.mono HB0.out.size)
  have HB1 := hide (HB0.out.trans (hb.mono HB0.out.size))
  have HP1 := hide (show pcs m = goes (pcs l) (pcs l') from by rw [hp, toldP_goes])
  clear ho hp hb C1
  go_wp2_with fail
  go_ret
  exact ⟨m, v, rfl, HO1.out, HP1.out, HB1.out⟩
/-- What Diff comes to. -/
def DiffP (l l' : List Pm) (w : World) (e : Ending) (w' : World) : Prop := ∃ (m m' : List Pm) (u u' : Value), e = .returned (.tuple #[u, u']) ∧ PcsAt m u w' ∧ PcsAt m' u' w' ∧ Rows3 m w' ∧ Rows3 m' w' ∧ pcs m = goesR (pcs l) (pcs l') ∧ pcs m' = goesR (pcs l') (pcs l) ∧ Below w.heap.size w w'
set_option maxHeartbeats 4000000 in
set_option maxRecDepth 100000 in
theorem diffp_any {l l' : List Pm} {sl sl' : Value} {w : World} (h : PcsAt l sl w) (hr : Rows3 l w) (hs : Small l) (h' : PcsAt l' sl' w) (hr' : Rows3 l' w) (hs' : Small l') :
    Calls Try.prog 25 #[sl, sl'] w fun e w' => DiffP l l' w e w' := by
  have C1 := hide (right_any h hr hs)
  have C2 := hide (fun (u : World) (hu : Below w.heap.size w u) => right_any (h'.later hu (Nat.le_refl _)) (hr'.later hu) hs')
  obtain ⟨so, sc, rfl, _, _⟩ := h.form
  obtain ⟨so', sc', rfl, _, _⟩ := h'.form
  by_cases hok : Ok Good (pcs l)
  · rw [decide_eq_true hok] at C1
    by_cases hok' : Ok Good (pcs l')
    · rw [decide_eq_true hok'] at C2
      have HG1 := hide (show goesR (pcs l) (pcs l') = goes (pcs l) (pcs l') from if_pos ⟨hok, hok'⟩)
      have HG2 := hide (show goesR (pcs l') (pcs l) = goes (pcs l') (pcs l) from if_pos ⟨hok', hok⟩)
      have C3 := hide (fun (u : World) (hu : Below w.heap.size w u) => without_any (h.later hu (Nat.le_refl _)) (hr.later hu) hs (h'.later hu (Nat.le_refl _)) (hr'.later hu) hs' hok')
      have C4 := hide (fun (u : World) (hu : Below w.heap.size w u) => without_any (h'.later hu (Nat.le_refl _)) (hr'.later hu) hs' (h.later hu (Nat.le_refl _)) (hr.later hu) hs hok)
      clear h hr hs h' hr' hs' hok hok'
      go_enter Try.func25, Try.ntmps25
      go_wp2_with fail
      refine C1.out.mono ?_
      rintro e w1 ⟨rfl, hb⟩
      have HB1 := hide hb
      clear hb
      go_wp2_with fail
      refine (C2.out _ HB1.out).mono ?_
      rintro e w2 ⟨rfl, hb⟩
      have HB2 := hide (HB1.out.trans (hb.mono HB1.out.size))
      clear hb
      go_wp2_with fail
      refine (C3.out _ HB2.out).mono ?_
      rintro e w3 ⟨m, u, rfl, ho, hp, hb⟩
      have HB3 := hide (HB2.out.trans (hb.mono HB2.out.size))
      have HO3 := hide ho
      have HP3 := hide (hp.trans HG1.out.symm)
      clear hb ho hp
      go_wp2_with fail
      refine (C4.out _ HB3.out).mono ?_
      rintro e w4 ⟨m', u', rfl, ho, hp, hb⟩
      have HB4 := hide (HB3.out.trans (hb.mono HB3.out.size))
      have HO4 := hide ho
      have HO3b := hide (HO3.out.later hb (Nat.le_refl _))
      have HP4 := hide (hp.trans HG2.out.symm)
      clear hb ho hp
      go_wp2_with fail
      go_ret2
      exact ⟨m, m', u, u', rfl, HO3b.out.o.pieces, HO4.out.o.pieces, HO3b.out.r, HO4.out.r, HP3.out, HP4.out, HB4.out⟩
    · rw [decide_eq_false hok'] at C2
      have HG1 := hide (show goesR (pcs l) (pcs l') = [] from if_neg (fun h9 => hok' h9.2))
      have HG2 := hide (show goesR (pcs l') (pcs l) = [] from if_neg (fun h9 => hok' h9.1))
      clear h hr hs h' hr' hs' hok hok'
      go_enter Try.func25, Try.ntmps25
      go_wp2_with fail
      refine C1.out.mono ?_
      rintro e w1 ⟨rfl, hb⟩
      have HB1 := hide hb
      clear hb
      go_wp2_with fail
      refine (C2.out _ HB1.out).mono ?_
      rintro e w2 ⟨rfl, hb⟩
      have HB2 := hide (HB1.out.trans (hb.mono HB1.out.size))
      clear hb
      go_wp2_with fail
      go_ret2
      exact ⟨[], [], _, _, rfl, (Row3.nil 0 0 _).pieces, (Row3.nil 0 0 _).pieces, Rows3.nil _, Rows3.nil _, HG1.out.symm, HG2.out.symm, HB2.out⟩
  · rw [decide_eq_false hok] at C1
    have HG1 := hide (show goesR (pcs l) (pcs l') = [] from if_neg (fun h9 => hok h9.1))
    have HG2 := hide (show goesR (pcs l') (pcs l) = [] from if_neg (fun h9 => hok h9.2))
    clear h hr hs h' hr' hs' hok
    go_enter Try.func25, Try.ntmps25
    go_wp2_with fail
    refine C1.out.mono ?_
    rintro e w1 ⟨rfl, hb⟩
    have HB1 := hide hb
    clear hb
    go_wp2_with fail
    go_ret2
    exact ⟨[], [], _, _, rfl, (Row3.nil 0 0 _).pieces, (Row3.nil 0 0 _).pieces, Rows3.nil _, Rows3.nil _, HG1.out.symm, HG2.out.symm, HB1.out⟩
end Prd
end Go.Proofs.Ytoacombaddknfaa
