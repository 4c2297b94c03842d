/- Pieces in the program's package period: whole, rightPiece, Right. Condition: no more than a million values a row, a thousand pieces. -/
import Derived.Test.YtoacombaddknfaaOe2
namespace Go.Proofs.Ytoacombaddknfaa
open Go.RowKit
namespace Prd
open Spn (Sp hide At below_alloc Right)
open Cod (V RowAt S)
/-- A piece as a value. -/
def Pm.agg (x : Pm) : Value := .agg #[.int .i64 x.s.1, .int .i64 x.s.2, .slice x.ro x.r.length x.rc]
theorem whole_any (x : Pm) (w : World) :
    Calls Try.prog 39 #[.agg #[.int .i64 x.s.1, .int .i64 x.s.2, .slice x.ro x.r.length x.rc]] w fun e w' => ∃ v, e = .returned v ∧ Spn.SpansAt [x.s] v w' ∧ Below w.heap.size w w' := by
  have h := Spn.one_at (w.alloc (.cells #[.int .i64 x.s.1, .int .i64 x.s.2, .slice x.ro x.r.length x.rc] 56)) x.s
  rw [show (w.alloc (.cells #[.int .i64 x.s.1, .int .i64 x.s.2, .slice x.ro x.r.length x.rc] 56)).heap.size = w.heap.size + 1 from by simp] at h
  have HO := hide h
  clear h
  go_enter Try.func39, Try.ntmps39
  go_wp2_with fail
  go_ret
  exact ⟨.slice (some ⟨w.heap.size + 1, 0, none⟩) 1 1, rfl, HO.out, (below_alloc _ _).trans ((below_alloc _ _).mono (by simp))⟩
theorem wrong_any (x : V) (w : World) :
    Calls Try.prog 53 #[.agg #[.int .i64 x.k, .int .i64 x.n, .int .u64 x.b, .string (S x.s)]] w fun e w' => e = .returned (.bool (!x.right)) ∧ Below w.heap.size w w' := by
  obtain ⟨F, hF⟩ : ∃ F, F = x.right := ⟨_, rfl⟩
  have C1 := hide (fun w => Val.right_any x.k x.n x.b (S x.s) w)
  rw [show Val.rightB x.k x.n x.b (S x.s) = F from hF.symm] at C1
  rw [← hF]
  clear hF
  go_enter Try.func53, Try.ntmps53
  go_wp2_with fail
  refine (C1.out _).mono ?_
  rintro e w1 ⟨rfl, hb⟩
  have HB := hide ((below_alloc w (.cells #[.int .i64 x.k, .int .i64 x.n, .int .u64 x.b, .string (S x.s)] 64)).trans (hb.mono (by simp)))
  clear hb
  go_wp2_with fail
  go_ret
  exact ⟨rfl, HB.out⟩
theorem any_take_succ {cs : List V} {p : V → Bool} {i : Nat} (hi : i < cs.length) : (cs.take (i + 1)).any p = ((cs.take i).any p || p cs[i]) := by
  rw [List.take_succ_eq_append_getElem hi, List.any_append]; simp
theorem any_at {cs : List V} {p : V → Bool} {i : Nat} (hi : i < cs.length) (h : p cs[i] = true) : cs.any p = true := List.any_eq_true.2 ⟨_, List.getElem_mem hi, h⟩
theorem wrong_is {c : V} {b : Bool} (h : (!c.right) = b) (w : World) : Calls Try.prog 53 #[.agg #[.int .i64 c.k, .int .i64 c.n, .int .u64 c.b, .string (S c.s)]] w fun e w' => e = .returned (.bool b) ∧ Below w.heap.size w w' := h ▸ wrong_any c w
def IdxP (b : Bool) (w : World) (e : Ending) (w' : World) : Prop := ∃ r : Int, e = .returned (.int .i64 r) ∧ decide (0 ≤ r) = b ∧ Below w.heap.size w w'
set_option maxHeartbeats 1000000 in
set_option maxRecDepth 100000 in
theorem idx_wrong (cs : List V) (so : Option Addr) (sc : Nat) (w : World) (h : RowAt cs (.slice so cs.length sc) w) (hl : cs.length ≤ 1000000) :
    Calls Try.prog 66 #[.slice so cs.length sc, .func (.func 53) #[] #[]] w fun e w' => IdxP (cs.any (fun c => !c.right)) w e w' := by
  have H := hide h
  clear h
  obtain ⟨n, hn⟩ : ∃ n, n = cs.length := ⟨_, rfl⟩
  obtain ⟨F, hF⟩ : ∃ F, F = cs.any (fun c => !c.right) := ⟨_, rfl⟩
  rw [← hF]
  rw [← hn] at hl ⊢
  have HN := hide hn
  have HF := hide hF
  clear hn hF
  go_enter Try.func66, Try.ntmps66
  go_wp2_with fail
  go_loopw [8] (fun v wr => ∃ i : Nat, i ≤ n ∧ v = .int .i64 i ∧ Hid (Below w.heap.size w wr) ∧ Hid ((cs.take i).any (fun c => !c.right) = false)) (fun v _ => n - (intOf v).toNat)
  case atStart => exact ⟨0, by omega, rfl, hide (Below.refl _ _), hide (by simp)⟩
  case round =>
    rename World => wr
    obtain ⟨i, hi, rfl, HB, HP⟩ := hrel
    rcases Nat.lt_or_ge i n with hlt | hge
    · have hia : i < cs.length := by have := HN.out; omega
      obtain ⟨b1, o1, c1, he1, _, q0, q1, q2, q3⟩ := (H.out.later HB.out).at i hia
      simp only [Value.slice.injEq] at he1
      obtain ⟨rfl, _, rfl⟩ := he1
      obtain ⟨x, hx⟩ : ∃ x, x = cs[i] := ⟨_, rfl⟩
      rw [← hx] at q0 q1 q2 q3
      have HX := hide hx
      clear hx
      rcases hp : (fun c : V => !c.right) x with _ | _
      · have HP2 := hide (show (cs.take (i + 1)).any (fun c => !c.right) = false from by rw [any_take_succ hia, HP.out, ← HX.out, Bool.false_or]; exact hp)
        have HC := hide hp
        clear hp
        go_wp2_with (go_at_call 53; refine (wrong_is HC.out _).mono ?_; rintro e w1 ⟨rfl, hb1⟩)
        have HB2 := hide (HB.out.trans (hb1.mono HB.out.size))
        clear hb1
        go_wp2_with fail
        go_roundw
        case rel => exact ⟨i + 1, by omega, by go_num, HB2, HP2⟩
        case measure => simp [intOf]; omega
      · have HFt := hide (show F = true from by rw [HF.out]; exact any_at hia (by rw [← HX.out]; exact hp))
        have HC := hide hp
        clear hp
        go_wp2_with (go_at_call 53; refine (wrong_is HC.out _).mono ?_; rintro e w1 ⟨rfl, hb1⟩)
        have HB2 := hide (HB.out.trans (hb1.mono HB.out.size))
        clear hb1
        go_wp2_with fail
        go_ret
        exact ⟨_, rfl, by rw [HFt.out]; simp, HB2.out⟩
    · obtain rfl : i = n := by omega
      have HFf := hide (show F = false from by rw [HF.out]; have := HP.out; rwa [HN.out, List.take_length] at this)
      go_wp2_with fail
      go_ret
      exact ⟨_, rfl, by rw [HFf.out]; rfl, HB.out⟩
theorem some_wrong (cs : List V) (so : Option Addr) (sc : Nat) (w : World) (h : RowAt cs (.slice so cs.length sc) w) (hl : cs.length ≤ 1000000) :
    Calls Try.prog 55 #[.slice so cs.length sc, .func (.func 53) #[] #[]] w fun e w' => e = .returned (.bool (!rowB cs)) ∧ Below w.heap.size w w' := by
  have I := idx_wrong cs so sc w h hl
  have e9 : (!rowB cs) = cs.any (fun c => !c.right) := by
    unfold rowB
    induction cs with
    | nil => rfl
    | cons a l ih => simp only [List.all_cons, List.any_cons, Bool.not_and]; congr 1; rw [← List.not_all_eq_any_not]
  rw [e9]
  obtain ⟨F, hF⟩ : ∃ F, F = cs.any (fun c => !c.right) := ⟨_, rfl⟩
  rw [← hF] at I ⊢
  clear hF h e9
  obtain ⟨n, hn⟩ : ∃ n, n = cs.length := ⟨_, rfl⟩
  rw [← hn] at I ⊢
  clear hn
  go_enter Try.func55, Try.ntmps55
  go_wp2_with fail
  refine I.mono ?_
  rintro e w1 ⟨r, rfl, hr, hb⟩
  have HB := hide hb
  have HR := hide hr
  clear hb hr I
  go_wp2_with fail
  go_ret
  exact ⟨Spn.ret_bool (by rw [← HR.out]), HB.out⟩
/-- A piece's cells lie in block k. -/
structure Bx3 (x : Pm) (k : Nat) (w : World) : Prop where
  c0 : w.cell? ⟨k, 0, none⟩ = some (.int .i64 x.s.1)
  c1 : w.cell? ⟨k, 1, none⟩ = some (.int .i64 x.s.2)
  c2 : w.cell? ⟨k, 2, none⟩ = some (.slice x.ro x.r.length x.rc)
  lt : k < w.heap.size
theorem Bx3.later {x : Pm} {k n : Nat} {w w' : World} (h : Bx3 x k w) (hb : Below n w w') (hk : k < n) : Bx3 x k w' :=
  ⟨by rw [hb.cell (p := ⟨k, 0, none⟩) hk]; exact h.c0, by rw [hb.cell (p := ⟨k, 1, none⟩) hk]; exact h.c1, by rw [hb.cell (p := ⟨k, 2, none⟩) hk]; exact h.c2, Nat.lt_of_lt_of_le h.lt hb.size⟩
theorem Bx3.new (w : World) (x : Pm) (T : TypeId) : Bx3 x w.heap.size (w.alloc (.cells #[.int .i64 x.s.1, .int .i64 x.s.2, .slice x.ro x.r.length x.rc] T)) := ⟨by go_keep, by go_keep, by go_keep, by simp⟩
theorem Bx3.kept {x : Pm} {k : Nat} {w w' : World} (h : Bx3 x k w) (hs : w.heap.size ≤ w'.heap.size) (e : w'.heap[k]? = w.heap[k]?) : Bx3 x k w' :=
  ⟨by rw [World.cell?_of_block (a := ⟨k, 0, none⟩) e]; exact h.c0, by rw [World.cell?_of_block (a := ⟨k, 1, none⟩) e]; exact h.c1, by rw [World.cell?_of_block (a := ⟨k, 2, none⟩) e]; exact h.c2, Nat.lt_of_lt_of_le h.lt hs⟩
/-- Can a piece be? -/
def okB (x : Pm) : Bool := decide (Right x.s) && rowB x.r
theorem okB_iff (x : Pm) : okB x = true ↔ Right x.s ∧ Good x.r := by unfold okB Good; simp
set_option maxHeartbeats 2000000 in
set_option maxRecDepth 100000 in
theorem rpiece_any (x : Pm) (w : World) (h : RowAt x.r x.sl w) (hl : x.r.length ≤ 1000000) :
    Calls Try.prog 35 #[.agg #[.int .i64 x.s.1, .int .i64 x.s.2, .slice x.ro x.r.length x.rc]] w fun e w' => e = .returned (.bool (okB x)) ∧ Below w.heap.size w w' := by
  have HR := hide h
  have HB0 := hide (below_alloc w (.cells #[.int .i64 x.s.1, .int .i64 x.s.2, .slice x.ro x.r.length x.rc] 56))
  have HX0 := hide (Bx3.new w x 56)
  have hlt0 : w.heap.size < (w.alloc (.cells #[.int .i64 x.s.1, .int .i64 x.s.2, .slice x.ro x.r.length x.rc] 56)).heap.size := by simp
  have HLT0 := hide hlt0
  clear hlt0
  by_cases hs : Right x.s
  · have C1 := hide (fun w => Spn.right_yes (a := x.s.1) (b := x.s.2) hs w)
    have HE := hide (show okB x = rowB x.r from by unfold okB; rw [decide_eq_true hs]; rfl)
    have CW := hide (fun (u : World) (hu : Below w.heap.size w u) => some_wrong x.r x.ro x.rc u (h.later hu) hl)
    clear hs h
    obtain ⟨F, hF⟩ : ∃ F, F = rowB x.r := ⟨_, rfl⟩
    rw [← hF] at HE CW
    clear hF
    go_enter Try.func35, Try.ntmps35
    go_wp2_with fail
    refine (C1.out _).mono ?_
    rintro e w1 ⟨rfl, hb⟩
    have HX1 := hide (HX0.out.later hb HLT0.out)
    have HB1 := hide (HB0.out.trans (hb.mono HB0.out.size))
    obtain ⟨k0, k1, k2, _⟩ := HX1.out
    clear hb
    go_wp2_with fail
    refine (CW.out _ HB1.out).mono ?_
    rintro e w2 ⟨rfl, hb⟩
    have HB2 := hide (HB1.out.trans (hb.mono HB1.out.size))
    clear hb k0 k1 k2
    go_wp2_with fail
    go_ret
    exact ⟨Spn.ret_bool (by rw [HE.out]), HB2.out⟩
  · have C1 := hide (fun w => Spn.right_no (a := x.s.1) (b := x.s.2) hs w)
    have HE := hide (show okB x = false from by unfold okB; rw [decide_eq_false hs]; rfl)
    clear hs h
    go_enter Try.func35, Try.ntmps35
    go_wp2_with fail
    refine (C1.out _).mono ?_
    rintro e w1 ⟨rfl, hb⟩
    have HX1 := hide (HX0.out.later hb HLT0.out)
    have HB1 := hide (HB0.out.trans (hb.mono HB0.out.size))
    obtain ⟨k0, k1, k2, _⟩ := HX1.out
    clear hb
    go_wp2_with fail
    go_ret
    exact ⟨Spn.ret_bool HE.out.symm, HB1.out⟩
theorem rpiece_is {x : Pm} {b : Bool} (he : okB x = b) (w : World) (h : RowAt x.r x.sl w) (hl : x.r.length ≤ 1000000) :
    Calls Try.prog 35 #[.agg #[.int .i64 x.s.1, .int .i64 x.s.2, .slice x.ro x.r.length x.rc]] w fun e w' => e = .returned (.bool b) ∧ Below w.heap.size w w' := he ▸ rpiece_any x w h hl
/-- Where the next one may begin. -/
def freeAt (l : List Pm) (i : Nat) : Int := match i with
  | 0 => 0
  | j + 1 => match l[j]? with
    | some x => x.s.2
    | none => 0
theorem freeAt_pos {l : List Pm} {i : Nat} (h0 : 0 < i) (hi : i - 1 < l.length) : freeAt l i = (l[i - 1]).s.2 := by
  obtain ⟨j, rfl⟩ : ∃ j, i = j + 1 := ⟨i - 1, by omega⟩
  have hj : j < l.length := by simpa using hi
  simp [freeAt, List.getElem?_eq_getElem hj]
set_option maxHeartbeats 8000000 in
set_option maxRecDepth 100000 in
theorem right_any {l : List Pm} {sl : Value} {w : World} (h : PcsAt l sl w) (hr : Rows3 l w) (hs : Small l) :
    Calls Try.prog 15 #[sl] w fun e w' => e = .returned (.bool (decide (Ok Good (pcs l)))) ∧ Below w.heap.size w w' := by
  obtain ⟨so, sc, rfl, _, _⟩ := h.form
  have HA := hide h
  have HR := hide hr
  have HS := hide hs
  obtain ⟨n, hn⟩ : ∃ n, n = l.length := ⟨_, rfl⟩
  have hl : n ≤ 1000 := by rw [hn]; exact hs.n
  rw [← hn]
  have HN := hide hn
  clear h hn hr hs
  go_enter Try.func15, Try.ntmps15
  go_wp2_with fail
  go_loopw [3, 8] (fun fv ii wr => ∃ i : Nat, ii = .int .i64 i ∧ i ≤ n ∧ fv = .int .i64 (freeAt l i) ∧ Hid (Below w.heap.size w wr) ∧ Hid (∀ (j : Nat) (hj : j < l.length), j < i → (Right (l[j]).s ∧ Good (l[j]).r) ∧ (0 < j → (l[j - 1]'(by omega)).s.2 ≤ (l[j]).s.1))) (fun _ ii _ => (n - (intOf ii).toNat))
  case atStart => exact ⟨0, rfl, by omega, rfl, hide (Below.refl _ _), hide (fun j hj h0 => by omega)⟩
  case round =>
    rename World => wr
    obtain ⟨i, rfl, hi, rfl, HB, HF⟩ := hrel
    rcases Nat.lt_or_ge i n with hlt | hge
    · have g1 : (i : Int) < (n : Int) := by omega
      have hil : i < l.length := by rw [← HN.out]; exact hlt
      obtain ⟨b0, off, cap, he, hbw, k0, k1, k2⟩ := (HA.out.later HB.out (Nat.le_refl _)).at i hil
      rw [← HN.out] at he
      simp only [Value.slice.injEq] at he
      obtain ⟨rfl, _, rfl⟩ := he
      obtain ⟨x, hx⟩ : ∃ x, x = l[i] := ⟨_, rfl⟩
      have HX := hide hx
      have HRX := hide (show ∀ u : World, Below w.heap.size w u → RowAt x.r x.sl u from fun u hu => by rw [HX.out]; exact (HR.out.later hu) _ (List.getElem_mem hil))
      have HXL := hide (show x.r.length ≤ 1000000 from by rw [HX.out]; exact HS.out.r _ (List.getElem_mem hil))
      have HFA := hide (show freeAt l (i + 1) = x.s.2 from by rw [freeAt_pos (by omega) (by simpa using hil), HX.out]; simp)
      rw [← hx] at k0 k1 k2
      clear hx hbw
      have HNO := hide (show ¬ ((Right x.s ∧ Good x.r) ∧ freeAt l i ≤ x.s.1) → decide (Ok Good (pcs l)) = false from fun hno => decide_eq_false (fun hok => hno (by
        have h9 := ok_index.1 hok i (by rw [pcs_len]; exact hil)
        rw [pcs_at l i hil] at h9
        rw [HX.out]
        refine ⟨h9.1, ?_⟩
        rcases Nat.eq_zero_or_pos i with h0 | h0
        · subst h0; exact h9.1.1.1
        · have := h9.2 h0
          rw [pcs_at l (i - 1) (by omega)] at this
          rw [freeAt_pos h0 (by omega)]
          exact this)))
      have HYES := hide (show ((Right x.s ∧ Good x.r) ∧ freeAt l i ≤ x.s.1) → ∀ (j : Nat) (hj : j < l.length), j < i + 1 → (Right (l[j]).s ∧ Good (l[j]).r) ∧ (0 < j → (l[j - 1]'(by omega)).s.2 ≤ (l[j]).s.1) from fun hy j hj hji => by
        rcases Nat.lt_or_ge j i with h9 | h9
        · exact HF.out j hj h9
        · obtain rfl : j = i := by omega
          rw [HX.out] at hy
          refine ⟨hy.1, fun h0 => ?_⟩
          rw [← freeAt_pos h0 (by omega)]
          exact hy.2)
      have HBA := hide (HB.out.trans ((below_alloc wr (.cells #[.int .i64 x.s.1, .int .i64 x.s.2, .slice x.ro x.r.length x.rc] 56)).mono HB.out.size))
      have HXA := hide (Bx3.new wr x 56)
      have hltA : wr.heap.size < (wr.alloc (.cells #[.int .i64 x.s.1, .int .i64 x.s.2, .slice x.ro x.r.length x.rc] 56)).heap.size := by simp
      have HLTA := hide hltA
      obtain ⟨fr, hfr⟩ : ∃ fr, fr = freeAt l i := ⟨_, rfl⟩
      rw [← hfr] at HNO HYES ⊢
      have HFR := hide hfr
      clear hltA hfr
      cases hok : okB x with
      | true =>
        have HOK := hide hok
        have HPAIR := hide ((okB_iff x).1 hok)
        clear hok
        by_cases hup : fr ≤ x.s.1
        · have g3 : ¬ x.s.1 < fr := by omega
          have HF2 := hide (HYES.out ⟨HPAIR.out, hup⟩)
          clear hup
          go_wp2_with fail
          refine (rpiece_is HOK.out _ (HRX.out _ HBA.out) HXL.out).mono ?_
          rintro e w1 ⟨rfl, hb⟩
          have HX1 := hide (HXA.out.later hb HLTA.out)
          have HB1 := hide (HBA.out.trans (hb.mono HBA.out.size))
          obtain ⟨m0, m1, _, _⟩ := HX1.out
          clear hb
          go_wp2_with fail
          go_roundw
          case rel => exact ⟨i + 1, by go_num, by omega, by rw [HFA.out], HB1, HF2⟩
          case measure => simp [intOf]; omega
        · have g3 : x.s.1 < fr := by omega
          have HC := hide (HNO.out (fun h9 => hup h9.2))
          clear hup
          go_wp2_with fail
          refine (rpiece_is HOK.out _ (HRX.out _ HBA.out) HXL.out).mono ?_
          rintro e w1 ⟨rfl, hb⟩
          have HX1 := hide (HXA.out.later hb HLTA.out)
          have HB1 := hide (HBA.out.trans (hb.mono HBA.out.size))
          obtain ⟨m0, m1, _, _⟩ := HX1.out
          clear hb
          go_wp2_with fail
          go_ret
          exact ⟨Spn.ret_bool HC.out.symm, HB1.out⟩
      | false =>
        have HOK := hide hok
        have HC := hide (HNO.out (fun h9 => by rw [(okB_iff x).2 h9.1] at hok; cases hok))
        clear hok
        go_wp2_with fail
        refine (rpiece_is HOK.out _ (HRX.out _ HBA.out) HXL.out).mono ?_
        rintro e w1 ⟨rfl, hb⟩
        have HX1 := hide (HXA.out.later hb HLTA.out)
        have HB1 := hide (HBA.out.trans (hb.mono HBA.out.size))
        obtain ⟨m0, m1, _, _⟩ := HX1.out
        clear hb
        go_wp2_with fail
        go_ret
        exact ⟨Spn.ret_bool HC.out.symm, HB1.out⟩
    · obtain rfl : i = n := by omega
      have HOK := hide (show decide (Ok Good (pcs l)) = true from decide_eq_true (ok_index.2 (fun j hj => by
        have hj2 : j < l.length := by rw [pcs_len] at hj; exact hj
        have h9 := HF.out j hj2 (by rw [HN.out]; exact hj2)
        rw [pcs_at l j hj2]
        refine ⟨h9.1, fun h0 => ?_⟩
        rw [pcs_at l (j - 1) (by omega)]
        exact h9.2 h0)))
      go_wp2_with fail
      go_ret
      exact ⟨Spn.ret_bool HOK.out.symm, HB.out⟩
end Prd
end Go.Proofs.Ytoacombaddknfaa
