/- The program's At; the places that Put and At look for. Condition: no more than a million values a row, a thousand pieces. -/
import Derived.Test.YtoacombaddknfaaR4
import Derived.Test.YtoacombaddknfaaR5
import Derived.Test.YtoacombaddknfaaOk
namespace Go.Proofs.Ytoacombaddknfaa
open Go.RowKit
namespace Prd
open Spn (Sp hide At below_alloc Right Has)
open Cod (V RowAt S)
/-- Place i is the first one of which p holds. -/
def FirstAt (l : List Pm) (p : Pm → Bool) (i : Nat) : Prop := ∃ hi : i < l.length, p l[i] = true ∧ ∀ (j : Nat) (hj : j < l.length), j < i → p l[j] = false
/-- What IndexFunc comes to. -/
def IndexP (l : List Pm) (p : Pm → Bool) (w : World) (e : Ending) (w' : World) : Prop := ∃ r : Int, e = .returned (.int .i64 r) ∧ ((r = -1 ∧ ∀ x, x ∈ l → p x = false) ∨ ∃ i : Nat, r = (i : Int) ∧ FirstAt l p i) ∧ Below w.heap.size w w'
set_option maxHeartbeats 1000000 in
theorem putq_any (x : Pm) (a b : Int) (k0 : Nat) (u : World) (h : At (a, b) k0 u) :
    Calls Try.prog 40 #[.agg #[.int .i64 x.s.1, .int .i64 x.s.2, .slice x.ro x.r.length x.rc], .pointer (some ⟨k0, 0, none⟩)] u fun e u' => e = .returned (.bool (decide (b ≤ x.s.1))) ∧ Below u.heap.size u u' := by
  have HB := hide (below_alloc u (.cells #[.int .i64 x.s.1, .int .i64 x.s.2, .slice x.ro x.r.length x.rc] 56))
  obtain ⟨c0, c1, _, _, hlt⟩ := h
  by_cases hle : b ≤ x.s.1
  · rw [decide_eq_true hle]
    go_enter Try.func40, Try.ntmps40
    go_wp2_with fail
    go_ret
    exact ⟨Spn.ret_bool (by simp), HB.out⟩
  · rw [decide_eq_false hle]
    go_enter Try.func40, Try.ntmps40
    go_wp2_with fail
    go_ret
    exact ⟨Spn.ret_bool (by simp), HB.out⟩
set_option maxHeartbeats 1000000 in
theorem atq_any (x : Pm) (t : Int) (k0 : Nat) (u : World) (h : u.cell? ⟨k0, 0, none⟩ = some (.int .i64 t)) (hlt : k0 < u.heap.size) :
    Calls Try.prog 32 #[.agg #[.int .i64 x.s.1, .int .i64 x.s.2, .slice x.ro x.r.length x.rc], .pointer (some ⟨k0, 0, none⟩)] u fun e u' => e = .returned (.bool (decide (Has x.s t))) ∧ Below u.heap.size u u' := by
  have HB := hide (below_alloc u (.cells #[.int .i64 x.s.1, .int .i64 x.s.2, .slice x.ro x.r.length x.rc] 56))
  have C1 := hide (fun w => Spn.has_any x.s.1 x.s.2 t w)
  obtain ⟨F, hF⟩ : ∃ F, F = decide (Has x.s t) := ⟨_, rfl⟩
  rw [show decide (Has (x.s.1, x.s.2) t) = F from hF.symm] at C1
  rw [← hF]
  clear hF
  go_enter Try.func32, Try.ntmps32
  go_wp2_with fail
  refine (C1.out _).mono ?_
  rintro e w1 ⟨rfl, hb⟩
  have HB1 := hide (HB.out.trans (hb.mono HB.out.size))
  clear hb
  go_wp2_with fail
  go_ret
  exact ⟨rfl, HB1.out⟩
set_option maxHeartbeats 4000000 in
set_option maxRecDepth 100000 in
theorem idx_put {l : List Pm} {sl : Value} {w : World} (p : Pm → Bool) (k0 : Nat) (h : PcsAt l sl w) (hl9 : l.length ≤ 3000)
    (hK : ∀ x, x ∈ l → ∀ u : World, Below w.heap.size w u → Calls Try.prog 40 #[.agg #[.int .i64 x.s.1, .int .i64 x.s.2, .slice x.ro x.r.length x.rc], .pointer (some ⟨k0, 0, none⟩)] u fun e u' => e = .returned (.bool (p x)) ∧ Below u.heap.size u u') :
    Calls Try.prog 31 #[sl, .func (.func 40) #[] #[.pointer (some ⟨k0, 0, none⟩)]] w fun e w' => IndexP l p w e w' := by
  obtain ⟨so, sc, rfl, _, _⟩ := h.form
  have HA := hide h
  have HK := hide hK
  obtain ⟨n, hn⟩ : ∃ n, n = l.length := ⟨_, rfl⟩
  rw [← hn] at hl9 ⊢
  have HN := hide hn
  clear h hn hK
  go_enter Try.func31, Try.ntmps31
  go_wp2_with fail
  go_loopw [8] (fun v wr => ∃ i : Nat, i ≤ n ∧ v = .int .i64 i ∧ Hid (Below w.heap.size w wr) ∧ Hid (∀ (j : Nat) (hj : j < l.length), j < i → p l[j] = false)) (fun v _ => n - (intOf v).toNat)
  case atStart => exact ⟨0, by omega, rfl, hide (Below.refl _ _), hide (fun j _ h0 => by omega)⟩
  case round =>
    rename World => wr
    obtain ⟨i, hi, rfl, HB, HP⟩ := hrel
    rcases Nat.lt_or_ge i n with hlt | hge
    · have hil : i < l.length := by have := HN.out; omega
      have g1 : (i : Int) < (n : Int) := by omega
      obtain ⟨b0, off, cap, he, hbw, k0', k1, k2⟩ := (HA.out.later HB.out (Nat.le_refl _)).at i hil
      rw [← HN.out] at he
      simp only [Value.slice.injEq] at he
      obtain ⟨rfl, _, rfl⟩ := he
      have HC := hide (HK.out _ (List.getElem_mem hil) wr HB.out)
      cases hp : p l[i] with
      | false =>
        rw [hp] at HC
        have HP2 := hide (show ∀ (j : Nat) (hj : j < l.length), j < i + 1 → p l[j] = false from fun j hj h9 => by
          rcases Nat.lt_or_ge j i with h8 | h8
          · exact HP.out j hj h8
          · obtain rfl : j = i := by omega
            exact hp)
        obtain ⟨x, hx⟩ : ∃ x, x = l[i] := ⟨_, rfl⟩
        rw [← hx] at k0' k1 k2 HC
        clear hp hx hbw
        go_wp2_with (go_at_call 40; refine HC.out.mono ?_; rintro e w1 ⟨rfl, hb1⟩)
        have HB2 := hide (HB.out.trans (hb1.mono HB.out.size))
        clear hb1
        go_wp2_with fail
        go_roundw
        case rel => exact ⟨i + 1, by omega, by go_num, HB2, HP2⟩
        case measure => simp [intOf]; omega
      | true =>
        rw [hp] at HC
        have HP2 := hide (show FirstAt l p i from ⟨hil, hp, HP.out⟩)
        obtain ⟨x, hx⟩ : ∃ x, x = l[i] := ⟨_, rfl⟩
        rw [← hx] at k0' k1 k2 HC
        clear hp hx hbw
        go_wp2_with (go_at_call 40; refine HC.out.mono ?_; rintro e w1 ⟨rfl, hb1⟩)
        have HB2 := hide (HB.out.trans (hb1.mono HB.out.size))
        clear hb1
        go_wp2_with fail
        go_ret
        exact ⟨(i : Int), rfl, .inr ⟨i, rfl, HP2.out⟩, HB2.out⟩
    · obtain rfl : i = n := by omega
      have HE := hide (show ∀ x, x ∈ l → p x = false from fun x hx => by
        obtain ⟨j, hj, rfl⟩ := List.getElem_of_mem hx
        exact HP.out j hj (by have := HN.out; omega))
      go_wp2_with fail
      go_ret
      exact ⟨-1, rfl, .inl ⟨rfl, HE.out⟩, HB.out⟩
set_option maxHeartbeats 4000000 in
set_option maxRecDepth 100000 in
theorem idx_at {l : List Pm} {sl : Value} {w : World} (p : Pm → Bool) (k0 : Nat) (h : PcsAt l sl w) (hl9 : l.length ≤ 3000)
    (hK : ∀ x, x ∈ l → ∀ u : World, Below w.heap.size w u → Calls Try.prog 32 #[.agg #[.int .i64 x.s.1, .int .i64 x.s.2, .slice x.ro x.r.length x.rc], .pointer (some ⟨k0, 0, none⟩)] u fun e u' => e = .returned (.bool (p x)) ∧ Below u.heap.size u u') :
    Calls Try.prog 31 #[sl, .func (.func 32) #[] #[.pointer (some ⟨k0, 0, none⟩)]] w fun e w' => IndexP l p w e w' := by
  obtain ⟨so, sc, rfl, _, _⟩ := h.form
  have HA := hide h
  have HK := hide hK
  obtain ⟨n, hn⟩ : ∃ n, n = l.length := ⟨_, rfl⟩
  rw [← hn] at hl9 ⊢
  have HN := hide hn
  clear h hn hK
  go_enter Try.func31, Try.ntmps31
  go_wp2_with fail
  go_loopw [8] (fun v wr => ∃ i : Nat, i ≤ n ∧ v = .int .i64 i ∧ Hid (Below w.heap.size w wr) ∧ Hid (∀ (j : Nat) (hj : j < l.length), j < i → p l[j] = false)) (fun v _ => n - (intOf v).toNat)
  case atStart => exact ⟨0, by omega, rfl, hide (Below.refl _ _), hide (fun j _ h0 => by omega)⟩
  case round =>
    rename World => wr
    obtain ⟨i, hi, rfl, HB, HP⟩ := hrel
    rcases Nat.lt_or_ge i n with hlt | hge
    · have hil : i < l.length := by have := HN.out; omega
      have g1 : (i : Int) < (n : Int) := by omega
      obtain ⟨b0, off, cap, he, hbw, k0', k1, k2⟩ := (HA.out.later HB.out (Nat.le_refl _)).at i hil
      rw [← HN.out] at he
      simp only [Value.slice.injEq] at he
      obtain ⟨rfl, _, rfl⟩ := he
      have HC := hide (HK.out _ (List.getElem_mem hil) wr HB.out)
      cases hp : p l[i] with
      | false =>
        rw [hp] at HC
        have HP2 := hide (show ∀ (j : Nat) (hj : j < l.length), j < i + 1 → p l[j] = false from fun j hj h9 => by
          rcases Nat.lt_or_ge j i with h8 | h8
          · exact HP.out j hj h8
          · obtain rfl : j = i := by omega
            exact hp)
        obtain ⟨x, hx⟩ : ∃ x, x = l[i] := ⟨_, rfl⟩
        rw [← hx] at k0' k1 k2 HC
        clear hp hx hbw
        go_wp2_with (go_at_call 32; refine HC.out.mono ?_; rintro e w1 ⟨rfl, hb1⟩)
        have HB2 := hide (HB.out.trans (hb1.mono HB.out.size))
        clear hb1
        go_wp2_with fail
        go_roundw
        case rel => exact ⟨i + 1, by omega, by go_num, HB2, HP2⟩
        case measure => simp [intOf]; omega
      | true =>
        rw [hp] at HC
        have HP2 := hide (show FirstAt l p i from ⟨hil, hp, HP.out⟩)
        obtain ⟨x, hx⟩ : ∃ x, x = l[i] := ⟨_, rfl⟩
        rw [← hx] at k0' k1 k2 HC
        clear hp hx hbw
        go_wp2_with (go_at_call 32; refine HC.out.mono ?_; rintro e w1 ⟨rfl, hb1⟩)
        have HB2 := hide (HB.out.trans (hb1.mono HB.out.size))
        clear hb1
        go_wp2_with fail
        go_ret
        exact ⟨(i : Int), rfl, .inr ⟨i, rfl, HP2.out⟩, HB2.out⟩
    · obtain rfl : i = n := by omega
      have HE := hide (show ∀ x, x ∈ l → p x = false from fun x hx => by
        obtain ⟨j, hj, rfl⟩ := List.getElem_of_mem hx
        exact HP.out j hj (by have := HN.out; omega))
      go_wp2_with fail
      go_ret
      exact ⟨-1, rfl, .inl ⟨rfl, HE.out⟩, HB.out⟩
theorem at_first {l : List Pm} {t : Int} : ∀ {i : Nat}, FirstAt l (fun x => decide (Has x.s t)) i → ∃ hi : i < l.length, atP (pcs l) t = some (l[i]).r := by
  induction l with
  | nil => rintro i ⟨hi, _⟩; simp at hi
  | cons x l ih =>
    rintro i ⟨hi, hp, hb⟩
    refine ⟨hi, ?_⟩
    rw [show pcs (x :: l) = x.pc :: pcs l from rfl]
    unfold atP
    cases i with
    | zero =>
      have hp2 : Has x.s t := of_decide_eq_true hp
      rw [if_pos (show Has x.pc.1 t from hp2)]; rfl
    | succ i =>
      have h0 : ¬ Has x.s t := of_decide_eq_false (hb 0 (by simp) (by omega))
      rw [if_neg (show ¬ Has x.pc.1 t from h0)]
      obtain ⟨hi2, h2⟩ := ih (i := i) ⟨by simpa using hi, hp, fun j hj hji => hb (j + 1) (by simp; omega) (by omega)⟩
      exact h2
theorem at_nowhere {l : List Pm} {t : Int} (h : ∀ x, x ∈ l → decide (Has x.s t) = false) : atP (pcs l) t = none := by
  rw [atP_none]
  intro p hp ht
  obtain ⟨x, hx, rfl⟩ := List.mem_map.1 hp
  exact of_decide_eq_false (h x hx) ht
/-- What At comes to. -/
def MAtP (l : List Pm) (t : Int) (w : World) (e : Ending) (w' : World) : Prop := ((∃ (r : List V) (ro : Option Addr) (rc : Nat), atR (pcs l) t = some r ∧ e = .returned (.tuple #[.slice ro r.length rc, .bool true]) ∧ RowAt r (.slice ro r.length rc) w') ∨ (atR (pcs l) t = none ∧ e = .returned (.tuple #[.slice none 0 0, .bool false]))) ∧ Below w.heap.size w w'
set_option maxHeartbeats 4000000 in
set_option maxRecDepth 100000 in
theorem mat_any {l : List Pm} {sl : Value} {w : World} (h : PcsAt l sl w) (hr : Rows3 l w) (hs : Small l) (t : Int) :
    Calls Try.prog 13 #[sl, .int .i64 t] w fun e w' => MAtP l t w e w' := by
  have hb0 := below_alloc w (.cells #[.int .i64 t] 3)
  have HB0 := hide hb0
  have C1 := hide (right_any (h.later hb0 (Nat.le_refl _)) (hr.later hb0) hs)
  have HC0 := hide (show (w.alloc (.cells #[.int .i64 t] 3)).cell? ⟨w.heap.size, 0, none⟩ = some (.int .i64 t) from by go_keep)
  have hlt0 : w.heap.size < (w.alloc (.cells #[.int .i64 t] 3)).heap.size := by simp
  have HLT0 := hide hlt0
  have HA := hide h
  have HR := hide hr
  have HS := hide hs
  obtain ⟨so, sc, rfl, _, _⟩ := h.form
  by_cases hok : Ok Good (pcs l)
  · rw [decide_eq_true hok] at C1
    have HE := hide (show atR (pcs l) t = atP (pcs l) t from if_pos hok)
    have C2 := hide (show ∀ u : World, Below w.heap.size w u → u.cell? ⟨w.heap.size, 0, none⟩ = some (.int .i64 t) → w.heap.size < u.heap.size → Calls Try.prog 31 #[.slice so l.length sc, .func (.func 32) #[] #[.pointer (some ⟨w.heap.size, 0, none⟩)]] u fun e w' => IndexP l (fun x => decide (Has x.s t)) u e w' from fun u hu hc hlt =>
      idx_at _ w.heap.size (h.later hu (Nat.le_refl _)) (by have := hs.n; omega) (fun x _ v hv => atq_any x t _ v (by rw [hv.cell (p := ⟨w.heap.size, 0, none⟩) hlt]; exact hc) (Nat.lt_of_lt_of_le hlt hv.size)))
    clear h hr hs hok hb0 hlt0
    go_enter Try.func13, Try.ntmps13
    go_wp2_with fail
    refine C1.out.mono ?_
    rintro e w1 ⟨rfl, hb⟩
    have HB1 := hide (HB0.out.trans (hb.mono HB0.out.size))
    have HC1 := hide (show w1.cell? ⟨w.heap.size, 0, none⟩ = some (.int .i64 t) from by rw [hb.cell (p := ⟨w.heap.size, 0, none⟩) HLT0.out]; exact HC0.out)
    have HLT1 := hide (Nat.lt_of_lt_of_le HLT0.out hb.size)
    clear hb C1
    go_wp2_with fail
    refine (C2.out _ HB1.out HC1.out HLT1.out).mono ?_
    rintro e w2 ⟨r, rfl, hor, hb⟩
    have HB2 := hide (HB1.out.trans (hb.mono HB1.out.size))
    clear hb C2
    rcases hor with ⟨rfl, hno⟩ | ⟨i, rfl, hfi⟩
    · have HNO := hide ((HE.out).trans (at_nowhere hno))
      clear hno
      go_wp2_with fail
      go_ret2
      exact ⟨.inr ⟨HNO.out, rfl⟩, HB2.out⟩
    · obtain ⟨hil, hat⟩ := at_first hfi
      have HAT := hide ((HE.out).trans hat)
      obtain ⟨b0, off, cap, he, hbw, k0, k1, k2⟩ := (HA.out.later HB2.out (Nat.le_refl _)).at i hil
      simp only [Value.slice.injEq] at he
      obtain ⟨rfl, _, rfl⟩ := he
      have hmem := List.getElem_mem hil
      have C3 := hide (Cod.copied_any (l[i]).r (l[i]).ro (l[i]).rc w2 ((HR.out.later HB2.out) _ hmem) (HS.out.r _ hmem) (fun v hv => by have := (HS.out.i _ hmem v hv).s; omega))
      obtain ⟨x, hx⟩ : ∃ x, x = l[i] := ⟨_, rfl⟩
      rw [← hx] at k0 k1 k2 HAT C3
      obtain ⟨n, hn⟩ : ∃ n, n = l.length := ⟨_, rfl⟩
      have hl : n ≤ 1000 := by rw [hn]; exact HS.out.n
      have g1 : (i : Int) < (n : Int) := by omega
      have g2 : ¬ (i : Int) < 0 := by omega
      rw [← hn]
      clear hx hmem hat hfi hbw hn
      go_wp2_with fail
      refine C3.out.mono ?_
      rintro e w3 ⟨ro, rc, rfl, ho, hb⟩
      have HB3 := hide (HB2.out.trans (hb.mono HB2.out.size))
      have HW3 := hide (RowAt.of_owns ho rfl)
      clear ho hb C3 k0 k1 k2
      go_wp2_with fail
      go_ret2
      exact ⟨.inl ⟨x.r, ro, rc, HAT.out, rfl, HW3.out⟩, HB3.out⟩
  · rw [decide_eq_false hok] at C1
    have HE := hide (show atR (pcs l) t = none from if_neg hok)
    clear h hr hs hok hb0 hlt0
    go_enter Try.func13, Try.ntmps13
    go_wp2_with fail
    refine C1.out.mono ?_
    rintro e w1 ⟨rfl, hb⟩
    have HB1 := hide (HB0.out.trans (hb.mono HB0.out.size))
    clear hb C1
    go_wp2_with fail
    go_ret2
    exact ⟨.inr ⟨HE.out, rfl⟩, HB1.out⟩
end Prd
end Go.Proofs.Ytoacombaddknfaa
