/- The program's Drop. Condition: no more than a million values a row, a thousand pieces. -/
import Derived.Test.YtoacombaddknfaaR3
import Derived.Test.YtoacombaddknfaaIh
import Derived.Test.YtoacombaddknfaaOi
namespace Go.Proofs.Ytoacombaddknfaa
open Go.RowKit
namespace Prd
open Spn (Sp hide At below_alloc Right rcut)
open Cod (V RowAt S)
theorem toldP_whole (l : List Pm) : toldP l (fun x => [x.s]) = pcs l := by
  unfold toldP pcs Pm.pc
  induction l with
  | nil => rfl
  | cons x l ih => rw [List.flatMap_cons, ih]; rfl
theorem toldP_away (l : List Pm) (s : Sp) : toldP l (fun x => rcut x.s s) = away (pcs l) s := by
  unfold toldP pcs away
  rw [List.flatMap_map]
  rfl
set_option maxHeartbeats 1000000 in
set_option maxRecDepth 100000 in
theorem dropq_any (x : Pm) (a b : Int) (k0 : Nat) (u : World) (h : At (a, b) k0 u) :
    Calls Try.prog 43 #[.agg #[.int .i64 x.s.1, .int .i64 x.s.2, .slice x.ro x.r.length x.rc], .pointer (some ⟨k0, 0, none⟩)] u fun e u' => ∃ v, e = .returned v ∧ Spn.Row u.heap.size (rcut x.s (a, b)) v u' ∧ Below u.heap.size u u' := by
  have C1 := hide (fun w => Spn.cut_any x.s.1 x.s.2 a b w)
  have HE := hide (show Spn.cut (x.s.1, x.s.2) (a, b) = rcut x.s (a, b) from Spn.cut_eq _ _)
  have HB := hide (below_alloc u (.cells #[.int .i64 x.s.1, .int .i64 x.s.2, .slice x.ro x.r.length x.rc] 56))
  obtain ⟨c0, c1, _, _, hlt⟩ := h
  go_enter Try.func43, Try.ntmps43
  go_wp2_with fail
  refine (C1.out _).mono ?_
  rintro e w1 ⟨v, rfl, hrow, hb⟩
  rw [HE.out] at hrow
  have HR := hide (hrow.mono (base' := u.heap.size) (by simp))
  have HB1 := hide (HB.out.trans (hb.mono HB.out.size))
  clear hrow hb
  go_wp2_with fail
  go_ret
  exact ⟨v, rfl, HR.out, HB1.out⟩
theorem wholek {l : List Pm} {w : World} : ∀ x, x ∈ l → ∀ u : World, Below w.heap.size w u → Calls Try.prog 39 #[.agg #[.int .i64 x.s.1, .int .i64 x.s.2, .slice x.ro x.r.length x.rc]] u fun e u' => ∃ v, e = .returned v ∧ Spn.Row u.heap.size ((fun x : Pm => [x.s]) x) v u' ∧ Below u.heap.size u u' := fun x _ u _ => wholer_any x u
/-- As they are. -/
theorem told_as {l : List Pm} {sl : Value} {w : World} (h : PcsAt l sl w) (hr : Rows3 l w) (hs : Small l) :
    Calls Try.prog 38 #[sl, .func (.func 39) #[] #[]] w fun e w' => ∃ (m : List Pm) (v : Value), e = .returned v ∧ Owns w.heap.size m v w' ∧ pcs m = pcs l ∧ Below w.heap.size w w' := by
  refine (told_whole (fun x => [x.s]) h hr hs (fun x _ => by simp) wholek).mono ?_
  rintro e w' ⟨m, v, he, h1, h2, h3⟩
  exact ⟨m, v, he, h1, by rw [h2, toldP_whole], h3⟩
set_option maxHeartbeats 4000000 in
set_option maxRecDepth 100000 in
theorem drop_any {l : List Pm} {sl : Value} {w : World} (h : PcsAt l sl w) (hr : Rows3 l w) (hs : Small l) (a b : Int) :
    Calls Try.prog 20 #[sl, .agg #[.int .i64 a, .int .i64 b]] w fun e w' => ∃ (m : List Pm) (v : Value), e = .returned v ∧ Owns w.heap.size m v w' ∧ pcs m = dropP (pcs l) (a, b) ∧ Below w.heap.size w w' := by
  have hb0 := below_alloc w (.cells #[.int .i64 a, .int .i64 b] 24)
  have C1 := hide (right_any (h.later hb0 (Nat.le_refl _)) (hr.later hb0) hs)
  have HA := hide h
  have HR := hide hr
  have HS := hide hs
  clear hb0 h hr hs
  by_cases hok : Ok Good (pcs l)
  · rw [decide_eq_true hok] at C1
    by_cases hrs : Right (a, b)
    · have C2 := hide (fun w => Spn.right_yes hrs w)
      have HD := hide (show dropP (pcs l) (a, b) = away (pcs l) (a, b) from if_pos ⟨hok, hrs⟩)
      clear hok hrs
      go_enter Try.func20, Try.ntmps20
      go_wp2_with fail
      refine C1.out.mono ?_
      rintro e w1 ⟨rfl, hb⟩
      obtain ⟨hA1, hb1⟩ := Spn.box1 hb
      have HA1 := hide hA1
      have HB1 := hide hb1
      obtain ⟨a0, a1, _, _, _⟩ := hA1
      clear hb hb1 C1
      go_wp2_with fail
      refine (C2.out _).mono ?_
      rintro e w2 ⟨rfl, hb⟩
      have HA2 := hide (HA1.out.later hb HA1.out.lt)
      have HB2 := hide (HB1.out.trans (hb.mono HB1.out.size))
      have C3 := hide (told_drop (fun x => rcut x.s (a, b)) w.heap.size (HA.out.later HB2.out (Nat.le_refl _)) (HR.out.later HB2.out) HS.out (fun x _ => Spn.rcut_len _ _) (fun x _ u hu => dropq_any x a b w.heap.size u (HA2.out.later hu HA2.out.lt)))
      clear hb HA1 HB1 a0 a1 C2
      go_wp2_with fail
      refine C3.out.mono ?_
      rintro e w3 ⟨m, v, rfl, ho, hp, hb⟩
      have HO3 := hide (show Owns w.heap.size m v w3 from ho.mono HB2.out.size)
      have HB3 := hide (HB2.out.trans (hb.mono HB2.out.size))
      have HP3 := hide (show pcs m = dropP (pcs l) (a, b) from by rw [hp, toldP_away, HD.out])
      clear ho hp hb C3
      go_wp2_with fail
      go_ret
      exact ⟨m, v, rfl, HO3.out, HP3.out, HB3.out⟩
    · have C2 := hide (fun w => Spn.right_no hrs w)
      have HD := hide (show dropP (pcs l) (a, b) = pcs l from if_neg (fun h9 => hrs h9.2))
      clear hok hrs
      go_enter Try.func20, Try.ntmps20
      go_wp2_with fail
      refine C1.out.mono ?_
      rintro e w1 ⟨rfl, hb⟩
      obtain ⟨hA1, hb1⟩ := Spn.box1 hb
      have HB1 := hide hb1
      obtain ⟨a0, a1, _, _, _⟩ := hA1
      clear hb hb1 C1
      go_wp2_with fail
      refine (C2.out _).mono ?_
      rintro e w2 ⟨rfl, hb⟩
      have HB2 := hide (HB1.out.trans (hb.mono HB1.out.size))
      have C3 := hide (told_as (HA.out.later HB2.out (Nat.le_refl _)) (HR.out.later HB2.out) HS.out)
      clear hb HB1 a0 a1 C2
      go_wp2_with fail
      refine C3.out.mono ?_
      rintro e w3 ⟨m, v, rfl, ho, hp, hb⟩
      have HO3 := hide (show Owns w.heap.size m v w3 from ho.mono HB2.out.size)
      have HB3 := hide (HB2.out.trans (hb.mono HB2.out.size))
      have HP3 := hide (show pcs m = dropP (pcs l) (a, b) from by rw [hp, HD.out])
      clear ho hp hb C3
      go_wp2_with fail
      go_ret
      exact ⟨m, v, rfl, HO3.out, HP3.out, HB3.out⟩
  · rw [decide_eq_false hok] at C1
    have HD := hide (show dropP (pcs l) (a, b) = pcs l from if_neg (fun h9 => hok h9.1))
    clear hok
    go_enter Try.func20, Try.ntmps20
    go_wp2_with fail
    refine C1.out.mono ?_
    rintro e w1 ⟨rfl, hb⟩
    obtain ⟨_, hb1⟩ := Spn.box1 hb
    have HB2 := hide hb1
    have C3 := hide (told_as (HA.out.later HB2.out (Nat.le_refl _)) (HR.out.later HB2.out) HS.out)
    clear hb hb1 C1
    go_wp2_with fail
    refine C3.out.mono ?_
    rintro e w3 ⟨m, v, rfl, ho, hp, hb⟩
    have HO3 := hide (show Owns w.heap.size m v w3 from ho.mono HB2.out.size)
    have HB3 := hide (HB2.out.trans (hb.mono HB2.out.size))
    have HP3 := hide (show pcs m = dropP (pcs l) (a, b) from by rw [hp, HD.out])
    clear ho hp hb C3
    go_wp2_with fail
    go_ret
    exact ⟨m, v, rfl, HO3.out, HP3.out, HB3.out⟩
end Prd
end Go.Proofs.Ytoacombaddknfaa
