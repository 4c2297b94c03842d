/- The program's Put. Condition: no more than a million values a row, four hundred pieces. -/
import Derived.Test.YtoacombaddknfaaR8
import Derived.Test.YtoacombaddknfaaR9
import Derived.Test.YtoacombaddknfaaOp
namespace Go.Proofs.Ytoacombaddknfaa
open Go.RowKit
namespace Prd
open Spn (Sp hide At below_alloc Right rcut)
open Cod (V RowAt S)
theorem insert_any {base base2 : Nat} {l : List Pm} {sv vv : Value} {w : World} (h : Row3 56 base l sv w) (y : Pm) (hv : Row3 56 base2 [y] vv w) (hne : ∀ g, vv.ownBlock = some g → sv.ownBlock ≠ some g) (hl : l.length ≤ 3000) (hb : base ≤ w.heap.size) (i : Nat) (hi : i ≤ l.length) :
    Calls Try.prog 41 #[sv, .int .i64 (i : Nat), vv] w fun e w' => InsP l y i sv w e w' := by
  rcases Nat.eq_or_lt_of_le hi with e | hlt
  · subst e
    exact ins_end h y vv hv hl hb
  · obtain ⟨g, c, e, hlc, _, _, _⟩ := h.held (by omega)
    obtain ⟨vb, vc, e2, _, _, _, _⟩ := hv.held (by simp)
    subst e e2
    have hne2 : vb ≠ g := fun e => hne vb rfl (by rw [e]; rfl)
    have e1 : [y].length = 1 := rfl
    rw [e1] at hv ⊢
    by_cases hr : l.length + 1 ≤ c
    · exact ins_room h y vb vc hv hne2 hl i hlt hr
    · exact ins_grow h y vb vc hv hl i hlt (by omega)
theorem place_lay {d : List (Sp × List V)} {s : Sp} {r : List V} (hs : Right s) (hr : ∀ p, p ∈ d → Right p.1) (ha : ∀ p, p ∈ d → p.1.2 ≤ s.1 ∨ s.2 ≤ p.1.1) (i : Nat) (hi : i ≤ d.length)
    (h1 : ∀ (j : Nat) (hj : j < d.length), j < i → ¬ s.2 ≤ (d[j]).1.1) (h2 : ∀ (hi : i < d.length), s.2 ≤ (d[i]).1.1) : lay d (s, r) = d.take i ++ (s, r) :: d.drop i := by
  have hs2 := hs.2.1
  refine lay_split i hi (fun j hj hji => ?_) (fun hi9 => ?_)
  · have a1 := h1 j hj hji
    have a2 := (hr _ (List.getElem_mem hj)).2.1
    rcases ha _ (List.getElem_mem hj) with a3 | a3
    · show (d[j]).1.1 < s.1
      omega
    · exact absurd a3 a1
  · have := h2 hi9
    show ¬ (d[i]).1.1 < s.1
    omega
theorem pcs_take (l : List Pm) (i : Nat) : pcs (l.take i) = (pcs l).take i := by simp [pcs, List.map_take]
theorem pcs_drop (l : List Pm) (i : Nat) : pcs (l.drop i) = (pcs l).drop i := by simp [pcs, List.map_drop]
/-- What Put comes to. -/
def PutP (l : List Pm) (x0 : Pm) (w : World) (e : Ending) (w' : World) : Prop := ∃ (m : List Pm) (v : Value), e = .returned v ∧ PcsAt m v w' ∧ Rows3 m w' ∧ pcs m = putP (pcs l) x0.s x0.r ∧ Below w.heap.size w w'
/-- The boxes of Put: the span, the piece. -/
structure Pb (x0 : Pm) (w u : World) : Prop where
  s : At x0.s w.heap.size u
  x : Bx3 x0 (w.heap.size + 1) u
  b : Below w.heap.size w u
theorem Pb.later {x0 : Pm} {w u u' : World} (h : Pb x0 w u) (hb : Below u.heap.size u u') : Pb x0 w u' := ⟨h.s.later hb h.s.lt, h.x.later hb h.x.lt, h.b.trans (hb.mono h.b.size)⟩
theorem Pb.new (x0 : Pm) (w : World) : Pb x0 w ((w.alloc (.cells #[.int .i64 x0.s.1, .int .i64 x0.s.2] 24)).alloc (.cells #[.int .i64 x0.s.1, .int .i64 x0.s.2, .slice x0.ro x0.r.length x0.rc] 56)) := by
  have h1 := below_alloc (w.alloc (.cells #[.int .i64 x0.s.1, .int .i64 x0.s.2] 24)) (.cells #[.int .i64 x0.s.1, .int .i64 x0.s.2, .slice x0.ro x0.r.length x0.rc] 56)
  have h2 := Bx3.new (w.alloc (.cells #[.int .i64 x0.s.1, .int .i64 x0.s.2] 24)) x0 56
  rw [show (w.alloc (.cells #[.int .i64 x0.s.1, .int .i64 x0.s.2] 24)).heap.size = w.heap.size + 1 from by simp] at h2
  exact ⟨(At.new w x0.s.1 x0.s.2 24).later h1 (by simp), h2, (below_alloc _ _).trans (h1.mono (by simp))⟩
set_option maxHeartbeats 8000000 in
set_option maxRecDepth 100000 in
theorem put_any {l : List Pm} {sl : Value} {w : World} (h : PcsAt l sl w) (hr : Rows3 l w) (hs : Small l) (hn4 : l.length ≤ 400) (x0 : Pm) (hx : RowAt x0.r x0.sl w) (hxl : x0.r.length ≤ 1000000) (hxi : ∀ v ∈ x0.r, v.inn) :
    Calls Try.prog 18 #[sl, .agg #[.int .i64 x0.s.1, .int .i64 x0.s.2], .slice x0.ro x0.r.length x0.rc] w fun e w' => PutP l x0 w e w' := by
  have HP0 := hide (Pb.new x0 w)
  have C1 := hide (show ∀ u : World, Below w.heap.size w u → Calls Try.prog 15 #[sl] u fun e w' => e = .returned (.bool (decide (Ok Good (pcs l)))) ∧ Below u.heap.size u w' from fun u hu => right_any (h.later hu (Nat.le_refl _)) (hr.later hu) hs)
  have C2 := hide (show ∀ u : World, Below w.heap.size w u → Calls Try.prog 35 #[.agg #[.int .i64 x0.s.1, .int .i64 x0.s.2, .slice x0.ro x0.r.length x0.rc]] u fun e w' => e = .returned (.bool (okB x0)) ∧ Below u.heap.size u w' from fun u hu => rpiece_any x0 u (hx.later hu) hxl)
  have C3 := hide (show ∀ u : World, Below w.heap.size w u → Calls Try.prog 38 #[sl, .func (.func 39) #[] #[]] u fun e w' => ∃ (m : List Pm) (v : Value), e = .returned v ∧ Owns u.heap.size m v w' ∧ pcs m = pcs l ∧ Below u.heap.size u w' from fun u hu => told_as (h.later hu (Nat.le_refl _)) (hr.later hu) hs)
  have C4 := hide (show ∀ u : World, Below w.heap.size w u → Calls Try.prog 20 #[sl, .agg #[.int .i64 x0.s.1, .int .i64 x0.s.2]] u fun e w' => ∃ (m : List Pm) (v : Value), e = .returned v ∧ Owns u.heap.size m v w' ∧ pcs m = dropP (pcs l) (x0.s.1, x0.s.2) ∧ Below u.heap.size u w' from fun u hu => drop_any (h.later hu (Nat.le_refl _)) (hr.later hu) hs x0.s.1 x0.s.2)
  have HS1 := hide (show Small [x0] from ⟨by simp, fun y hy => by rw [List.mem_singleton.1 hy]; exact hxl, fun y hy => by rw [List.mem_singleton.1 hy]; exact hxi⟩)
  have HRX := hide hx
  have HN4 := hide hn4
  obtain ⟨so, sc, rfl, _, _⟩ := h.form
  by_cases hok : Ok Good (pcs l)
  · rw [decide_eq_true hok] at C1
    cases hokx : okB x0 with
    | true =>
      rw [hokx] at C2
      obtain ⟨hrs, hgr⟩ := (okB_iff x0).1 hokx
      have HD := hide (show dropP (pcs l) (x0.s.1, x0.s.2) = away (pcs l) x0.s from if_pos ⟨hok, hrs⟩)
      have HPT := hide (show putP (pcs l) x0.s x0.r = lay (away (pcs l) x0.s) (x0.s, x0.r) from if_pos ⟨hok, hrs, hgr⟩)
      have HRS := hide hrs
      have HOK := hide hok
      clear h hr hs hn4 hx hxl hxi hok hokx hrs hgr C3
      go_enter Try.func18, Try.ntmps18
      go_wp2_with fail
      refine (C1.out _ HP0.out.b).mono ?_
      rintro e w1 ⟨rfl, hb⟩
      have HP1 := hide (HP0.out.later hb)
      obtain ⟨k0, k1, k2, _⟩ := HP1.out.x
      clear hb
      go_wp2_with fail
      refine (C2.out _ HP1.out.b).mono ?_
      rintro e w2 ⟨rfl, hb⟩
      have HP2 := hide (HP1.out.later hb)
      obtain ⟨a0, a1, _, _, _⟩ := HP2.out.s
      clear hb k0 k1 k2
      go_wp2_with fail
      refine (C4.out _ HP2.out.b).mono ?_
      rintro e w3 ⟨m, v, rfl, ho, hp, hb⟩
      have HP3 := hide (HP2.out.later hb)
      have HO3 := hide ho
      have HPM := hide (hp.trans HD.out)
      have HML := hide (show m.length ≤ 800 from by
        have h1 := congrArg List.length (hp.trans HD.out)
        have h2 := away_len (pcs l) x0.s
        rw [pcs_len] at h1 h2
        have := HN4.out
        omega)
      have HBW := hide (show w2.heap.size ≤ w3.heap.size from hb.size)
      have CI := hide (idx_put (fun x => decide (x0.s.2 ≤ x.s.1)) w.heap.size ho.o.pieces (by have := HML.out; omega) (fun x _ u hu => putq_any x x0.s.1 x0.s.2 w.heap.size u (HP3.out.s.later hu HP3.out.s.lt)))
      obtain ⟨mo, mc, rfl, _, _⟩ := ho.o.form
      clear hb ho hp a0 a1
      go_wp2_with fail
      refine CI.out.mono ?_
      rintro e w4 ⟨r, rfl, hor, hb⟩
      have HP4 := hide (HP3.out.later hb)
      have HO4 := hide (HO3.out.later hb (Nat.le_refl _))
      have HBW4 := hide (show w2.heap.size ≤ w4.heap.size from Nat.le_trans HBW.out hb.size)
      obtain ⟨k0, k1, k2, _⟩ := HP4.out.x
      have HAW := hide (show ∀ p, p ∈ pcs m → Right p.1 ∧ (p.1.2 ≤ x0.s.1 ∨ x0.s.2 ≤ p.1.1) from fun p hp9 => by
        rw [HPM.out] at hp9
        exact ⟨((away_ok HOK.out x0.s).one p hp9).1, away_apart HOK.out HRS.out hp9⟩)
      obtain ⟨pl, hple, hplr⟩ : ∃ pl : Nat, pl ≤ m.length ∧ ((r = -1 ∧ pl = m.length) ∨ r = (pl : Int)) := by
        rcases hor with ⟨e, _⟩ | ⟨i, e, hf⟩
        · exact ⟨m.length, Nat.le_refl _, .inl ⟨e, rfl⟩⟩
        · obtain ⟨hi9, _⟩ := hf
          exact ⟨i, Nat.le_of_lt hi9, .inr e⟩
      have HLAY := hide (show putP (pcs l) x0.s x0.r = (pcs m).take pl ++ (x0.s, x0.r) :: (pcs m).drop pl from by
        rw [HPT.out, ← HPM.out]
        refine place_lay HRS.out (fun p hp9 => (HAW.out p hp9).1) (fun p hp9 => (HAW.out p hp9).2) pl (by rw [pcs_len]; exact hple) (fun j hj hji => ?_) (fun hi9 => ?_)
        · have hj2 : j < m.length := by rw [pcs_len] at hj; exact hj
          rw [pcs_at m j hj2]
          rcases hor with ⟨e, hno⟩ | ⟨i, e, hi2, hpi, hbf⟩
          · exact of_decide_eq_false (hno _ (List.getElem_mem hj2))
          · rcases hplr with ⟨e2, _⟩ | e2
            · omega
            · exact of_decide_eq_false (hbf j hj2 (by omega))
        · have hi2 : pl < m.length := by rw [pcs_len] at hi9; exact hi9
          rw [pcs_at m pl hi2]
          rcases hor with ⟨e, hno⟩ | ⟨i, e, hi3, hpi, hbf⟩
          · rcases hplr with ⟨_, e2⟩ | e2 <;> omega
          · rcases hplr with ⟨e2, _⟩ | e2
            · omega
            · obtain rfl : i = pl := by omega
              exact of_decide_eq_true hpi)
      clear hor hb CI
      obtain ⟨x5, hx5⟩ : ∃ u, u = w4.alloc (.cells #[.int .i64 x0.s.1, .int .i64 x0.s.2, .slice x0.ro x0.r.length x0.rc] 56) := ⟨_, rfl⟩
      have HX5 := hide (show PcsAt [x0] (.slice (some ⟨w4.heap.size, 0, none⟩) 1 1) x5 from by rw [hx5]; exact one3_at w4 x0 56 rfl)
      have HQ5 := hide (show Below w4.heap.size w4 x5 from by rw [hx5]; exact below_alloc _ _)
      have HP5 := hide (HP4.out.later HQ5.out)
      have HBW5 := hide (show w2.heap.size ≤ x5.heap.size from Nat.le_trans HBW4.out HQ5.out.size)
      have HO5 := hide (HO4.out.later HQ5.out (Nat.le_refl _))
      have CT := hide (told_as HX5.out (fun y hy => by rw [List.mem_singleton.1 hy]; exact HRX.out.later HP5.out.b) HS1.out)
      have HML9 := HML.out
      have finish : ∀ (w6 : World) (m' : List Pm) (v' : Value), Owns x5.heap.size m' v' w6 → pcs m' = pcs [x0] → Below x5.heap.size x5 w6 → Calls Try.prog 41 #[.slice mo m.length mc, .int .i64 (pl : Nat), v'] w6 fun e w' => PutP l x0 w e w' := by
        intro w6 m' v' ho6 hp6 hb6
        have hl1 : m'.length = 1 := by have := congrArg List.length hp6; rw [pcs_len, pcs_len] at this; exact this
        obtain ⟨y, rfl⟩ : ∃ y, m' = [y] := List.length_eq_one_iff.1 hl1
        have hy : y.pc = x0.pc := by simpa [pcs] using hp6
        have HO6 := HO5.out.later hb6 (Nat.le_refl _)
        have hrl : ∀ g, (Value.slice mo m.length mc).ownBlock = some g → g < x5.heap.size := fun g hg => (HO5.out.o.lt g hg).2
        refine (insert_any HO6.o y ho6.o (fun g hg e => by have := hrl g e; have := (ho6.o.lt g hg).1; omega) (by omega) (Nat.le_trans HBW5.out hb6.size) pl hple).mono ?_
        rintro e w7 ⟨u, rfl, hpu, hgu⟩
        have key : ∀ z, z ∈ m.take pl ++ y :: m.drop pl → RowAt z.r z.sl w6 ∧ ∀ ad, z.ro = some ad → ad.block < w6.heap.size ∧ (Value.slice mo m.length mc).ownBlock ≠ some ad.block := fun z hz => by
          rcases List.mem_append.1 hz with hz | hz
          · exact ⟨HO6.r z (List.mem_of_mem_take hz), HO6.a z (List.mem_of_mem_take hz)⟩
          · rcases List.mem_cons.1 hz with rfl | hz
            · refine ⟨ho6.r z (by simp), fun ad e => ⟨(ho6.a z (by simp) ad e).1, fun e9 => ?_⟩⟩
              have h1 := hrl _ e9
              have h2 := ho6.b z (by simp) ad e
              omega
            · exact ⟨HO6.r z (List.mem_of_mem_drop hz), HO6.a z (List.mem_of_mem_drop hz)⟩
        refine ⟨_, u, rfl, hpu, fun z hz => ?_, ?_, ?_⟩
        · obtain ⟨h1, h2⟩ := key z hz
          exact RowAt.kept h1 hgu.size (fun ad e => hgu.block _ (h2 ad e).1 (fun e9 => (h2 ad e).2 e9.symm))
        · rw [pcs_app, HLAY.out, pcs_take, show pcs (y :: m.drop pl) = y.pc :: pcs (m.drop pl) from rfl, hy, pcs_drop]
          rfl
        · have hbw := HP5.out.b.trans (hb6.mono HP5.out.b.size)
          exact hbw.grown hgu hbw.size (fun k hk => by have h1 := (HO6.o.lt k hk).1; have h2 := HP2.out.b.size; omega)
      have HFIN := hide finish
      clear finish
      rw [hx5] at HFIN CT
      clear hx5 HX5 HQ5 HP5 HO5
      rcases hplr with ⟨rfl, hpl⟩ | rfl
      · subst hpl
        go_wp2_with fail
        refine CT.out.mono ?_
        rintro e w6 ⟨m', v', rfl, ho6, hp6, hb6⟩
        have C9 := hide (HFIN.out w6 m' v' ho6 hp6 hb6)
        clear ho6 hp6 hb6 CT HFIN
        go_wp2_with fail
        refine C9.out.mono ?_
        rintro e w7 ⟨mm, u, rfl, q1, q2, q3, q4⟩
        have HQ := hide (show PutP l x0 w (.returned u) w7 from ⟨mm, u, rfl, q1, q2, q3, q4⟩)
        clear q1 q2 q3 q4
        go_wp2_with fail
        go_ret
        exact HQ.out
      · have g1 : ¬ (pl : Int) < 0 := by omega
        go_wp2_with fail
        refine CT.out.mono ?_
        rintro e w6 ⟨m', v', rfl, ho6, hp6, hb6⟩
        have C9 := hide (HFIN.out w6 m' v' ho6 hp6 hb6)
        clear ho6 hp6 hb6 CT HFIN
        go_wp2_with fail
        refine C9.out.mono ?_
        rintro e w7 ⟨mm, u, rfl, q1, q2, q3, q4⟩
        have HQ := hide (show PutP l x0 w (.returned u) w7 from ⟨mm, u, rfl, q1, q2, q3, q4⟩)
        clear q1 q2 q3 q4
        go_wp2_with fail
        go_ret
        exact HQ.out
    | false =>
      rw [hokx] at C2
      have HPT := hide (show putP (pcs l) x0.s x0.r = pcs l from if_neg (fun h9 => by rw [(okB_iff x0).2 ⟨h9.2.1, h9.2.2⟩] at hokx; cases hokx))
      clear h hr hs hn4 hx hxl hxi hok hokx C4
      go_enter Try.func18, Try.ntmps18
      go_wp2_with fail
      refine (C1.out _ HP0.out.b).mono ?_
      rintro e w1 ⟨rfl, hb⟩
      have HP1 := hide (HP0.out.later hb)
      obtain ⟨k0, k1, k2, _⟩ := HP1.out.x
      clear hb
      go_wp2_with fail
      refine (C2.out _ HP1.out.b).mono ?_
      rintro e w2 ⟨rfl, hb⟩
      have HP2 := hide (HP1.out.later hb)
      clear hb k0 k1 k2
      go_wp2_with fail
      refine (C3.out _ HP2.out.b).mono ?_
      rintro e w3 ⟨m, v, rfl, ho, hp, hb⟩
      have HQ := hide (show PutP l x0 w (.returned v) w3 from ⟨m, v, rfl, ho.o.pieces, ho.r, hp.trans HPT.out.symm, HP2.out.b.trans (hb.mono HP2.out.b.size)⟩)
      clear ho hp hb
      go_wp2_with fail
      go_ret
      exact HQ.out
  · rw [decide_eq_false hok] at C1
    have HPT := hide (show putP (pcs l) x0.s x0.r = pcs l from if_neg (fun h9 => hok h9.1))
    clear h hr hs hn4 hx hxl hxi hok C4
    go_enter Try.func18, Try.ntmps18
    go_wp2_with fail
    refine (C1.out _ HP0.out.b).mono ?_
    rintro e w1 ⟨rfl, hb⟩
    have HP1 := hide (HP0.out.later hb)
    clear hb
    go_wp2_with fail
    refine (C3.out _ HP1.out.b).mono ?_
    rintro e w3 ⟨m, v, rfl, ho, hp, hb⟩
    have HQ := hide (show PutP l x0 w (.returned v) w3 from ⟨m, v, rfl, ho.o.pieces, ho.r, hp.trans HPT.out.symm, HP1.out.b.trans (hb.mono HP1.out.b.size)⟩)
    clear ho hp hb
    go_wp2_with fail
    go_ret
    exact HQ.out
end Prd
end Go.Proofs.Ytoacombaddknfaa
