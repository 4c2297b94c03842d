/- Delete, Close, Get. Condition: less than a thousand items. -/
import Derived.Test.YtapdhelioecneaaWv
namespace Go.Proofs.Ytapdhelioecneaa
open Go.RowKit
attribute [local go_sem] Oper.semAt_some
namespace Idx
/-- The index and a place's box. -/
structure Zp (R : Nat) (n : Int) (Bs : List Bkm) (v : Value) (q i pb : Nat) (w u : World) : Prop where
  s : St R n Bs v u
  p : B2 (.int .i64 q) (.int .i64 i) pb u
  l : Below w.heap.size w u
theorem Zp.later {R : Nat} {n : Int} {Bs : List Bkm} {v : Value} {q i pb : Nat} {w u u' : World} (h : Zp R n Bs v q i pb w u) (hb : Below u.heap.size u u') : Zp R n Bs v q i pb w u' := ⟨h.s.later hb (Nat.le_refl _), h.p.later hb, h.l.trans (hb.mono h.l.size)⟩
theorem Zp.ob {R : Nat} {n : Int} {Bs : List Bkm} {v : Value} {q i pb : Nat} {w u : World} (h : Zp R n Bs v q i pb w u) : u.cell? ⟨pb, 0, none⟩ = some (.int .i64 q) ∧ u.cell? ⟨pb, 1, none⟩ = some (.int .i64 i) := ⟨h.p.c0, h.p.c1⟩
theorem Zp.set {R : Nat} {n : Int} {Bs : List Bkm} {v : Value} {q i pb : Nat} {w u : World} (h : Zp R n Bs v q i pb w u) {p : Addr} (hp : w.heap.size ≤ p.block) (hne : pb ≠ p.block) (hR : ¬ fp R Bs v p.block) (x : Value) : Zp R n Bs v q i pb w (u.setCell p x) :=
  ⟨h.s.kept (fun k hk => Below.heap_setCell _ _ _ _ (fun e => hR (e ▸ hk))), h.p.kept (by simp) (Below.heap_setCell _ _ _ _ hne), h.l.setCell hp x⟩
set_option maxHeartbeats 2000000 in
set_option maxRecDepth 100000 in
theorem del_any {R wn : Nat} {F : Nat → Prop} {Bs : List Bkm} {v : Value} {w : World} (h : St R wn Bs v w) (hs : Siz wn Bs) (hF : ∀ k, fp R Bs v k → F k) (hf : ∀ k, F k → k < w.heap.size) (hu : Up (its Bs)) (hl : (its Bs).length ≤ 998) (k : List UInt8) (s : Int) :
    Calls Try.prog 16 #[.pointer (some ⟨R, 0, none⟩), .string (S k), .int .i64 s] w fun e w' => ChgX PX R wn F (delC (its Bs) k s) (delL (its Bs) k s) w e w' := by
  have CP := hide (place_any h hu (by omega) k s)
  have HST := hide h
  have HKP := hide (show (∀ c w', Below w.heap.size w w' → ChgX PX R wn F c (its Bs) w (.returned (.int .i64 c)) w') ∧ ∀ c Bs' L' w', Mut R wn Bs v w Bs' w' → Siz wn Bs' → its Bs' = L' → ChgX PX R wn F c L' w (.returned (.int .i64 c)) w' from ⟨fun c w' hb => chg_same h hs hF hf hb, fun c Bs' L' w' hm h1 h2 => hm.chg hF hf h1 h2⟩)
  have HS := hide hs
  have HL := hide hl
  clear h hs hF hf hu hl
  cases hat : isAt (its Bs) k s with
  | false =>
    have HAT := hide hat
    have HE := hide (show delC (its Bs) k s = 4 ∧ delL (its Bs) k s = its Bs from ⟨by unfold delC; rw [hat]; rfl, by unfold delL; rw [hat]; rfl⟩)
    rw [HE.out.1, HE.out.2]
    clear hat HE
    go_enter Try.func16, Try.ntmps16
    go_wp2_with fail
    refine CP.out.mono ?_
    rintro e w1 ⟨_, h2, hb⟩
    have h3 := h2 HAT.out
    subst h3
    have HB := hide (hb.trans ((below_alloc w1 (.cells #[.int .i64 0, .int .i64 0] 74)).mono hb.size))
    clear h2 hb CP
    go_wp2_with fail
    go_ret
    exact HKP.out.1 4 _ HB.out
  | true =>
    have HAT := hide hat
    have HE := hide (show delC (its Bs) k s = 0 ∧ delL (its Bs) k s = del (its Bs) k s from ⟨by unfold delC; rw [hat]; rfl, by unfold delL; rw [hat]; rfl⟩)
    rw [HE.out.1, HE.out.2]
    clear hat HE
    go_enter Try.func16, Try.ntmps16
    go_wp2_with fail
    refine CP.out.mono ?_
    rintro e w1 ⟨h1, _, hb⟩
    obtain ⟨q, i, rfl, hp⟩ := h1 HAT.out
    have T0 := hide (show Zp R wn Bs v q i w1.heap.size w (w1.alloc (.cells #[.int .i64 q, .int .i64 i] 74)) from ⟨(HST.out.later hb (Nat.le_refl _)).later (below_alloc _ _) (Nat.le_refl _), B2.new w1 _ _ 74 rfl, hb.trans ((below_alloc w1 _).mono hb.size)⟩)
    have HNP := hide (show ¬ fp R Bs v w1.heap.size from fun e9 => by have := HST.out.fl _ e9; have := hb.size; omega)
    have HP := hide hp
    clear h1 hb CP hp
    go_wp2_with fail
    refine wp_region_held_drew (S := fun u => u.cell? ⟨w1.heap.size, 0, none⟩ = some (.int .i64 q) ∧ u.cell? ⟨w1.heap.size, 1, none⟩ = some (.int .i64 i)) (by kernel_rfl) (T0.out.later (Below.refl _ _).drew).ob (fun hHeld => ?_)
    obtain ⟨w6, hw6⟩ : ∃ w6, w6 = (w1.alloc (.cells #[.int .i64 q, .int .i64 i] 74)).drew := ⟨_, rfl⟩
    replace T0 := hide (show Zp R wn Bs v q i w1.heap.size w w6 from by rw [hw6]; exact T0.out.later (Below.refl _ _).drew)
    rw [← hw6] at hHeld ⊢
    clear hw6
    refine Man.t1 0 hHeld ?_
    (try simp only [Act.put, Mqa, Mqb, Mqc])
    refine Man.t1 1 hHeld ?_
    (try simp only [Act.put, Mqa, Mqb, Mqc])
    refine Man.t1 2 hHeld ?_
    (try simp only [Act.put, Mqa, Mqb, Mqc])
    refine Man.t1 3 hHeld ?_
    (try simp only [Act.put, Mqa, Mqb, Mqc])
    refine Man.one (i := 4) rfl (by kernel_rfl) (fun K9 hK => ?_)
    go_simp
    with_reducible refine (remove_any T0.out.s HS.out q i HP.out.hq (HP.out.hy HAT.out) HL.out).mono ?_
    rintro e w8 ⟨rfl, Bs', hm, h1, h2⟩
    have HC := hide (show ChgX PX R wn F 0 (del (its Bs) k s) w (.returned (.int .i64 0)) w8 from HKP.out.2 0 Bs' _ w8 (hm.pre T0.out.l) h1 (by rw [h2]; unfold del; rw [HP.out.hp]))
    obtain ⟨_, _, hO, _⟩ := hm
    have P8 := T0.out.p.kept hO.size (hO.block _ T0.out.p.lt HNP.out)
    clear hO h1 h2
    refine hK.out _ _ ⟨P8.c0, P8.c1⟩ (fun hNew => ?_)
    clear P8
    clear hK K9 hHeld
    have hHeld := hNew
    clear hNew
    (try simp only [Act.put, Mqa, Mqb, Mqc])
    refine wpAnyH_done (by kernel_rfl) ?_ _
    go_wp2_with fail
    go_ret
    exact HC.out
/-- What Close finds. -/
theorem clo_found {Bs : List Bkm} {k : List UInt8} {s : Int} {q i : Nat} (hp : PlI Bs k s q i) (hat : isAt (its Bs) k s = true) : ∃ (x : It) (hi : i < (Bs[q]'hp.hq).xs.length), x = (Bs[q]'hp.hq).xs[i] ∧ x.k = k ∧ x.s = s ∧ getI (its Bs) k s = some x := by
  have hi := hp.hy hat
  obtain ⟨h9, e9⟩ := its_at hp.hq hi
  obtain ⟨hp1, h1, h2⟩ := isAt_yes hat
  have e8 : (its Bs)[pl (its Bs) k s] = (Bs[q]'hp.hq).xs[i] := by rw [← e9]; congr 1; exact hp.hp
  rw [e8] at h1 h2
  refine ⟨_, hi, rfl, h1, h2, ?_⟩
  unfold getI
  rw [if_pos hat, List.getElem?_eq_getElem hp1, e8]
theorem clo_done {wn : Nat} {Bs : List Bkm} (hs : Siz wn Bs) (hu : Up (its Bs)) {k : List UInt8} {s : Int} {q i : Nat} (hp : PlI Bs k s q i) (hat : isAt (its Bs) k s = true) (e : Int) (x : It) (hx : x = (Bs[q]'hp.hq).xs[i]'(hp.hy hat)) (hk : x.k = k) (hss : x.s = s) (ao : Option Addr) (cap : Nat) :
    Siz wn (Bs.take q ++ [⟨ao, cap, (Bs[q]'hp.hq).xs.set i ⟨x.k, x.s, e, x.id⟩⟩] ++ Bs.drop (q + 1)) ∧ its (Bs.take q ++ [⟨ao, cap, (Bs[q]'hp.hq).xs.set i ⟨x.k, x.s, e, x.id⟩⟩] ++ Bs.drop (q + 1)) = clo (its Bs) k s e := by
  have hi := hp.hy hat
  obtain ⟨h9, e9⟩ := its_at hp.hq hi
  obtain ⟨hp1, h1, h2⟩ := isAt_yes hat
  have e8 : (its Bs)[pl (its Bs) k s] = x := by rw [hx, ← e9]; congr 1; exact hp.hp
  refine ⟨siz_more hs q hp.hq _ (by simp) (by simpa using (by have := (hs.one _ (List.getElem_mem hp.hq)).2; omega)), ?_⟩
  rw [its_set hp.hq hi ⟨x.k, x.s, e, x.id⟩ _ rfl, clo_set hu e hp1 h1 h2, e8, hk, hss, hp.hp]
end Idx
end Go.Proofs.Ytapdhelioecneaa
