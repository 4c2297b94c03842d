/- The document's Get, Insert, Delete, Close. Condition: less than a thousand items, texts below 2^62. -/
import Derived.Test.YtapdhelioecneaaU5
import Derived.Deep.MidRow
namespace Go.Proofs.Ytapdhelioecneaa
open Go.RowKit
namespace Idx
/-- What stands for an item that is not there. -/
def noIt : It := ⟨[], 0, 0, 0⟩
/-- An item as a value. -/
def It.agg (x : It) : Value := .agg #[.string (S x.k), .int .i64 x.s, .int .i64 x.e, .int .i64 x.id]
/-- What Get says: the item, 0; or none, 4. -/
def gotI (o : Option It) : It := o.getD noIt
def gotC (o : Option It) : Int := if o.isSome = true then 0 else 4
def GetP (o : Option It) (w : World) (e : Ending) (w' : World) : Prop := e = .returned (.tuple #[(gotI o).agg, .int .i64 (gotC o)]) ∧ Below w.heap.size w w'
theorem results_cell_tmp {P : Program} {fn : Func} {p u : Tmp} {ty : TypeId} (h : fn.results = #[.cell p ty, .tmp u]) (tmps : Array Value) (w : World) {ad : Addr} {v : Value} (hp : tmps.getD p undef = .pointer (some ad)) (hl : (loadVar ty ad).run P w = .ok v w) :
    (results fn tmps).run P w = .ok (.tuple #[v, tmps.getD u undef]) w := by
  have hp' : tmps[p]?.getD undef = .pointer (some ad) := by simpa using hp
  simp [results, h, asAddr, hp', hl, Result.andThen]
/-- An item laid into a box. -/
theorem Bx.set {k : Nat} {y : It} {w : World} (h : Bx y k w) (x : It) : Bx x k ((((w.setCell ⟨k, 0, none⟩ (.string (S x.k))).setCell ⟨k, 1, none⟩ (.int .i64 x.s)).setCell ⟨k, 2, none⟩ (.int .i64 x.e)).setCell ⟨k, 3, none⟩ (.int .i64 x.id)) := by
  have o : ∀ (W : World) (i j : Nat) (u v : Value), i ≠ j → W.cell? ⟨k, i, none⟩ = some v → (W.setCell ⟨k, j, none⟩ u).cell? ⟨k, i, none⟩ = some v := fun W i j u v hij hv => (World.cell?_setCell_other _ _ _ _ (by simp <;> omega)).trans hv
  have n : ∀ (W : World) (j : Nat) (u v : Value), W.cell? ⟨k, j, none⟩ = some v → (W.setCell ⟨k, j, none⟩ u).cell? ⟨k, j, none⟩ = some u := fun W j u v hv => World.cell?_setCell_same _ _ _ hv
  refine ⟨?_, ?_, ?_, ?_, by simp only [World.size_setCell]; exact h.lt⟩
  · exact o _ 0 3 _ _ (by omega) (o _ 0 2 _ _ (by omega) (o _ 0 1 _ _ (by omega) (n _ 0 _ _ h.c0)))
  · exact o _ 1 3 _ _ (by omega) (o _ 1 2 _ _ (by omega) (n _ 1 _ _ (o _ 1 0 _ _ (by omega) h.c1)))
  · exact o _ 2 3 _ _ (by omega) (n _ 2 _ _ (o _ 2 1 _ _ (by omega) (o _ 2 0 _ _ (by omega) h.c2)))
  · exact n _ 3 _ _ (o _ 3 2 _ _ (by omega) (o _ 3 1 _ _ (by omega) (o _ 3 0 _ _ (by omega) h.c3)))
/-- An item that is returned out of a cell. -/
theorem load_it {k : Nat} {x : It} {w : World} (h : Bx x k w) : (loadVar 36 ⟨k, 0, none⟩).run Try.prog w = .ok x.agg w := by
  have e := run_loadVar_mid (P := Try.prog) w k 0 36 x.cells _ (fun j v hj => ?_) Try.underlying36 rfl (by kernel_rfl)
  · exact e
  · unfold It.cells at hj
    match j, hj with
    | 0, hj => simp at hj; subst hj; exact h.c0
    | 1, hj => simp at hj; subst hj; exact h.c1
    | 2, hj => simp at hj; subst hj; exact h.c2
    | 3, hj => simp at hj; subst hj; exact h.c3
    | j + 4, hj => simp at hj
/-- What is read of it: the slice, and where its items lie. -/
theorem RX.open {R : Nat} {F : Nat → Prop} {L : List It} {w : World} (h : RX R F L w) : ∃ (ao : Option Addr) (cap : Nat), L.length ≤ cap ∧ cap ≤ 9223372036854775807 ∧ w.cell? ⟨R, 0, none⟩ = some (.slice ao L.length cap) ∧ w.frozen? ⟨R, 0, none⟩ = false ∧ Row4 36 0 L (.slice ao L.length cap) w ∧ (Value.slice ao L.length cap).ownBlock ≠ some R ∧ ∀ g, (Value.slice ao L.length cap).ownBlock = some g → F g := by
  obtain ⟨v, h1, h2, h3, h4, h5⟩ := h.ex
  obtain ⟨ao, cap, rfl, hc, hm⟩ := h3.form
  exact ⟨ao, cap, hc, hm, h1, h2, h3, h4, h5⟩
set_option maxHeartbeats 4000000 in
set_option maxRecDepth 100000 in
theorem rget_any {R : Nat} {F : Nat → Prop} {L : List It} {w : World} (h : RX R F L w) (hl : L.length ≤ 1000) (hkb : Kb L) (k : List UInt8) (s : Int) (hk : k.length ≤ 140737488351232) :
    Calls Try.prog 25 #[.pointer (some ⟨R, 0, none⟩), .string (S k), .int .i64 s] w fun e w' => GetP (getI L k s) w e w' := by
  obtain ⟨w0, hw0⟩ : ∃ w0, w0 = w.alloc (.cells #[.string ⟨#[]⟩, .int .i64 0, .int .i64 0, .int .i64 0] 36) := ⟨_, rfl⟩
  have HW0 := hide hw0
  have hb0 : Below w.heap.size w w0 := by rw [hw0]; exact below_alloc _ _
  have HB0 := hide hb0
  have HX0 := hide (show Bx noIt w.heap.size w0 from by rw [hw0]; exact Bx.new w noIt 36)
  have HZ0 := hide (show w0.frozen? ⟨w.heap.size, 0, none⟩ = false ∧ w0.frozen? ⟨w.heap.size, 1, none⟩ = false ∧ w0.frozen? ⟨w.heap.size, 2, none⟩ = false ∧ w0.frozen? ⟨w.heap.size, 3, none⟩ = false from by rw [hw0]; exact ⟨by go_keep, by go_keep, by go_keep, by go_keep⟩)
  have h0 := h.later hb0 (Nat.le_refl _)
  have C1 := hide (rfind_any h0 hl hkb k s hk)
  have HR0 := hide h0
  have HL := hide hl
  clear h hb0 h0 hw0 hl hkb
  go_enter Try.func25, Try.ntmps25
  go_wp2_with fail
  rw [← HW0.out]
  refine C1.out.mono ?_
  rintro e w1 ⟨rfl, hb⟩
  have HB1 := hide (HB0.out.trans (hb.mono HB0.out.size))
  have HX1 := hide (HX0.out.later hb HX0.out.lt)
  have z0 : w1.frozen? ⟨w.heap.size, 0, none⟩ = false := by rw [hb.frozen (p := ⟨w.heap.size, 0, none⟩) HX0.out.lt]; exact HZ0.out.1
  have z1 : w1.frozen? ⟨w.heap.size, 1, none⟩ = false := by rw [hb.frozen (p := ⟨w.heap.size, 1, none⟩) HX0.out.lt]; exact HZ0.out.2.1
  have z2 : w1.frozen? ⟨w.heap.size, 2, none⟩ = false := by rw [hb.frozen (p := ⟨w.heap.size, 2, none⟩) HX0.out.lt]; exact HZ0.out.2.2.1
  have z3 : w1.frozen? ⟨w.heap.size, 3, none⟩ = false := by rw [hb.frozen (p := ⟨w.heap.size, 3, none⟩) HX0.out.lt]; exact HZ0.out.2.2.2
  have HR1 := hide (HR0.out.later hb (Nat.le_refl _))
  obtain ⟨c0, c1, c2, c3, _⟩ := HX1.out
  clear hb C1 HB0 HX0 HR0 HZ0 HW0
  cases hat : isAt L k s with
  | false =>
    have HG := hide (show getI L k s = none from by unfold getI; rw [hat]; rfl)
    clear hat
    go_wp2_with fail
    refine bodyPost_ret (results_cell_tmp rfl _ _ rfl (load_it (HX1.out.set noIt))) rfl ?_
    refine ⟨by rw [HG.out]; rfl, ?_⟩
    exact (((HB1.out.setCell (p := ⟨w.heap.size, 0, none⟩) (Nat.le_refl _) _).setCell (p := ⟨w.heap.size, 1, none⟩) (Nat.le_refl _) _).setCell (p := ⟨w.heap.size, 2, none⟩) (Nat.le_refl _) _).setCell (p := ⟨w.heap.size, 3, none⟩) (Nat.le_refl _) _
  | true =>
    obtain ⟨hp, e1, e2⟩ := isAt_yes hat
    have HG := hide (show getI L k s = some L[pl L k s] from by unfold getI; rw [if_pos hat, List.getElem?_eq_getElem hp])
    obtain ⟨ao, cap, hcl, hcm, q0, _, ho, _, _⟩ := HR1.out.open
    obtain ⟨b0, off, cap', he, hbw, k0, k1, k2, k3⟩ := ho.items.at _ hp
    simp only [Value.slice.injEq, true_and] at he
    obtain ⟨rfl, rfl⟩ := he
    obtain ⟨p, hpp⟩ : ∃ p, p = pl L k s := ⟨_, rfl⟩
    obtain ⟨x, hx⟩ : ∃ x, x = L[pl L k s] := ⟨_, rfl⟩
    rw [← hx] at HG k0 k1 k2 k3
    obtain ⟨n, hn⟩ : ∃ n, n = L.length := ⟨_, rfl⟩
    rw [← hpp] at k0 k1 k2 k3 hp ⊢
    rw [← hn] at q0 hp
    have hl := HL.out
    rw [← hn] at hl
    have g1 : (p : Int) < (n : Int) := by omega
    clear hat e1 e2 ho hx hpp hn hbw hcl
    go_wp2_with fail
    refine bodyPost_ret (results_cell_tmp rfl _ _ rfl (load_it (HX1.out.set x))) rfl ?_
    refine ⟨by rw [HG.out]; rfl, ?_⟩
    exact (((HB1.out.setCell (p := ⟨w.heap.size, 0, none⟩) (Nat.le_refl _) _).setCell (p := ⟨w.heap.size, 1, none⟩) (Nat.le_refl _) _).setCell (p := ⟨w.heap.size, 2, none⟩) (Nat.le_refl _) _).setCell (p := ⟨w.heap.size, 3, none⟩) (Nat.le_refl _) _
/-- What a change comes to: it says c; the index has L' now, in blocks F'. -/
def ChgP (R : Nat) (F : Nat → Prop) (c : Int) (L' : List It) (w : World) (e : Ending) (w' : World) : Prop := e = .returned (.int .i64 c) ∧ ∃ F', RX R F' L' w' ∧ To F F' w w'
theorem ChgP.same {R : Nat} {F : Nat → Prop} {L : List It} {w w' : World} {c : Int} (h : RX R F L w) (hb : Below w.heap.size w w') : ChgP R F c L w (.returned (.int .i64 c)) w' := ⟨rfl, F, h.later hb (Nat.le_refl _), .below hb⟩
set_option maxHeartbeats 8000000 in
set_option maxRecDepth 100000 in
theorem rclose_any {R : Nat} {F : Nat → Prop} {L : List It} {w : World} (h : RX R F L w) (hup : Up L) (hl : L.length ≤ 1000) (hkb : Kb L) (k : List UInt8) (s e9 : Int) (hk : k.length ≤ 140737488351232) :
    Calls Try.prog 15 #[.pointer (some ⟨R, 0, none⟩), .string (S k), .int .i64 s, .int .i64 e9] w fun e w' => ChgP R F (cloC L k s e9) (cloL L k s e9) w e w' := by
  have C1 := hide (rfind_any h hl hkb k s hk)
  have HR := hide h
  have HL := hide hl
  have HU := hide hup
  clear h hl hkb hup
  have HS := hide (fun (c : Int) (hc : c ≠ 0) (h9 : cloC L k s e9 = c) => show cloL L k s e9 = L from by unfold cloL; rw [h9, if_neg hc])
  go_enter Try.func15, Try.ntmps15
  go_wp2_with fail
  refine C1.out.mono ?_
  rintro e w1 ⟨rfl, hb⟩
  have HB1 := hide hb
  have HR1 := hide (HR.out.later hb (Nat.le_refl _))
  clear hb C1
  cases hat : isAt L k s with
  | false =>
    have HC := hide (show cloC L k s e9 = 4 from by unfold cloC getI; rw [hat]; rfl)
    have HE := hide (HS.out 4 (by decide) HC.out)
    clear hat
    go_wp2_with fail
    go_ret
    have h9 := ChgP.same (c := 4) HR.out HB1.out
    unfold ChgP at h9 ⊢
    rw [HC.out, HE.out]; exact h9
  | true =>
    obtain ⟨hp, e1, e2⟩ := isAt_yes hat
    have hg : getI L k s = some L[pl L k s] := by unfold getI; rw [if_pos hat, List.getElem?_eq_getElem hp]
    obtain ⟨ao, cap, hcl, hcm, q0, _, ho, hne, hF⟩ := HR1.out.open
    obtain ⟨g, cap', he, _, _, _, _⟩ := ho.held (by omega)
    simp only [Value.slice.injEq, true_and] at he
    obtain ⟨rfl, rfl⟩ := he
    have HO := hide ho
    have HNE := hide (show g ≠ R from fun e => hne (by rw [e]; rfl))
    have HFG := hide (hF g rfl)
    obtain ⟨x, hx⟩ : ∃ x, x = L[pl L k s] := ⟨_, rfl⟩
    have hg' : getI L k s = some x := by rw [hx]; exact hg
    have HSET := hide (show clo L k s e9 = L.set (pl L k s) ⟨k, s, e9, x.id⟩ from by rw [hx]; exact clo_set HU.out e9 hp e1 e2)
    have h8 := (ho.items.got _ hp).2
    rw [← hx] at h8
    simp only [Nat.zero_add] at h8
    obtain ⟨k0, k1, k2, k3⟩ := h8
    have z2 : w1.frozen? ⟨g, pl L k s * 4 + 2, none⟩ = false := by
      unfold Row4 at ho
      exact ho.frozenAt _
    have HPL := hide hp
    have hle := HL.out
    have HCO := hide (show cloC L k s e9 = if x.e ≠ 1099511627776 then 6 else if e9 ≤ s ∨ 1099511627776 ≤ e9 then 1 else 0 from by unfold cloC; rw [hg'])
    have HX1 := hide (show x.k = k from by rw [hx]; exact e1)
    have HX2 := hide (show x.s = s from by rw [hx]; exact e2)
    obtain ⟨p, hpp⟩ : ∃ p, p = pl L k s := ⟨_, rfl⟩
    obtain ⟨n, hn⟩ : ∃ n, n = L.length := ⟨_, rfl⟩
    rw [← hpp] at k0 k1 k2 k3 z2 HSET ⊢
    rw [← hn] at q0 hle
    have hp2 : p < n := by rw [hpp, hn]; exact hp
    have g1 : (p : Int) < (n : Int) := by omega
    have HXX := hide (show ∀ h : pl L k s < L.length, L[pl L k s]'h = x from fun _ => hx.symm)
    have HPP := hide hpp
    have HNN := hide hn
    clear hat e1 e2 hg hg' ho hne hF hx hpp hn hp hcl
    by_cases h1 : x.e = 1099511627776
    · have f1 : (x.e != 1099511627776) = false := by simpa using h1
      have HCO2 := hide (HCO.out.trans (if_neg (fun h9 => h9 h1)))
      by_cases h2 : e9 ≤ s
      · have HC := hide (HCO2.out.trans (if_pos (.inl h2)))
        have HE := hide (HS.out 1 (by decide) HC.out)
        clear h1
        go_wp2_with fail
        go_ret
        have h9 := ChgP.same (c := 1) HR.out HB1.out
        unfold ChgP at h9 ⊢
        rw [HC.out, HE.out]; exact h9
      · by_cases h3 : 1099511627776 ≤ e9
        · have HC := hide (HCO2.out.trans (if_pos (.inr h3)))
          have HE := hide (HS.out 1 (by decide) HC.out)
          clear h1
          go_wp2_with fail
          go_ret
          have h9 := ChgP.same (c := 1) HR.out HB1.out
          unfold ChgP at h9 ⊢
          rw [HC.out, HE.out]; exact h9
        · have HC := hide (HCO2.out.trans (if_neg (fun h9 => h9.elim h2 h3)))
          have HE := hide (show cloL L k s e9 = L.set p ⟨k, s, e9, x.id⟩ from by unfold cloL; rw [if_pos HC.out]; exact HSET.out)
          clear h1
          go_wp2_with fail
          go_ret
          unfold ChgP
          rw [HC.out, HE.out]
          refine ⟨rfl, F, ⟨⟨.slice (some ⟨g, 0, none⟩) n cap, ?_, ?_, ?_, ?_, fun g9 hg9 => ?_⟩, ?_, HR1.out.f, fun k9 hk9 => ?_⟩, ?_⟩
          · rw [World.cell?_setCell_other _ _ _ _ (by have := HNE.out; simp <;> omega)]
            exact q0
          · rw [World.frozen?_setCell]
            obtain ⟨_, _, h8, _⟩ := HR1.out.ex
            exact h8
          · have h8 := HO.out
            rw [← HNN.out] at h8
            exact h8.set p (by rw [← HNN.out]; exact hp2) ⟨k, s, e9, x.id⟩ (by simp only [HPP.out]; rw [HXX.out]; exact HX1.out.symm) (by simp only [HPP.out]; rw [HXX.out]; exact HX2.out.symm) (by simp only [HPP.out]; rw [HXX.out])
          · intro e; have := Option.some.inj e; exact HNE.out this
          · have := Option.some.inj hg9; rw [← this]; exact HFG.out
          · rw [World.size_setCell]; exact HR1.out.lt
          · rw [World.size_setCell]; exact HR1.out.fl k9 hk9
          · exact .own ((Only.of HB1.out).set (.inl HFG.out) _)
    · have f1 : (x.e != 1099511627776) = true := by simpa using h1
      have HC := hide (HCO.out.trans (if_pos h1))
      have HE := hide (HS.out 6 (by decide) HC.out)
      clear h1
      go_wp2_with fail
      go_ret
      have h9 := ChgP.same (c := 6) HR.out HB1.out
      unfold ChgP at h9 ⊢
      rw [HC.out, HE.out]; exact h9
end Idx
end Go.Proofs.Ytapdhelioecneaa
