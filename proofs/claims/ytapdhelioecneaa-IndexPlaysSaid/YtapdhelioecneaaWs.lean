/- What lies between keys and times: plain; a question's boxes; the iterator over the index's blocks. Condition: less than a thousand items. -/
import Derived.Test.YtapdhelioecneaaWr
import Derived.Test.YtapdhelioecneaaWq
namespace Go.Proofs.Ytapdhelioecneaa
open Go.RowKit
attribute [local go_sem] Oper.semAt_some
namespace Idx
/-! ### plain -/
def wiB (lo hi : List UInt8) (f t : Int) (x : It) : Bool := amongB x.k lo hi && (decide (x.s ≤ t) && decide (f < x.e))
theorem within_done {Bs : List Bkm} {lo : List UInt8} (hi : List UInt8) (f t : Int) {q : Nat} (hh : Hol Bs lo 0 q) (hs : ∀ e, e ∈ its Bs → 0 ≤ e.s) : (its (Bs.drop q)).filter (wiB lo hi f t) = (its Bs).filter (wiB lo hi f t) := by
  have h0 : (its (Bs.take q)).filter (wiB lo hi f t) = [] := by
    rw [List.filter_eq_nil_iff]
    intro e he hw
    have h1 := ahead_iff.1 (hh.a e he)
    have h2 := hs e (by rw [its_cut Bs q]; exact List.mem_append.2 (.inl he))
    have h3 : Op.bytesLess e.k lo = true := by
      rcases h1 with h1 | ⟨_, h1⟩
      · exact h1
      · omega
    unfold wiB amongB at hw
    rw [h3] at hw; simp at hw
  rw [its_cut Bs q, List.filter_append, h0, List.nil_append]
theorem within_stop {Bs : List Bkm} {lo hi : List UInt8} (f t : Int) {q : Nat} {pre : List Bkm} {x : Bkm} (hu : Up (its Bs)) (hp : pre ++ [x] <+: Bs.drop q) (hx : 1 ≤ x.xs.length) (hn : hi ≠ []) (hk : Op.bytesLess (b0 x).k hi = false) :
    (its pre).filter (wiB lo hi f t) = (its (Bs.drop q)).filter (wiB lo hi f t) := by
  obtain ⟨r, hr⟩ := hp
  have hu2 : Up (its (pre ++ [x] ++ r)) := by
    rw [hr]
    unfold Up at hu ⊢
    rw [its_cut Bs q] at hu
    exact (List.pairwise_append.1 hu).2.1
  rw [its_app, its_app, its_one, List.append_assoc] at hu2
  have hu3 : Up (x.xs ++ its r) := (List.pairwise_append.1 hu2).2.1
  rw [← hr, its_app, its_app, its_one, List.append_assoc, List.filter_append]
  have h0 : (x.xs ++ its r).filter (wiB lo hi f t) = [] := by
    rw [List.filter_eq_nil_iff]
    intro e he hw
    have hge : Op.bytesLess e.k hi = false := by
      cases hxs : x.xs with
      | nil => rw [hxs] at hx; simp at hx
      | cons a l =>
        have hb : b0 x = a := by unfold b0; rw [hxs]; rfl
        rw [hb] at hk
        rw [hxs, List.cons_append] at he hu3
        rcases List.mem_cons.1 he with rfl | he
        · exact hk
        · have hah := (List.pairwise_cons.1 hu3).1 e he
          cases hc : Op.bytesLess e.k hi with
          | false => rfl
          | true =>
            rcases ahead_iff.1 hah with h | ⟨h, _⟩
            · rw [less_trans _ _ _ h hc] at hk; cases hk
            · rw [h, hc] at hk; cases hk
    unfold wiB amongB at hw
    rw [hge, decide_eq_false hn] at hw; simp at hw
  rw [h0, List.append_nil]
theorem within_past {l : List It} (lo hi : List UInt8) {f : Int} (t : Int) (h : maxE l ≤ f) : l.filter (wiB lo hi f t) = [] := by
  rw [List.filter_eq_nil_iff]
  intro e he hw
  have := maxE_ge he
  unfold wiB at hw
  rw [decide_eq_false (show ¬ f < e.e by omega)] at hw; simp at hw
/-- What is told of these blocks. -/
def sel (c : It → Bool) (pre : List Bkm) : List It := (its pre).filter c
theorem sel_snoc (c : It → Bool) (pre : List Bkm) (x : Bkm) : sel c (pre ++ [x]) = sel c pre ++ x.xs.filter c := by unfold sel; rw [its_app, its_one, List.filter_append]
theorem sel_len (c : It → Bool) {Bs : List Bkm} (hl : (its Bs).length ≤ 999) (pre : List {b // b ∈ Bs}) : (sel c (pre.map (·.1))).length ≤ 999 * pre.length := by
  induction pre with
  | nil => simp [sel, its]
  | cons a pre ih =>
    have h1 := mem_len a.2
    have h2 := List.length_filter_le c a.1.xs
    have e : sel c ((a :: pre).map (·.1)) = a.1.xs.filter c ++ sel c (pre.map (·.1)) := by unfold sel; rw [List.map_cons, its_cons, List.filter_append]
    rw [e, List.length_append, List.length_cons]; omega
/-! ### memory -/
theorem keeps_below {w w' : World} (h : Below w.heap.size w w') : KeepsOthers w w' := ⟨h.size, fun k _ hk _ => (h.block k (lt_of_block hk)).trans hk⟩
/-- A question's boxes, and what it tells so far. -/
def LX (b : Nat) (lo hi : List UInt8) (f t : Int) (L : List It) (W : World) : Prop := (∃ u, Boxed W (b + 4) 42 u ∧ W.ownsRow (b + 5) 31 4 u L.length (flat L) ∧ True) ∧ Boxed W b 9 (.string (S lo)) ∧ Boxed W (b + 1) 9 (.string (S hi)) ∧ Boxed W (b + 2) 3 (.int .i64 f) ∧ Boxed W (b + 3) 3 (.int .i64 t)
theorem LX.own {α : Type} (b : Nat) (lo hi : List UInt8) (f t : Int) (g : α → List It) : Own (fun (s : α) W => LX b lo hi f t (g s) W) := fun s W W' row h hg hr =>
  ⟨holdsRow_own (b + 5) (b + 4) 42 31 4 (fun s : α => (g s).length) (fun s => flat (g s)) (fun _ _ => True) s W W' row h.1 hg hr, boxed_own b 9 (fun _ : α => .string (S lo)) s W W' row h.2.1 hg hr, boxed_own (b + 1) 9 (fun _ : α => .string (S hi)) s W W' row h.2.2.1 hg hr, boxed_own (b + 2) 3 (fun _ : α => .int .i64 f) s W W' row h.2.2.2.1 hg hr, boxed_own (b + 3) 3 (fun _ : α => .int .i64 t) s W W' row h.2.2.2.2 hg hr⟩
section
variable {b : Nat} {lo hi : List UInt8} {f t : Int} {L : List It} {W W' : World}
theorem LX.lt (h : LX b lo hi f t L W) : b + 4 < W.heap.size := h.1.elim fun _ h => h.1.lt
theorem LX.later (h : LX b lo hi f t L W) (hb : Below W.heap.size W W') : LX b lo hi f t L W' := by
  obtain ⟨⟨u, h1, h2, _⟩, h3, h4, h5, h6⟩ := h
  exact ⟨⟨u, (hb.block _ h1.lt).trans h1, Row4.later (e := 31) (base := b + 5) (l := L) h2 hb (Nat.le_refl _), trivial⟩, (hb.block _ h3.lt).trans h3, (hb.block _ h4.lt).trans h4, (hb.block _ h5.lt).trans h5, (hb.block _ h6.lt).trans h6⟩
theorem LX.row (h : LX b lo hi f t L W) : ∃ u, W.cell? ⟨b + 4, 0, none⟩ = some u ∧ W.frozen? ⟨b + 4, 0, none⟩ = false ∧ Row4 31 (b + 5) L u W := by
  obtain ⟨⟨u, h1, h2, _⟩, _⟩ := h
  exact ⟨u, h1.cell, h1.frozen, h2⟩
/-- One is told more. -/
theorem LX.put {u u' : Value} {z : World} {M : List It} (h : LX b lo hi f t L W) (hr : Row4 31 (b + 5) L u W) (hc : W.cell? ⟨b + 4, 0, none⟩ = some u) (hg : W.grownBy z u.ownBlock) (hz : Row4 31 (b + 5) M u' z) :
    z.cell? ⟨b + 4, 0, none⟩ = some u ∧ z.frozen? ⟨b + 4, 0, none⟩ = false ∧ LX b lo hi f t M (z.setCell ⟨b + 4, 0, none⟩ u') ∧ Below (b + 5) W z ∧ KeepsOthers W z := by
  have h0 := h
  obtain ⟨⟨u9, h1, h2, _⟩, h3, h4, h5, h6⟩ := h
  have e : u9 = u := by have := h1.cell; rw [hc] at this; exact (Option.some.inj this).symm
  subst e
  have hne : ∀ k, k < b + 5 → some k ≠ u9.ownBlock := fun k hk e => by have h9 := (hr.lt k e.symm).1; omega
  have g1 := h1.kept hg (hne _ (by omega))
  have hb : Below (b + 5) W z := (Below.refl (b + 5) W).grown hg (by have := (LX.lt h0); omega) (fun k hk => Nat.le_of_not_lt (fun h9 => hne k h9 hk.symm))
  refine ⟨g1.cell, g1.frozen, ⟨⟨u', g1.set u', ?_, trivial⟩, (h3.kept hg (hne _ (by omega))).other (by omega) _, (h4.kept hg (hne _ (by omega))).other (by omega) _, (h5.kept hg (hne _ (by omega))).other (by omega) _, (h6.kept hg (hne _ (by omega))).other (by omega) _⟩, hb, .of_grownBy hg fun j o ej hj => ?_⟩
  · exact Row4.kept (w := z) hz (fun g9 h9 => heap_set_other _ _ _ _ _ (by have h8 := (hz.lt g9 h9).1; omega))
  · rcases h2.2 with ⟨rfl, _⟩ | ⟨g, cap, cur, rfl, _, hgb, _⟩
    · simp [Value.ownBlock] at ej
    · obtain rfl : g = j := by simpa [Value.ownBlock] using ej
      rw [hgb] at hj; cases hj; rfl
end
end Idx
end Go.Proofs.Ytapdhelioecneaa
