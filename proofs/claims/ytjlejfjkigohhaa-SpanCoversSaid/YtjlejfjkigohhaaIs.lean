/- A result laid in a box before the call, or behind it; what a row of intervals covers. Conditions: as each says. -/
import Derived.Test.YtjlejfjkigohhaaIr
import Derived.Deep.DeepCutAuto
import Derived.Deep.CutBlock
namespace Go.Proofs.Ytjlejfjkigohhaa
open Go.RowKit
namespace Spn
section
variable {w wr w2 : World} {L : List (Nat × Sp)}
theorem zbox2 {T : TypeId} (hb : Below (wr.alloc (.cells #[.int .i64 0, .int .i64 0] T)).drew.heap.size (wr.alloc (.cells #[.int .i64 0, .int .i64 0] T)).drew w2) :
    w2.cell? ⟨wr.heap.size, 0, none⟩ = some (.int .i64 0) ∧ w2.cell? ⟨wr.heap.size, 1, none⟩ = some (.int .i64 0) ∧ w2.frozen? ⟨wr.heap.size, 0, none⟩ = false ∧ w2.frozen? ⟨wr.heap.size, 1, none⟩ = false := by
  have h := (At.new wr 0 0 T).later (w' := w2) (n := (wr.alloc (.cells #[.int .i64 0, .int .i64 0] T)).heap.size) ((Below.refl _ (wr.alloc (.cells #[.int .i64 0, .int .i64 0] T))).drew.trans hb) (by simp)
  exact ⟨h.c0, h.c1, h.z, h.z1⟩
theorem At.put2 {s : Sp} {k : Nat} {z : World} (h : At s k z) (a b : Int) : At (a, b) k ((z.setCell ⟨k, 0, none⟩ (.int .i64 a)).setCell ⟨k, 1, none⟩ (.int .i64 b)) := by
  obtain ⟨c0, c1, f0, f1, lt⟩ := h
  have hne : (⟨k, 0, none⟩ : Addr) ≠ ⟨k, 1, none⟩ := by simp
  have d1 : (z.setCell ⟨k, 0, none⟩ (.int .i64 a)).cell? ⟨k, 1, none⟩ = some (.int .i64 s.2) := by rw [World.cell?_setCell_other (h := hne)]; exact c1
  refine ⟨?_, World.cell?_setCell_same _ _ _ d1, by simpa using f0, by simpa using f1, by simpa using lt⟩
  rw [World.cell?_setCell_other (h := hne.symm)]
  exact World.cell?_setCell_same _ _ _ c0
theorem bx_before (h : Bx w L wr) (hb : Below (wr.alloc (.cells #[.int .i64 0, .int .i64 0] 23)).drew.heap.size (wr.alloc (.cells #[.int .i64 0, .int .i64 0] 23)).drew w2) (p q : Int) :
    At (p, q) wr.heap.size ((w2.setCell ⟨wr.heap.size, 0, none⟩ (.int .i64 p)).setCell ⟨wr.heap.size, 1, none⟩ (.int .i64 q)) ∧ Bx w L ((w2.setCell ⟨wr.heap.size, 0, none⟩ (.int .i64 p)).setCell ⟨wr.heap.size, 1, none⟩ (.int .i64 q)) := by
  have h1 := (h.later (below_alloc wr (.cells #[.int .i64 0, .int .i64 0] 23))).later ((Below.refl _ (wr.alloc (.cells #[.int .i64 0, .int .i64 0] 23))).drew.trans hb)
  have ha := (At.new wr 0 0 23).later (w' := w2) (n := (wr.alloc (.cells #[.int .i64 0, .int .i64 0] 23)).heap.size) ((Below.refl _ (wr.alloc (.cells #[.int .i64 0, .int .i64 0] 23))).drew.trans hb) (by simp)
  have hsz := h.bel.size
  refine ⟨ha.put2 p q, fun e he => ?_, (h1.bel.setCell (p := ⟨wr.heap.size, 0, none⟩) hsz _).setCell (p := ⟨wr.heap.size, 1, none⟩) hsz _⟩
  have hlt := (h.at_ e he).lt
  have hs := h1.at_ e he
  have e1 : ((w2.setCell ⟨wr.heap.size, 0, none⟩ (.int .i64 p)).setCell ⟨wr.heap.size, 1, none⟩ (.int .i64 q)).heap[e.1]? = w2.heap[e.1]? := by
    rw [Below.heap_setCell _ ⟨wr.heap.size, 1, none⟩ _ e.1 (by show e.1 ≠ wr.heap.size; omega), Below.heap_setCell _ ⟨wr.heap.size, 0, none⟩ _ e.1 (by show e.1 ≠ wr.heap.size; omega)]
  exact ⟨by rw [World.cell?_of_block (a := ⟨e.1, 0, none⟩) e1]; exact hs.c0, by rw [World.cell?_of_block (a := ⟨e.1, 1, none⟩) e1]; exact hs.c1, by rw [World.frozen?_of_block (a := ⟨e.1, 0, none⟩) e1]; exact hs.z, by rw [World.frozen?_of_block (a := ⟨e.1, 1, none⟩) e1]; exact hs.z1, by simpa using hs.lt⟩
theorem bx_behind (h : Bx w L wr) (hb : Below wr.drew.heap.size wr.drew w2) (p q : Int) :
    At (p, q) w2.heap.size (w2.alloc (.cells #[.int .i64 p, .int .i64 q] 23)) ∧ Bx w L (w2.alloc (.cells #[.int .i64 p, .int .i64 q] 23)) :=
  ⟨At.new w2 p q _, (h.later ((Below.refl _ _).drew.trans hb)).later (below_alloc _ _)⟩
end
/-! ### Plain -/
/-- Has one of them the time? -/
def hasC (l : List Sp) (t : Int) : Bool := l.any fun s => decide (Has s t)
theorem hasC_iff (l : List Sp) (t : Int) : hasC l t = true ↔ HasL l t := by
  unfold hasC HasL
  rw [List.any_eq_true]
  constructor
  · rintro ⟨s, h1, h2⟩; exact ⟨s, h1, of_decide_eq_true h2⟩
  · rintro ⟨s, h1, h2⟩; exact ⟨s, h1, decide_eq_true h2⟩
theorem hasC_snoc (l : List Sp) (s : Sp) (t : Int) : hasC (l ++ [s]) t = (hasC l t || decide (Has s t)) := by simp [hasC]
theorem cov_self {l : List Sp} {x : Sp} (h : x ∈ l) : covB l x = true := (covB_iff l x).2 (fun _ ht => ⟨x, h, ht⟩)
theorem cov_meet {l : List Sp} {x : Sp} (h : x ∈ l) (s : Sp) : covB l (meet x s).1 = true :=
  (covB_iff l _).2 (fun t ht => ⟨x, h, ((has_meet x s t).1 ht).1⟩)
theorem cov_join {l : List Sp} {x y : Sp} (hx : x ∈ l) (hy : y ∈ l) (hc : (join x y).2 = true) : covB l (join x y).1 = true := by
  by_cases h : Joins x y
  · rw [join_yes h]
    exact (covB_iff l _).2 (fun t ht => by
      rcases (has_wide h t).1 ht with h1 | h1
      · exact ⟨x, hx, h1⟩
      · exact ⟨y, hy, h1⟩)
  · rw [join_no h] at hc; cases hc
theorem cov_has {l : List Sp} {s : Sp} (hc : covB l s = true) {t : Int} (ht : Has s t) : hasC l t = true := (hasC_iff l t).2 ((covB_iff l s).1 hc t ht)
theorem has_w {a b t : Int} {p : Bool} (h : decide (Has (a, b) t) = p) (w : World) :
    Calls Try.prog 16 #[.agg #[.int .i64 a, .int .i64 b], .int .i64 t] w fun e w' => e = .returned (.bool p) ∧ Below w.heap.size w w' := by
  have := has_any a b t w
  rwa [h] at this
end Spn
end Go.Proofs.Ytjlejfjkigohhaa
