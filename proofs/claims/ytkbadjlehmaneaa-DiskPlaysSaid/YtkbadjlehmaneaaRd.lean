/- The document's Write. Conditions: as each says. -/
import Derived.Test.YtkbadjlehmaneaaRc
import Derived.Deep.AppendLies
namespace Go.Proofs.Ytkbadjlehmaneaa
open Go.RowKit
namespace Dsk
set_option maxHeartbeats 1000000 in
theorem rwrite_off {R : Nat} {d : PD} {T : Nat → Prop} (k : Int) (s : ByteArray) (w : World) (h : RefIs R d T w) (hk : off d.n k) :
    Calls Try.prog 12 #[.pointer (some ⟨R, 0, none⟩), .int .i64 k, .string s] w fun e w' => e = .returned (.int .i64 2) ∧ Below w.heap.size w w' := by
  obtain ⟨lf, g, lc, wo, wc, hA, r1, r2, r3, r4⟩ := h
  have c0 := hA.c0
  clear hA
  rcases hk with hk | hk
  · go_enter Try.func12, Try.ntmps12
    go_wp2_with fail
    go_ret
    exact ⟨rfl, Below.refl _ _⟩
  · have f1 : ¬ k < 0 := by omega
    go_enter Try.func12, Try.ntmps12
    go_wp2_with fail
    go_ret
    exact ⟨rfl, Below.refl _ _⟩
set_option maxHeartbeats 1000000 in
theorem rwrite_big {R : Nat} {d : PD} {T : Nat → Prop} (k : Nat) (s : ByteArray) (hs : 128 < s.size) (w : World) (h : RefIs R d T w) (hk : k < d.n) :
    Calls Try.prog 12 #[.pointer (some ⟨R, 0, none⟩), .int .i64 (k : Int), .string s] w fun e w' => e = .returned (.int .i64 19) ∧ Below w.heap.size w w' := by
  obtain ⟨lf, g, lc, wo, wc, hA, r1, r2, r3, r4⟩ := h
  have c0 := hA.c0
  have f1 : (128 : Int) < (s.size : Int) := by omega
  have f2 : ¬ (k : Int) < 0 := by omega
  have f3 : ¬ (d.n : Int) ≤ (k : Int) := by omega
  clear hA
  go_enter Try.func12, Try.ntmps12
  go_wp2_with fail
  go_ret
  exact ⟨rfl, Below.refl _ _⟩
set_option maxHeartbeats 1000000 in
theorem rwrite_burnt {R : Nat} {d : PD} {T : Nat → Prop} (k : Nat) (s : ByteArray) (hs : s.size ≤ 128) (w : World) (h : RefIs R d T w) (hk : k < d.n) (hb : d.burnt = true) :
    Calls Try.prog 12 #[.pointer (some ⟨R, 0, none⟩), .int .i64 (k : Int), .string s] w fun e w' => e = .returned (.int .i64 6) ∧ Below w.heap.size w w' := by
  obtain ⟨lf, g, lc, wo, wc, hA, r1, r2, r3, r4⟩ := h
  have hfu : d.fu = true ∧ d.lf = 0 := by unfold PD.burnt at hb; simpa using hb
  have c0 := hA.c0
  have c4 := hA.c4
  have c5 := hA.c5
  rw [hfu.1] at c4
  rw [r1 hfu.1, hfu.2] at c5
  have B := hidm (rburnt_yes R w c4 c5)
  have f1 : ¬ (128 : Int) < (s.size : Int) := by omega
  have f2 : ¬ (k : Int) < 0 := by omega
  have f3 : ¬ (d.n : Int) ≤ (k : Int) := by omega
  clear hA c4 c5 r1 r2 r3 r4 hfu hb
  go_enter Try.func12, Try.ntmps12
  go_wp2_with fail
  refine B.out.mono ?_
  rintro e w1 ⟨rfl, rfl⟩
  go_wp2_with fail
  go_ret
  exact ⟨rfl, Below.refl _ _⟩
theorem infoR : (Try.prog.info? 69).map (fun i => (i.zero, i.size, i.bytes)) = some (some (.agg #[.int .i64 0, .string ⟨#[]⟩]), 2, 24) := by kernel_rfl
theorem rwrite_grown {R : Nat} {d : PD} {T : Nat → Prop} {w W1 : World} {lf : Int} {g lc : Nat} {wo : Option Addr} {wc m : Nat} {tx : List UInt8} {k : Nat} (hm : m = d.cs.length)
    (hA1 : RefAt R (rowL d.n (undoW d.f d.cs)) d.n d.cs m d.wr d.fl d.fu (lf - 1) g lc wo wc T W1) (hO1 : Only T w W1) (hsz1 : W1.heap.size = w.heap.size) (hlt : ∀ k, T k → k < w.heap.size) :
    ∀ w2, Below W1.drew.heap.size W1.drew w2 → ∀ w7 g' cap', w7.ownsRow 0 69 2 (.slice (some ⟨g', 0, none⟩) (m + 1) cap') (m + 1) (flatR d.cs ++ [.int .i64 (k : Int), .string (S tx)]) →
      (w2.alloc (.cells #[.int .i64 (k : Int), .string (S tx)] 69)).grownBy w7 (Value.slice wo m wc).ownBlock → ((Value.slice wo m wc).ownBlock = some g' ∨ g' = (w2.alloc (.cells #[.int .i64 (k : Int), .string (S tx)] 69)).heap.size) → g' < w7.heap.size →
      w7.cell? ⟨R, 1, none⟩ = some (.slice wo m wc) ∧ w7.frozen? ⟨R, 1, none⟩ = false ∧
        (RefAt R (rowL d.n (undoW d.f d.cs)) d.n (d.cs ++ [⟨k, tx, d.f k⟩]) (m + 1) d.wr d.fl d.fu (lf - 1) g lc (some ⟨g', 0, none⟩) cap' (Grow T w w7) (w7.setCell ⟨R, 1, none⟩ (.slice (some ⟨g', 0, none⟩) (m + 1) cap')) ∧
          Only T w (w7.setCell ⟨R, 1, none⟩ (.slice (some ⟨g', 0, none⟩) (m + 1) cap')) ∧ w7.heap.size = (w7.setCell ⟨R, 1, none⟩ (.slice (some ⟨g', 0, none⟩) (m + 1) cap')).heap.size) := by
  intro w2 hb2 w7 g' cap' hown hgrow hg hlt7
  have hsd : W1.drew.heap.size = w.heap.size := hsz1
  have hba : Below W1.drew.heap.size W1.drew (w2.alloc (.cells #[.int .i64 (k : Int), .string (S tx)] 69)) := hb2.alloc hb2.size _
  have hAd := hA1.later ((Below.refl _ W1).drew)
  have hAa := hAd.later hba
  have hob : ∀ q, (Value.slice wo m wc).ownBlock = some q → T q ∧ q ≠ R ∧ q ≠ g := fun q hq => by
    cases hwo : wo with
    | none => rw [hwo] at hq; cases hq
    | some p =>
      rw [hwo] at hq; cases hq
      exact ⟨hA1.tW p hwo, (hAa.wAt p hwo).1, (hAa.wAt p hwo).2.1⟩
  have hRl := lt_of_block hAa.row
  have hgl := hAa.part.lt
  have hrow : w7.heap[R]? = some (.cells (rcells g d.n lc wo m wc d.wr d.fl d.fu (lf - 1)) 46 (0, 0)) := by
    rw [hgrow.block R hRl (fun e => (hob R e.symm).2.1 rfl)]
    exact hAa.row
  have hpart : Part (rowL d.n (undoW d.f d.cs)) g 0 lc w7 := hAa.part.keep (hgrow.block g hgl (fun e => (hob g e.symm).2.2 rfl))
  have hne : ∀ q, q ≠ R → (w7.setCell ⟨R, 1, none⟩ (.slice (some ⟨g', 0, none⟩) (m + 1) cap')).heap[q]? = w7.heap[q]? := fun q hq => heap_setCell_other w7 _ q _ hq
  have hg'R : g' ≠ R := fun e => by
    rcases hown.2 with ⟨hv, _⟩ | ⟨g2, c, cur, hv, _, hh, _⟩
    · cases hv
    · simp only [Value.slice.injEq, Option.some.injEq, Addr.mk.injEq] at hv
      obtain ⟨⟨rfl, _⟩, _⟩ := hv
      rw [e, hrow] at hh
      simp at hh
  have hsa : w.heap.size ≤ (w2.alloc (.cells #[.int .i64 (k : Int), .string (S tx)] 69)).heap.size := by have := hba.size; omega
  have hs7 := hgrow.size
  have hT7 : T g' ∨ (w.heap.size ≤ g' ∧ g' < w7.heap.size) := by
    rcases hg with hg | hg
    · exact .inl (hob g' hg).1
    · exact .inr ⟨by omega, hlt7⟩
  refine ⟨row_cell hrow 1, frozen_of_row w7 R 1 _ _ hrow, ⟨by rw [heap_setCell_same w7 R 1 _ _ _ hrow]; rfl, hpart.keep (hne g hA1.gR), ?_, rowL_len _ _, by simp [hm], .inl hA1.tR, .inl hA1.tG, fun p hp => ?_, fun q hq => ?_⟩, ?_, by simp⟩
  · have e : flatR (d.cs ++ [(⟨k, tx, d.f k⟩ : Wt)]) = flatR d.cs ++ [.int .i64 (k : Int), .string (S tx)] := flatR_snoc _ _
    rw [e]
    exact ownsRow_of hown (fun q hq => hne q (by cases hq; exact hg'R))
  · cases hp; exact hT7
  · have : (w7.setCell ⟨R, 1, none⟩ (.slice (some ⟨g', 0, none⟩) (m + 1) cap')).heap.size = w7.heap.size := by simp
    rw [this]
    rcases hq with hq | hq
    · have := hlt q hq; omega
    · exact hq.2
  · have h1 : Only T w (w2.alloc (.cells #[.int .i64 (k : Int), .string (S tx)] 69)) := (hO1.trans (T' := fun _ => False) (.of ((Below.refl _ W1).drew)) (fun _ h => h.elim)).trans (T' := fun _ => False) (.of hba) (fun _ h => h.elim)
    exact (h1.grown hgrow (fun q hq => .inl (hob q hq).1)).set (p := ⟨R, 1, none⟩) (.inl hA1.tR) _
theorem rwrite_fin {R : Nat} {d : PD} {T : Nat → Prop} {w : World} {lf : Int} {g lc m : Nat} {tx : List UInt8} {k : Nat} {s : ByteArray} (hm : m = d.cs.length) (htx : tx = pad s.data.toList) (htR : T R)
    (hR1 : d.fu = true → lf - 1 = ((d.lf - 1 : Nat) : Int)) (r2 : -((d.wr : Int) + d.fl) ≤ lf) (r3 : lf ≤ 9223372036854775807) (ok : d.ok) (hpl : (pad s.data.toList).length = 128) (hc : d.cs.length < 1000000) (hw : d.wr < 1000000) (hfl : (d.f k).length = 128) :
    ∀ (W8 : World) g' cap', (RefAt R (rowL d.n (undoW d.f d.cs)) d.n (d.cs ++ [⟨k, tx, d.f k⟩]) (m + 1) d.wr d.fl d.fu (lf - 1) g lc (some ⟨g', 0, none⟩) cap' (Grow T w W8) W8 ∧ Only T w W8) →
      Ending.returned (.int .i64 0) = .returned (.int .i64 0) ∧ RefIs R (d.write k s.data.toList).burn (Grow T w (W8.setCell ⟨R, 2, none⟩ (.int .i64 ((d.wr + 1 : Nat) : Int)))) (W8.setCell ⟨R, 2, none⟩ (.int .i64 ((d.wr + 1 : Nat) : Int))) ∧ Only T w (W8.setCell ⟨R, 2, none⟩ (.int .i64 ((d.wr + 1 : Nat) : Int))) := by
  obtain ⟨o1, o2, o3, o4, o5, o6⟩ := ok
  intro W8 g' cap' ⟨hA8, hO8⟩
  have hE := hA8.put (wr' := d.wr + 1) (fl' := d.fl) (fu' := d.fu) (lf' := lf - 1) 2 (.int .i64 ((d.wr + 1 : Nat) : Int)) rfl
  have hsz : (W8.setCell ⟨R, 2, none⟩ (.int .i64 ((d.wr + 1 : Nat) : Int))).heap.size = W8.heap.size := by simp
  have hTT : Grow T w W8 = Grow T w (W8.setCell ⟨R, 2, none⟩ (.int .i64 ((d.wr + 1 : Nat) : Int))) := by
    unfold Grow; rw [hsz]
  rw [hTT] at hE
  refine ⟨rfl, ⟨lf - 1, g, lc, some ⟨g', 0, none⟩, cap', ?_, ?_, ?_, by omega, ?_⟩, hO8.set (p := ⟨R, 2, none⟩) (.inl htR) _⟩
  · have e1 : (d.write k s.data.toList).burn.cs = d.cs ++ [(⟨k, tx, d.f k⟩ : Wt)] := by rw [htx]; rfl
    have e2 : undoW (d.write k s.data.toList).burn.f (d.write k s.data.toList).burn.cs = undoW d.f d.cs := by
      show undoW (upd d.f k (pad s.data.toList)) (d.cs ++ [(⟨k, pad s.data.toList, d.f k⟩ : Wt)]) = _
      rw [undoW_write]
    rw [e2, e1, List.length_append, List.length_singleton, ← hm]
    exact hE
  · intro e
    have h2 : (d.write k s.data.toList).burn.lf = d.lf - 1 := by
      show (if d.fu then d.lf - 1 else d.lf) = d.lf - 1
      rw [if_pos (show d.fu = true from e)]
    rw [h2]; exact hR1 e
  · show -(((d.wr + 1 : Nat) : Int) + (d.fl : Int)) ≤ lf - 1
    omega
  · refine ⟨o1, fun y hy => ?_, by show (d.cs ++ [_]).length ≤ _; simp; omega, by show d.wr + 1 ≤ _; omega, o5, ?_⟩
    · rcases List.mem_append.1 hy with hy | hy
      · exact o2 y hy
      · rw [List.mem_singleton.1 hy]
        exact ⟨hpl, hfl⟩
    · show (if d.fu then d.lf - 1 else d.lf) ≤ _
      split <;> omega
end Dsk
end Go.Proofs.Ytkbadjlehmaneaa
