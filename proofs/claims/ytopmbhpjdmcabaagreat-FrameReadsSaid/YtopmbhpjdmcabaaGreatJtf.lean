/- schema.read. Condition: the bytes are at most 2^48. -/
import Derived.Test.YtopmbhpjdmcabaaGreatJr
import Derived.Test.YtopmbhpjdmcabaaGreatMa
namespace Go.Proofs.YtopmbhpjdmcabaaGreat
open Go.RowKit
namespace Sch
open Cod
/-- Read so far: if the bytes are a right schema's, P holds of it, there is no error, and what is left is rest. -/
def GG (s : ByteArray) (P : T → Prop) (e : Int) (p : Nat) (rest : T → List UInt8) : Prop := ∀ t, rightB t = true → bodyB t = s.data.toList → P t ∧ e = 0 ∧ s.data.toList.drop p = rest t
theorem GG.start (s : ByteArray) : GG s (fun _ => True) 0 0 (fun t => tB t.nm ++ (uB t.keys.toNat ++ (uB t.cols.length ++ t.cols.flatMap colB))) := fun t _ hb => ⟨trivial, rfl, by rw [List.drop_zero, ← hb]; rfl⟩
theorem GG.text {s : ByteArray} {P : T → Prop} {e e' : Int} {p p' : Nat} {f : T → List UInt8} {g : T → List UInt8} {l : List UInt8} (h : GG s P e p (fun t => tB (f t) ++ g t))
    (hf : ∀ t, rightB t = true → (f t).length ≤ 1000000) (ht : ∀ nm X, e = 0 → s.data.toList.drop p = tB nm ++ X → nm.length ≤ 1000000 → l = nm ∧ e' = 0 ∧ s.data.toList.drop p' = X) : GG s (fun t => P t ∧ l = f t) e' p' g := fun t hr hb => by
  obtain ⟨h1, h2, h3⟩ := h t hr hb
  obtain ⟨a, b, c⟩ := ht _ _ h2 h3 (hf t hr)
  exact ⟨⟨h1, a⟩, b, c⟩
theorem GG.num {s : ByteArray} {P : T → Prop} {e e' : Int} {p p' : Nat} {f : T → Nat} {g : T → List UInt8} {v : Nat} (h : GG s P e p (fun t => uB (f t) ++ g t))
    (hf : ∀ t, rightB t = true → f t < 18446744073709551616) (ht : ∀ n X, e = 0 → s.data.toList.drop p = uB n ++ X → n < 18446744073709551616 → v = n ∧ e' = 0 ∧ s.data.toList.drop p' = X) : GG s (fun t => P t ∧ v = f t) e' p' g := fun t hr hb => by
  obtain ⟨h1, h2, h3⟩ := h t hr hb
  obtain ⟨a, b, c⟩ := ht _ _ h2 h3 (hf t hr)
  exact ⟨⟨h1, a⟩, b, c⟩
theorem GG.mono {s : ByteArray} {P Q : T → Prop} {e : Int} {p : Nat} {f g : T → List UInt8} (h : GG s P e p f) (hq : ∀ t, rightB t = true → P t → Q t ∧ f t = g t) : GG s Q e p g := fun t hr hb => by
  obtain ⟨h1, h2, h3⟩ := h t hr hb
  obtain ⟨q1, q2⟩ := hq t hr h1
  exact ⟨q1, h2, by rw [h3, q2]⟩
def cAt (t : T) (i : Nat) : C := (t.cols[i]?).getD ⟨[], 0, false⟩
theorem cAt_at {t : T} {i : Nat} (h : i < t.cols.length) : cAt t i = t.cols[i] := by unfold cAt; rw [List.getElem?_eq_getElem h]; rfl
theorem cAt_len {t : T} (h : rightB t = true) (i : Nat) : (cAt t i).nm.length ≤ 32 ∧ (cAt t i).k ≤ 5 := by
  rcases Nat.lt_or_ge i t.cols.length with hi | hi
  · rw [cAt_at hi]
    obtain ⟨h1, _, h3⟩ := col_parts (right_mem h (List.getElem_mem hi))
    exact ⟨name_len h1, h3⟩
  · unfold cAt; rw [List.getElem?_eq_none hi]; simp
theorem rest_round {t : T} {i : Nat} (h : i < t.cols.length) : (t.cols.drop i).flatMap colB = tB (cAt t i).nm ++ (uB (cAt t i).k.toNat ++ (uB (bitB (cAt t i)) ++ (t.cols.drop (i + 1)).flatMap colB)) := by
  rw [List.drop_eq_getElem_cons h, List.flatMap_cons, cAt_at h]
  simp [colB]
/-- A block of three cells, one of them stored anew. -/
theorem put0 {w : World} {c : Nat} {a b d u : Value} {t : TypeId} (h : w.heap[c]? = some (.cells #[a, b, d] t (0, 0))) : (w.setCell ⟨c, 0, none⟩ u).heap[c]? = some (.cells #[u, b, d] t (0, 0)) := by
  have hlt := lt_of_block h
  have h' : w.heap[c] = .cells #[a, b, d] t (0, 0) := by simpa [Array.getElem?_eq_getElem hlt] using h
  show (w.heap.modify c _)[c]? = _
  rw [Array.getElem?_eq_getElem (by simpa using hlt), Array.getElem_modify_self, h']
  rfl
theorem put1 {w : World} {c : Nat} {a b d u : Value} {t : TypeId} (h : w.heap[c]? = some (.cells #[a, b, d] t (0, 0))) : (w.setCell ⟨c, 1, none⟩ u).heap[c]? = some (.cells #[a, u, d] t (0, 0)) := by
  have hlt := lt_of_block h
  have h' : w.heap[c] = .cells #[a, b, d] t (0, 0) := by simpa [Array.getElem?_eq_getElem hlt] using h
  show (w.heap.modify c _)[c]? = _
  rw [Array.getElem?_eq_getElem (by simpa using hlt), Array.getElem_modify_self, h']
  rfl
theorem put2 {w : World} {c : Nat} {a b d u : Value} {t : TypeId} (h : w.heap[c]? = some (.cells #[a, b, d] t (0, 0))) : (w.setCell ⟨c, 2, none⟩ u).heap[c]? = some (.cells #[a, b, u] t (0, 0)) := by
  have hlt := lt_of_block h
  have h' : w.heap[c] = .cells #[a, b, d] t (0, 0) := by simpa [Array.getElem?_eq_getElem hlt] using h
  show (w.heap.modify c _)[c]? = _
  rw [Array.getElem?_eq_getElem (by simpa using hlt), Array.getElem_modify_self, h']
  rfl
theorem frz {w : World} {c : Nat} {cs : Array Value} {t : TypeId} (h : w.heap[c]? = some (.cells cs t (0, 0))) (o : Nat) : w.frozen? ⟨c, o, none⟩ = false := by simp [World.frozen?, h]
theorem put_other {w : World} {c k o : Nat} {ob : Obj} {u : Value} (h : w.heap[k]? = some ob) (hn : k ≠ c) : (w.setCell ⟨c, o, none⟩ u).heap[k]? = some ob := by
  rw [Below.heap_setCell _ _ _ _ (by exact hn)]; exact h
/-- The slice owns these columns. -/
theorem ColsAt.of_owns {base : Nat} {cs : List C} {sl : Value} {w : World} (h : w.ownsRow base 81 3 sl cs.length (cflat cs)) : ColsAt cs sl w := by
  obtain ⟨g, cap, rfl, hc, hm⟩ | ⟨hv, h0⟩ : (∃ g cap, sl = .slice (some ⟨g, 0, none⟩) cs.length cap ∧ cs.length ≤ cap ∧ cap ≤ 9223372036854775807) ∨ (sl = .slice none 0 0 ∧ cs.length = 0) := by
    rcases h.2 with h2 | ⟨g, cap, cur, hv, _, _, hc, hm, _⟩
    · exact .inr h2
    · exact .inl ⟨g, cap, hv, hc, by unfold maxLen at hm; omega⟩
  · refine ⟨_, cap, rfl, hc, hm, fun _ => ⟨g, 0, rfl, (h.lt g rfl).2, fun j hj => ?_⟩⟩
    rw [Nat.zero_add]
    exact h.cellAt j hj
  · have hcs := List.eq_nil_of_length_eq_zero h0
    subst hcs
    rw [hv]; exact ColsAt.nil _
theorem infoC : (Tryz.prog.info? 81).map (fun i => (i.zero, i.size, i.bytes)) = some (some (.agg #[.string ⟨#[]⟩, .int .i64 0, .bool false]), 3, 32) := by kernel_rfl
theorem cell_thr (a b c : Value) : ∀ j u, [a, b, c][j]? = some u → (j = 0 ∧ u = a) ∨ (j = 1 ∧ u = b) ∨ (j = 2 ∧ u = c) := by
  intro j u h
  match j, h with
  | 0, h => simp at h; exact .inl ⟨rfl, h.symm⟩
  | 1, h => simp at h; exact .inr (.inl ⟨rfl, h.symm⟩)
  | 2, h => simp at h; exact .inr (.inr ⟨rfl, h.symm⟩)
  | j + 3, h => simp at h
/-- A slice that is not empty lies behind the first B blocks. -/
def Fresh {α : Type} (B : Nat) (l : List α) (sl : Value) : Prop := l ≠ [] → ∀ ao n cap, sl = .slice (some ao) n cap → B ≤ ao.block
theorem Fresh.mono {α : Type} {B B' : Nat} {l : List α} {sl : Value} (h : Fresh B l sl) (hb : B' ≤ B) : Fresh B' l sl := fun hl ao n cap e => Nat.le_trans hb (h hl ao n cap e)
theorem Fresh.nil {α : Type} (B : Nat) (sl : Value) : Fresh B ([] : List α) sl := fun h => absurd rfl h
theorem fresh_owns {α : Type} {l : List α} {base n size : Nat} {e : TypeId} {sl : Value} {xs : List Value} {w : World} (h : w.ownsRow base e size sl n xs) : Fresh base l sl := fun _ ao m cap he => by
  rcases h.2 with ⟨hv, _⟩ | ⟨g, cap', cur, hv, hg, _⟩
  · rw [hv] at he; cases he
  · rw [hv] at he
    simp only [Value.slice.injEq, Option.some.injEq] at he
    rw [← he.1]; exact hg
/-- What is read. -/
def ReadP (M : Nat) (r : Nat) (s : ByteArray) (w : World) (en : Ending) (w' : World) : Prop := ∃ (t : T) (sl : Value), en = .returned (.agg #[.string (S t.nm), sl, .int .i64 t.keys]) ∧ ColsAt t.cols sl w' ∧ But r w w' ∧ t.nm.length ≤ s.size ∧ t.cols.length ≤ M ∧ (∀ c ∈ t.cols, c.nm.length ≤ s.size) ∧ (∀ q, rightB q = true → bodyB q = s.data.toList → t = q) ∧ Fresh w.heap.size t.cols sl
end Sch
end Go.Proofs.YtopmbhpjdmcabaaGreat
