/- A script of puts and drops, plain: its pieces are right, and few. No condition. -/
import Derived.Test.YtoacombaddknfaaOm
namespace Go.Proofs.Ytoacombaddknfaa
open Go.RowKit
namespace Prd
open Spn (Sp Right rcut Has Meets mid)
open Cod (V)
section
variable {α : Type} {good : α → Prop}
theorem rcut_short {a b : Sp} (h : ¬ (a.1 < b.1 ∧ b.2 < a.2)) : (rcut a b).length ≤ 1 := by
  unfold rcut mid
  split
  · next hm =>
    obtain ⟨h1, h2, h3⟩ := hm
    unfold Right mid at h3
    simp only at h3 ⊢
    split <;> split <;> simp <;> omega
  · split <;> simp
/-- Of right pieces only one can be cut in two. -/
theorem away_len_ok {l : List (Sp × α)} (h : Ok good l) {s : Sp} (hs : Right s) : (away l s).length ≤ l.length + 1 := by
  have none_ : ∀ (m : List (Sp × α)), (∀ q, q ∈ m → s.2 < q.1.1) → (away m s).length ≤ m.length := by
    intro m
    induction m with
    | nil => intro _; simp [away]
    | cons p m ih =>
      intro hq
      rw [away_cons, List.length_append, List.length_map, List.length_cons]
      have h1 := hq p (by simp)
      have h2 := hs.2.1
      have := rcut_short (a := p.1) (b := s) (fun h9 => by omega)
      have := ih (fun q hq2 => hq q (by simp [hq2]))
      omega
  induction l with
  | nil => simp [away]
  | cons p l ih =>
    obtain ⟨h1, h2, h3⟩ := ok_cons.1 h
    rw [away_cons, List.length_append, List.length_map, List.length_cons]
    by_cases hc : p.1.1 < s.1 ∧ s.2 < p.1.2
    · have := Spn.rcut_len p.1 s
      have := none_ l (fun q hq => by have := h2 q hq; omega)
      omega
    · have := rcut_short hc
      have := ih h3
      omega
end
theorem drop_right {l : List (Sp × List V)} (h : Ok Good l) (s : Sp) : Ok Good (dropP l s) ∧ (dropP l s).length ≤ l.length + 1 := by
  unfold dropP
  split
  · next h9 => exact ⟨away_ok h s, away_len_ok h h9.2⟩
  · exact ⟨h, by omega⟩
theorem put_right {l : List (Sp × List V)} (h : Ok Good l) (s : Sp) (r : List V) : Ok Good (putP l s r) ∧ (putP l s r).length ≤ l.length + 2 := by
  unfold putP
  split
  · next h9 =>
    refine ⟨put_ok h h9.2.1 h9.2.2, ?_⟩
    rw [lay_len]
    have := away_len_ok h h9.2.1
    omega
  · exact ⟨h, by omega⟩
/-- What one step of a script makes of the pieces. -/
noncomputable def step1 (l : List (Sp × List V)) (o : Opv) : List (Sp × List V) := if 20 < o.x.r.length then l else if o.d = true then dropP l o.x.s else putP l o.x.s o.x.r
noncomputable def steps (l : List (Sp × List V)) (os : List Opv) : List (Sp × List V) := os.foldl step1 l
theorem steps_snoc (l : List (Sp × List V)) (os : List Opv) (o : Opv) : steps l (os ++ [o]) = step1 (steps l os) o := by simp [steps]
theorem steps_take {os : List Opv} {i : Nat} (hi : i < os.length) (l : List (Sp × List V)) : steps l (os.take (i + 1)) = step1 (steps l (os.take i)) os[i] := by
  rw [List.take_succ_eq_append_getElem hi, steps_snoc]
theorem step1_right {l : List (Sp × List V)} (h : Ok Good l) (o : Opv) : Ok Good (step1 l o) ∧ (step1 l o).length ≤ l.length + 2 := by
  unfold step1
  split
  · exact ⟨h, by omega⟩
  · split
    · have := drop_right h o.x.s
      exact ⟨this.1, by omega⟩
    · exact put_right h _ _
theorem steps_right : ∀ (os : List Opv) {l : List (Sp × List V)}, Ok Good l → Ok Good (steps l os) ∧ (steps l os).length ≤ l.length + 2 * os.length
  | [], l, h => ⟨h, by simp [steps]⟩
  | o :: os, l, h => by
    have h1 := step1_right h o
    have h2 := steps_right os h1.1
    refine ⟨h2.1, ?_⟩
    have : steps l (o :: os) = steps (step1 l o) os := rfl
    rw [this, List.length_cons]
    omega
/-- What is valid at a time t behind a step: what was, or what the step says. -/
theorem at_step {l : List (Sp × List V)} (h : Ok Good l) (o : Opv) (t : Int) :
    atP (step1 l o) t = if 20 < o.x.r.length ∨ ¬ Has o.x.s t ∨ (o.d = false ∧ ¬ (Right o.x.s ∧ Good o.x.r)) then atP l t else if o.d = true then none else some o.x.r := by
  unfold step1
  by_cases h1 : 20 < o.x.r.length
  · rw [if_pos h1, if_pos (.inl h1)]
  · rw [if_neg h1]
    by_cases hh : Has o.x.s t
    · have hr : Right o.x.s := hh.1
      cases hd : o.d with
      | true =>
        rw [if_pos rfl, if_neg (by simp [h1, hh]), if_pos rfl]
        unfold dropP
        rw [if_pos ⟨h, hr⟩, at_away h, if_pos hh]
      | false =>
        rw [if_neg (by simp)]
        unfold putP
        by_cases hg : Good o.x.r
        · rw [if_pos ⟨h, hr, hg⟩, at_put h hr hg, if_pos hh, if_neg (by simp [h1, hh, hr, hg]), if_neg (by simp)]
        · rw [if_neg (fun h9 => hg h9.2.2), if_pos (by simp [hg])]
    · have hc : 20 < o.x.r.length ∨ ¬ Has o.x.s t ∨ (o.d = false ∧ ¬ (Right o.x.s ∧ Good o.x.r)) := .inr (.inl hh)
      rw [if_pos hc]
      split
      · unfold dropP
        split
        · rw [at_away h, if_neg hh]
        · rfl
      · unfold putP
        split
        · next h9 => rw [at_put h h9.2.1 h9.2.2, if_neg hh]
        · rfl
end Prd
end Go.Proofs.Ytoacombaddknfaa
