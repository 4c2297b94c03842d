/- A drawn region of which the last operation writes what was read ahead of it: the condition is asked behind every operation but that one. No condition. -/
import Derived.Test.YtapdhelioecneaaMan
namespace Go.Proofs.Ytapdhelioecneaa
open Go.RowKit
namespace Mp
section
variable {P : Program} {ops : Array Oper} {Q : Exit → Act → World → Prop} {md : Region.Mode} {S : World → Prop} {p : Nat}
/-- Whatever order is picked; S stands behind every operation but number p. -/
def Goes (P : Program) (md : Region.Mode) (ops : Array Oper) (Q : Exit → Act → World → Prop) (p : Nat) (S : World → Prop) : Nat → Array Bool → Act → World → Prop
  | 0, don, a, w => Region.ready md ops don = [] ∧ Q .normal a w
  | n + 1, don, a, w => (Region.ready md ops don = [] → Q .normal a w) ∧
    ∀ j, j ∈ Region.ready md ops don → wpOp P ops Q j (fun a2 w2 => (j ≠ p → S w2) ∧ Goes P md ops Q p S n (don.setIfInBounds j true) a2 w2) a w
theorem any_of : ∀ (n : Nat) (don : Array Bool) (a : Act) (w : World), Goes P md ops Q p S n don a w → wpAny P md ops Q n don a w
  | 0, _, _, _, h => h
  | n + 1, _, _, _, h => ⟨h.1, fun j hj => wpOp_mono (fun a2 w2 g => any_of n _ a2 w2 g.2) (h.2 j hj)⟩
/-- Does number p wait for number i? -/
def waits (md : Region.Mode) (ops : Array Oper) (p i : Nat) : Bool := match ops.toList[p]? with
  | some o => o.after.toList.any (fun e => Region.binds md e && e.on == i)
  | none => false
theorem waits_yes {i : Nat} (h : waits md ops p i = true) {o : Oper} (ho : ops[p]? = some o) : ∃ e, e ∈ o.after ∧ Region.binds md e = true ∧ e.on = i := by
  unfold waits at h
  rw [Array.getElem?_toList, ho] at h
  obtain ⟨e, he, h2⟩ := List.any_eq_true.1 h
  simp only [Bool.and_eq_true, beq_iff_eq] at h2
  exact ⟨e, by simpa using he, h2.1, h2.2⟩
/-- Does number p wait for number i, by itself or by one that has not come up? -/
def waits2 (md : Region.Mode) (ops : Array Oper) (don : Array Bool) (p i : Nat) : Bool := waits md ops p i || (List.range ops.size).any fun k => waits md ops p k && (waits md ops k i && !(don.getD k true))
theorem waits2_yes {don : Array Bool} {i : Nat} (h : waits2 md ops don p i = true) : waits md ops p i = true ∨ ∃ k, waits md ops p k = true ∧ waits md ops k i = true ∧ don.getD k true = false := by
  unfold waits2 at h
  rw [Bool.or_eq_true] at h
  rcases h with h | h
  · exact .inl h
  · obtain ⟨k, _, h2⟩ := List.any_eq_true.1 h
    simp only [Bool.and_eq_true, Bool.not_eq_true'] at h2
    exact .inr ⟨k, h2.1, h2.2.1, h2.2.2⟩
/-- Who waits for one that has not come up is not ready. -/
theorem not_ready {don : Array Bool} {i j : Nat} (hr : i ∈ Region.ready md ops don) (hj : j ∈ Region.ready md ops don) (hw : waits md ops j i = true) : False := by
  obtain ⟨_, oj, hoj, hall⟩ := mem_ready.1 hj
  obtain ⟨e, he, hb, heq⟩ := waits_yes hw hoj
  have h1 := hall e he hb
  have h0 := (mem_ready.1 hr).1
  rw [heq] at h1
  rcases Nat.lt_or_ge i don.size with h2 | h2
  · simp [h2] at h0 h1; rw [h0] at h1; cases h1
  · simp [Array.getElem?_eq_none h2] at h1
theorem first {i : Nat} {oi : Oper} {v : Value} (hi : ops[i]? = some oi) (hsel : ∀ (j : Nat) (o : Oper) cs b, ops[j]? = some o → o.op ≠ .select cs b)
    (hQ : ∀ c a w, Q (.panic c) (a.put oi.dst v) w → Q (.panic c) a w) : ∀ (n : Nat) (don : Array Bool) (a : Act) (w : World), (waits md ops p i = true ∨ ∃ k, waits md ops p k = true ∧ waits md ops k i = true ∧ don.getD k true = false) →
      (∀ j oj, ops[j]? = some oj → j ≠ i → don.getD j true = false → (∀ e ∈ oj.after, Region.binds md e = true → e.on ≠ i) → oi.apart ops oj = true) →
      i ∈ Region.ready md ops don → YieldsIf P ops S oi v a → S w → Goes P md ops Q p S n (don.setIfInBounds i true) (a.put oi.dst v) w → Goes P md ops Q p S (n + 1) don a w := by
  intro n
  induction n with
  | zero =>
    intro don a w _ _ hr hy hS H
    refine ⟨fun h => (by rw [h] at hr; cases hr), fun j hj => ?_⟩
    by_cases e : j = i
    · subst e; exact hy.wpOp hi hS ⟨fun _ => hS, H⟩
    · have g := ready_mono hj e
      rw [H.1] at g
      cases g
  | succ n ih =>
    intro don a w hp hfree hr hy hS H
    refine ⟨fun h => (by rw [h] at hr; cases hr), fun j hj => ?_⟩
    by_cases e : j = i
    · subst e; exact hy.wpOp hi hS ⟨fun _ => hS, H⟩
    · obtain ⟨hun, oj, hoj, hall⟩ := mem_ready.1 hj
      have hnot : ∀ e ∈ oj.after, Region.binds md e = true → e.on ≠ i := fun e he hb heq => by
        have h1 := hall e he hb
        have h0 := (mem_ready.1 hr).1
        rw [heq] at h1
        rcases Nat.lt_or_ge i don.size with h2 | h2
        · simp [h2] at h0 h1; rw [h0] at h1; cases h1
        · simp [Array.getElem?_eq_none h2] at h1
      have hjp : j ≠ p := fun e9 => by
        subst e9
        rcases hp with h1 | ⟨k, h1, h2, h3⟩
        · exact not_ready hr hj h1
        · obtain ⟨e8, g1, g2, g3⟩ := waits_yes h1 hoj
          have g4 := hall e8 g1 g2
          rw [g3] at g4
          rcases Nat.lt_or_ge k don.size with h9 | h9
          · simp [h9] at h3 g4; rw [h3] at g4; cases g4
          · simp [Array.getElem?_eq_none h9] at g4
      have hp2 : waits md ops p i = true ∨ ∃ k, waits md ops p k = true ∧ waits md ops k i = true ∧ (don.setIfInBounds j true).getD k true = false := by
        rcases hp with h1 | ⟨k, h1, h2, h3⟩
        · exact .inl h1
        · refine .inr ⟨k, h1, h2, ?_⟩
          rcases Decidable.em (j = k) with e9 | e9
          · subst e9; exact (not_ready hr hj h2).elim
          · rw [getD_set_ne true e9]; exact h3
      refine wpOp_mono (fun a2 w2 g => ?_) (wpOp_putIf hoj (hfree j oj hoj e hun hnot) (fun cs b => hsel i oi cs b hi) (fun cs b => hsel j oj cs b hoj) hQ hy (H.2 j (ready_mono hj e)))
      refine ⟨g.2.1, ih (don.setIfInBounds j true) a2 w2 hp2 (fun k ok hk hki hkn hno => ?_) (ready_mono hr (Ne.symm e)) g.1 (g.2.1 hjp) ?_⟩
      · refine hfree k ok hk hki ?_ hno
        by_cases hjk : j = k
        · subst hjk; exact hun
        · rw [getD_set_ne true hjk] at hkn; exact hkn
      · rw [Array.setIfInBounds_comm _ _ e]
        exact g.2.2
theorem take1 {i : Nat} {oi : Oper} {v : Value} {n : Nat} {don : Array Bool} {a : Act} {w : World} (hi : ops.toList[i]? = some oi)
    (hs : Region.noSelect ops = true) (hf : Region.free md ops don i = true) (hr : (Region.ready md ops don).contains i = true)
    (hQ : ∀ c a w, Q (.panic c) (a.put oi.dst v) w → Q (.panic c) a w) (hp : waits2 md ops don p i = true) (hw : Region.wanted oi (yielded ops a.tmps) = true) (hy : ∀ u, S u → (execOp a.eval oi).run P u = .ok (.value v) u) (hS : S w)
    (h : Goes P md ops Q p S n (don.setIfInBounds i true) (a.put oi.dst v) w) : Goes P md ops Q p S (n + 1) don a w :=
  have hi2 : ops[i]? = some oi := by rw [← Array.getElem?_toList]; exact hi
  first hi2 (Region.noSelect_spec hs) hQ n don a w (waits2_yes hp) (Region.free_spec hi2 hf) (by simpa using hr) (.inl ⟨hw, hy⟩) hS h
theorem t1 {v : Value} {oi : Oper} {n : Nat} {don : Array Bool} {a : Act} {w : World} (i : Nat) (hS : S w)
    (h : Goes P md ops Q p S n (don.setIfInBounds i true) (a.put oi.dst v) w) (hi : ops.toList[i]? = some oi := by exact rfl)
    (hs : Region.noSelect ops = true := by kernel_rfl) (hf : Region.free md ops don i = true := by kernel_rfl) (hr : (Region.ready md ops don).contains i = true := by kernel_rfl)
    (hQ : ∀ c a w, Q (.panic c) (a.put oi.dst v) w → Q (.panic c) a w := by exact fun _ _ _ h => h) (hp : waits2 md ops don p i = true := by kernel_rfl) (hw : Region.wanted oi (yielded ops a.tmps) = true := by rfl)
    (hy : ∀ u, S u → (execOp a.eval oi).run P u = .ok (.value v) u := by (intro u hSu; (try dsimp only at hSu); go_simp; (try with_reducible rfl))) : Goes P md ops Q p S (n + 1) don a w :=
  take1 hi hs hf hr hQ hp hw hy hS h
/-- One operation alone may come up, and it is not the last one. -/
theorem one {n : Nat} {don : Array Bool} {a : Act} {w : World} {i : Nat} {o : Oper} (hi : ops.toList[i]? = some o) (hr : Region.ready md ops don = [i])
    (h : ∀ K' : Act → World → Prop, Shut (∀ a w, S w → (S w → Goes P md ops Q p S n (don.setIfInBounds i true) a w) → K' a w) → if Region.wanted o (yielded ops a.tmps) = true then Oper.wp P o a w K' Q else K' (a.put o.dst undef) w) :
    Goes P md ops Q p S (n + 1) don a w := by
  refine ⟨fun h0 => absurd (hr ▸ h0) (by simp), fun j hj => ?_⟩
  rw [hr, List.mem_singleton] at hj
  subst hj
  exact wpOp_step (by rw [← Array.getElem?_toList]; exact hi) (fun K' hK => h K' (fun a w hS hW => hK a w ⟨fun _ => hS, hW hS⟩))
/-- The last one comes up. -/
theorem last {n : Nat} {don : Array Bool} {a : Act} {w : World} {o : Oper} (hi : ops.toList[p]? = some o) (hr : Region.ready md ops don = [p])
    (h : ∀ K' : Act → World → Prop, Shut (∀ a w, Goes P md ops Q p S n (don.setIfInBounds p true) a w → K' a w) → if Region.wanted o (yielded ops a.tmps) = true then Oper.wp P o a w K' Q else K' (a.put o.dst undef) w) :
    Goes P md ops Q p S (n + 1) don a w := by
  refine ⟨fun h0 => absurd (hr ▸ h0) (by simp), fun j hj => ?_⟩
  rw [hr, List.mem_singleton] at hj
  subst hj
  exact wpOp_step (by rw [← Array.getElem?_toList]; exact hi) (fun K' hK => h K' (fun a w hW => hK a w ⟨fun e => absurd rfl e, hW⟩))
theorem done {don : Array Bool} {a : Act} {w : World} (hr : Region.ready md ops don = []) (h : Q .normal a w) : ∀ n, Goes P md ops Q p S n don a w
  | 0 => ⟨hr, h⟩
  | _ + 1 => ⟨fun _ => h, by rw [hr]; simp⟩
/-- The beginning. -/
theorem region {id : Nat} {a : Act} {w : World} (p : Nat) (hm : P.follows .mixedOrders = true) (hS : S w.drew) (h : S w.drew → Goes P .any ops Q p S ops.size (Array.replicate ops.size false) a w.drew) : (Code.region id ops true).wp P Q a w :=
  wp_region_held (S := fun _ => True) hm (held _ _ _ _ (h hS))
where
  held : ∀ (n : Nat) (don : Array Bool) (a : Act) (w : World), Goes P .any ops Q p S n don a w → wpAnyH P .any ops Q (fun _ => True) n don a w
  | 0, _, _, _, h => h
  | n + 1, _, _, _, h => ⟨h.1, fun j hj => wpOp_mono (fun a2 w2 g => ⟨trivial, held n _ a2 w2 g.2⟩) (h.2 j hj)⟩
end
end Mp
end Go.Proofs.Ytapdhelioecneaa
