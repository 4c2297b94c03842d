/- Appends in a drawn region; what is cut, and what meets, put together again, is the whole. Conditions: as each says. -/
import Derived.Test.YtjlejfjkigohhaaIq
import Derived.Test.YtjlejfjkigohhaaMan
namespace Go.Proofs.Ytjlejfjkigohhaa
open Go.RowKit
namespace Spn
theorem ite_go {c : Prop} [Decidable c] {p q : Prop} (hc : c) (h : p) : if c then p else q := by rw [if_pos hc]; exact h
section
variable {base : Nat} {l m : List Sp} {v v' : Value} {w w' : World}
/-- append(v, m...), one operation alone. -/
theorem oper_row {o : Oper} {a : Act} {K : Act → World → Prop} {Qx : Exit → Act → World → Prop} (s y : Operand)
    (ho : o.op = .call { callee := .builtin .append, args := #[s, y], argTypes := #[29, 29] }) (hs : a.eval s = v) (hx : a.eval y = v')
    (h : Row base l v w) (hm : SpansAt m v' w) (hn : l.length + m.length ≤ 100000) (hb : base ≤ w.heap.size)
    (hK : ∀ u w', Row base (l ++ m) u w' → w.grownBy w' v.ownBlock → (u.ownBlock = v.ownBlock ∨ u.ownBlock = some w.heap.size) → K (a.put o.dst u) w') : Oper.wp Try.prog o a w K Qx := by
  obtain ⟨u, w', hr, hp, hg, hob⟩ := row_append (ty := o.type) h hm hn hb
  unfold Oper.wp execOp
  simp only [ho, resolve, invoke, builtin, Sem.run_bind, Sem.run_pure, Result.andThen_ok, List.map_toArray, List.map_cons, List.map_nil, hs, hx, hr]
  exact hK u w' hp hg hob
theorem SpansAt.grown {b off n c : Nat} {row : Option Nat} (h : SpansAt m (.slice (some ⟨b, off, none⟩) n c) w) (hg : w.grownBy w' row) (hb : b < w.heap.size) (hne : row ≠ some b) : SpansAt m (.slice (some ⟨b, off, none⟩) n c) w' :=
  h.keep hg.size (fun b2 off2 c2 n2 e => by
    simp only [Value.slice.injEq, Option.some.injEq, Addr.mk.injEq, and_true] at e
    obtain ⟨⟨rfl, rfl⟩, _⟩ := e
    exact hg.block b hb (fun e => hne e.symm))
theorem row_none (base : Nat) (w : World) (hb : base ≤ w.heap.size) {k : Nat} (hk : k = w.heap.size) : Row base [] (.slice (some ⟨k, 0, none⟩) 0 0) (w.alloc (.cells #[] 23)) := by
  subst hk
  exact World.ownsRow_lit w #[] 0 hb (by unfold maxLen; omega) rfl
theorem Row.grownB (h : Row base l v w) {z : World} (hz : Below base z w) (hb : base ≤ w.heap.size) (hg : w.grownBy w' v.ownBlock) : Below base z w' := hz.grown hg hb (fun k hk => (h.lt k hk).1)
end
theorem SpansAt.got {l : List Sp} {b off n c : Nat} {w : World} (h : SpansAt l (.slice (some ⟨b, off, none⟩) n c) w) (i : Nat) (hi : i < l.length) :
    b < w.heap.size ∧ w.cell? ⟨b, off + i * 2, none⟩ = some (.int .i64 (l[i]).1) ∧ w.cell? ⟨b, off + i * 2 + 1, none⟩ = some (.int .i64 (l[i]).2) := by
  obtain ⟨b1, off1, cap1, he1, hb, j0, j1⟩ := h.at i hi
  simp only [Value.slice.injEq, Option.some.injEq, Addr.mk.injEq, and_true] at he1
  obtain ⟨⟨rfl, rfl⟩, _⟩ := he1
  exact ⟨hb, j0, j1⟩
/-! ### Plain -/
theorem rcut_wrong {a b : Sp} (h : ¬ Right a) : cut a b = [] := by
  rw [cut_eq]; unfold rcut
  rw [if_neg (fun h9 => h h9.1), if_neg h]
theorem cut_self {a : Sp} (h : Right a) : cut a a = [] := by
  rw [cut_eq]; unfold rcut
  have h' : Meets a a := ⟨h, h, by rw [mid_self]; exact h⟩
  rw [if_pos h', mid_self, if_neg (by omega), if_neg (by omega)]
  rfl
theorem parts_has {a b : Sp} (t : Int) : HasL (cut a b ++ [(meet a b).1]) t ↔ Has a t := by
  rw [hasL_app, hasL_cons, cut_eq, rcut_has, has_meet]
  simp only [hasL_nil, or_false]
  constructor
  · rintro (h | h)
    · exact h.1
    · exact h.1
  · intro h
    by_cases hb : Has b t
    · exact .inr ⟨h, hb⟩
    · exact .inl ⟨h, hb⟩
theorem parts_norm {a b : Sp} (h : Right a) : norm (cut a b ++ [(meet a b).1]) = [a] :=
  (norm_eq (n := [a]) ⟨h, by simp, trivial⟩ (fun t => by rw [parts_has, hasL_cons]; simp [hasL_nil])).symm
theorem parts_cov {a b : Sp} : covB (cut a b ++ [(meet a b).1]) a = true := (covB_iff _ _).2 (fun t ht => parts_has t |>.2 ht)
end Spn
end Go.Proofs.Ytjlejfjkigohhaa
