/- A row of values appended to one of the call's own; a key that begins another one, in the order of keys. Conditions: as each theorem says. -/
import Derived.Test.YtppdebhcaodcnaaDoorYp
import Derived.Laws.AppendOwnNone
namespace Go.Proofs.YtppdebhcaodcnaaDoor
open Go.RowKit Cod
namespace Ky
/-- The slice holds these values, and is nil only if it is the nil slice. -/
def Src (vs : List V) (v : Value) (w : World) : Prop := RowAt vs v w ∧ ((vs = [] ∧ v = .slice none 0 0) ∨ ∃ ad cap, v = .slice (some ad) vs.length cap)
theorem Src.later {vs : List V} {v : Value} {w w' : World} (h : Src vs v w) (hb : Below w.heap.size w w') : Src vs v w' := ⟨h.1.later hb, h.2⟩
theorem Src.cells {vs : List V} {w : World} {ad : Addr} {cap : Nat} (h : RowAt vs (.slice (some ad) vs.length cap) w) : ∀ j u, (flat vs)[j]? = some u → w.cell? (ad.add j) = some u := by
  intro j u hu
  obtain ⟨ao, c, he, h2⟩ := h
  have hj : j < vs.length * 4 := by rw [← flat_len]; exact (List.getElem?_eq_some_iff.1 hu).1
  obtain ⟨b, off, h3, h4, h5⟩ := h2 (fun e => by rw [e] at hj; simp at hj)
  simp only [Value.slice.injEq] at he
  obtain ⟨rfl, _, _⟩ := he
  have e := Option.some.inj h3
  subst e
  have e2 : (⟨b, off, none⟩ : Addr).add j = ⟨b, off + j, none⟩ := by unfold Addr.add; split <;> simp_all
  rw [e2, h5 j hj, hu]
theorem flat_one (vs : List V) : ∀ u ∈ flat vs, u.oneCell' = true := by
  intro u hu
  simp only [flat, List.mem_flatMap] at hu
  obtain ⟨v, _, hv⟩ := hu
  simp only [V.cells, List.mem_cons, List.not_mem_nil, or_false] at hv
  rcases hv with rfl | rfl | rfl | rfl <;> rfl
theorem append_row {ops : Array Oper} {rest : List Oper} {o : Oper} {a : Act} {Q : Exit → Act → World → Prop} {w : World} (hgd : o.guard = none) (s x : Operand)
    (ho : o.op = .call { callee := .builtin .append, args := #[s, x], argTypes := #[30, 30] }) (base : Nat) (i0 : TypeInfo)
    (hi : Tryd.prog.info? 25 = some i0) (hz0 : i0.zero = some (.agg #[.int .i64 0, .int .i64 0, .int .u64 0, .string ⟨#[]⟩])) (hz1 : i0.size = 4) (hz2 : i0.bytes = 40)
    (v : Value) (xs : List V) (hs : a.eval s = v) (hown : Own base xs v w) (vs : List V) (sv : Value) (hx : a.eval x = sv) (hsrc : Src vs sv w) (hlen : xs.length + vs.length ≤ 1000) (hbase : base ≤ w.heap.size)
    (h : ∀ v' w', Own base (xs ++ vs) v' w' → w.grownBy w' v.ownBlock → wpList Tryd.prog ops Q rest (a.put o.dst v') w') : wpList Tryd.prog ops Q (o :: rest) a w := by
  obtain ⟨hr, ⟨rfl, rfl⟩ | ⟨ad, cap, rfl⟩⟩ := hsrc
  · exact wpList_append_own_none hgd s x _ ho base 25 i0 4 Tryd.underlying30 hi v xs.length (flat xs) hs hown hx (h v w (by rw [List.append_nil]; exact hown) (World.grownBy.refl w _))
  · refine wpList_append_own w hgd s x _ ho base 25 i0 _ 4 40 Tryd.underlying30 hi hz0 hz1 hz2 rfl (by decide) v xs.length (flat xs) hs hown ad vs.length cap (flat vs) hx (flat_len vs) (Src.cells hr) (flat_one vs) (by unfold maxLen; omega) (by omega) hbase (fun v' w' h1 h2 _ => h v' w' ?_ h2)
    unfold Own
    have e : flat (xs ++ vs) = flat xs ++ flat vs := by simp [flat]
    rw [List.length_append, e]
    exact h1
/-! the order -/
theorem cmp_lx {a b : V} (ha : a.right = true) (hb : b.right = true) (ia : a.inn) (ib : b.inn) : cmp a b = lx (one a) (one b) := by
  have h := one_lx ha hb ia ib [] []
  rw [List.append_nil, List.append_nil] at h
  rw [h]
  split
  · rename_i q; rw [q]; rfl
  · rfl
theorem cmp_anti {a b : V} (ha : a.right = true) (hb : b.right = true) (ia : a.inn) (ib : b.inn) : cmp b a = -cmp a b := by
  rw [cmp_lx ha hb ia ib, cmp_lx hb ha ib ia, lx_swap]
theorem cmpK_app : ∀ a b : List V, (∀ x ∈ a, x.right = true ∧ x.inn) → cmpK a (a ++ b) ≤ 0
  | [], [], _ => by simp [cmpK]
  | [], _ :: _, _ => by simp [cmpK]
  | x :: a, b, h => by
    have hx := h x (by simp)
    simp only [List.cons_append, cmpK]
    rw [if_pos (cmp_self hx.1 hx.2)]
    exact cmpK_app a b (fun y hy => h y (by simp [hy]))
theorem begins : ∀ a c b : List V, (∀ x ∈ a, x.right = true ∧ x.inn) → (∀ x ∈ c, x.right = true ∧ x.inn) → cmpK a c ≤ 0 → cmpK c (a ++ b) ≤ 0 → a.length ≤ c.length ∧ a = c.take a.length
  | [], _, _, _, _, _, _ => ⟨by simp, by simp⟩
  | _ :: _, [], _, _, _, h, _ => by simp [cmpK] at h
  | x :: a, y :: c, b, ha, hc, h1, h2 => by
    have hx := ha x (by simp)
    have hy := hc y (by simp)
    have hanti := cmp_anti hx.1 hy.1 hx.2 hy.2
    simp only [List.cons_append, cmpK] at h1 h2
    by_cases hz : cmp x y = 0
    · rw [if_pos hz] at h1
      rw [hz] at hanti
      rw [if_pos (by omega)] at h2
      have e := cmp_zero hx.1 hy.1 hx.2 hy.2 hz
      obtain ⟨g1, g2⟩ := begins a c b (fun z hz => ha z (by simp [hz])) (fun z hz => hc z (by simp [hz])) h1 h2
      exact ⟨by simp only [List.length_cons]; omega, by rw [e, List.length_cons, List.take_succ_cons, ← g2]⟩
    · exfalso
      rw [if_neg hz] at h1
      rw [if_neg (by omega)] at h2
      omega
theorem good_app {a b : List V} (ha : Good a) (hb : Good b) (hl : a.length + b.length ≤ 8) : Good (a ++ b) := by
  refine ⟨?_, fun x hx => (List.mem_append.1 hx).elim (ha.2 x) (hb.2 x)⟩
  unfold isK
  rw [List.all_append, List.length_append, decide_eq_true hl]
  have h1 := List.all_eq_true.2 ha.right
  have h2 := List.all_eq_true.2 hb.right
  simp [h1, h2]
theorem pre_is {a b : List V} {sa : Value} {bo : Option Addr} {n cap : Nat} {v : Bool} (hv : preB a b = v) (hn : n = b.length) (hc : n ≤ cap) (ha : a.length ≤ 1000000) (hb : b.length ≤ 1000000) (w : World) (h1 : RowAt a sa w) (h2 : RowAt b (.slice bo n cap) w) :
    Calls Tryd.prog 20 #[sa, .slice bo n cap] w fun e w' => e = .returned (.bool v) ∧ Below w.heap.size w w' := by
  subst hn
  have g := prefix_any a b sa bo cap hc ha hb w h1 h2
  rw [hv] at g
  exact g
end Ky
end Go.Proofs.YtppdebhcaodcnaaDoor
