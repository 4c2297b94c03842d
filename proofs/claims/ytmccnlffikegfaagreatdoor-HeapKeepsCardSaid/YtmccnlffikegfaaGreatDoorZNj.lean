/- A row of one-cell values that is the call's own: appended to, an element set, cut at its end; a heap beside it; the heap of HeapKeeps with its root and its records. Conditions: as each says. -/
import Derived.Test.YtmccnlffikegfaaGreatDoorZNi
import Derived.Lib.OwnKind
namespace Go.Proofs.YtmccnlffikegfaaGreatDoor
open Go.RowKit
namespace Hep
open Pgr
open Dsk (zeros pad pad_len KeepQ Only cell_later below_keeps infoI owns_later)
open Crc (S S_of S_size S_append)
theorem infoT : (Tryz.prog.info? 9).map (fun i => (i.zero, i.size, i.bytes)) = some (some (.string ⟨#[]⟩), 1, 16) := by kernel_rfl
theorem i64_and65535 (n : Int) : bits .and .i64 n 65535 = n % 65536 := by
  have h1 : (BitVec.ofInt 64 65535).toNat = 2 ^ 16 - 1 := by decide
  have key : (BitVec.ofInt 64 n &&& BitVec.ofInt 64 65535).toNat = (n % ((2 ^ 64 : Nat) : Int)).toNat % 2 ^ 16 := by
    rw [BitVec.toNat_and, BitVec.toNat_ofInt, h1, Nat.and_two_pow_sub_one_eq_mod]
  show IntKind.i64.wrap ((BitVec.ofInt 64 n &&& BitVec.ofInt 64 65535).toNat : Nat) = n % 65536
  rw [key, IntKind.wrap_i64]
  omega
/-- The row v holds these values, in a block of Q from base on. -/
structure RowO (base : Nat) (e : TypeId) (Q : Nat → Prop) (xs : List Value) (v : Value) (w : World) : Prop where
  own : w.ownsRow base e 1 v xs.length xs
  inq : ∀ g, v.ownBlock = some g → Q g
section
variable {base : Nat} {e e' : TypeId} {Q Q' : Nat → Prop} {xs xs' : List Value} {v v' : Value} {w w' : World}
theorem RowO.keep (h : RowO base e Q xs v w) (hk : KeepQ Q w w') : RowO base e Q xs v w' := ⟨Dsk.ownsRow_of h.own (fun g hg => hk g (h.inq g hg)), h.inq⟩
theorem RowO.mono (h : RowO base e Q xs v w) (hQ : ∀ k, Q k → Q' k) : RowO base e Q' xs v w := ⟨h.own, fun g hg => hQ g (h.inq g hg)⟩
theorem RowO.nil (base : Nat) (e : TypeId) (Q : Nat → Prop) (w : World) : RowO base e Q [] (.slice none 0 0) w := ⟨World.ownsRow_nil _ _ _ _, fun g hg => by cases hg⟩
theorem RowO.form (h : RowO base e Q xs v w) : ∃ ao cap, v = .slice ao xs.length cap ∧ xs.length ≤ cap ∧ cap ≤ 9223372036854775807 := by
  rcases h.own.2 with ⟨h2, h0⟩ | ⟨g, cap, cur, hv, _, _, hc, hm, _⟩
  · exact ⟨none, 0, by rw [h2, h0], by omega, by omega⟩
  · exact ⟨_, cap, hv, hc, by unfold maxLen at hm; omega⟩
/-- Where the row has a value, it has a block. -/
theorem RowO.held (h : RowO base e Q xs v w) (hp : 0 < xs.length) : ∃ g cap, v = .slice (some ⟨g, 0, none⟩) xs.length cap ∧ xs.length ≤ cap ∧ cap ≤ 9223372036854775807 ∧ base ≤ g ∧ g < w.heap.size ∧ Q g := by
  rcases h.own.2 with ⟨_, h2⟩ | ⟨g, c, cur, hv, hlo, hh, hnc, hcm, _⟩
  · omega
  · exact ⟨g, c, hv, hnc, by unfold maxLen at hcm; omega, hlo, lt_of_block hh, h.inq g (by rw [hv]; rfl)⟩
theorem RowO.at {g n cap : Nat} (h : RowO base e Q xs (.slice (some ⟨g, 0, none⟩) n cap) w) (i : Nat) (hi : i < xs.length) : w.cell? ⟨g, i, none⟩ = some xs[i] ∧ w.frozen? ⟨g, i, none⟩ = false := by
  have hn : n = xs.length := by
    obtain ⟨_, _, h1, _⟩ := h.form
    simp only [Value.slice.injEq] at h1
    exact h1.2.1
  subst hn
  exact ⟨by rw [h.own.cellAt i (by omega)]; simp [hi], h.own.frozenAt i⟩
theorem RowO.set {g n cap : Nat} (h : RowO base e Q xs (.slice (some ⟨g, 0, none⟩) n cap) w) (i : Nat) (u : Value) : RowO base e Q (xs.set i u) (.slice (some ⟨g, 0, none⟩) n cap) (w.setCell ⟨g, i, none⟩ u) := by
  have hn : n = xs.length := by
    obtain ⟨_, _, h1, _⟩ := h.form
    simp only [Value.slice.injEq] at h1
    exact h1.2.1
  subst hn
  exact ⟨by rw [List.length_set]; exact (h.own.stored i u).1, h.inq⟩
theorem RowO.ne (h : RowO base e Q xs v w) (h' : RowO base e' Q' xs' v' w) (hte : e ≠ e') (g : Nat) (hg : v.ownBlock = some g) : v'.ownBlock ≠ some g := fun hg' => by
  obtain ⟨c, f, h1⟩ := Lib.ownsRow_kind h.own g hg
  obtain ⟨c', f', h2⟩ := Lib.ownsRow_kind h'.own g hg'
  rw [h1] at h2
  simp only [Option.some.injEq, Obj.cells.injEq] at h2
  exact hte h2.2.1
/-- The other row stands when one of its values is set, when it grows. -/
theorem RowO.beside {g n cap : Nat} (h : RowO base e Q xs v w) (h' : RowO base e' Q' xs' (.slice (some ⟨g, 0, none⟩) n cap) w) (hte : e ≠ e') (i : Nat) (u : Value) : RowO base e Q xs v (w.setCell ⟨g, i, none⟩ u) :=
  ⟨Dsk.ownsRow_of h.own (fun k hk => heap_setCell_other w ⟨g, i, none⟩ k u (fun e9 => h.ne h' hte k hk (by show some g = some k; rw [show k = g from e9]))), h.inq⟩
theorem RowO.grown (h : RowO base e Q xs v w) (h' : RowO base e' Q' xs' v' w) (hte : e ≠ e') (hg : w.grownBy w' v'.ownBlock) : RowO base e Q xs v w' :=
  ⟨Dsk.ownsRow_of h.own (fun k hk => hg.block k (h.own.lt k hk).2 (fun e9 => h.ne h' hte k hk e9.symm)), h.inq⟩
theorem RowO.off (h : RowO base e Q xs v w) {b : Nat} {cs : Array Value} {T : TypeId} {f : Nat × Nat} (hb : w.heap[b]? = some (.cells cs T f)) (hte : T ≠ e) : some b ≠ v.ownBlock := fun he => by
  obtain ⟨c, f', h1⟩ := Lib.ownsRow_kind h.own b he.symm
  rw [hb] at h1
  simp only [Option.some.injEq, Obj.cells.injEq] at h1
  exact hte h1.2.1
theorem RowO.cut {g n cap : Nat} (h : RowO base e Q xs (.slice (some ⟨g, 0, none⟩) n cap) w) : RowO base e Q xs.dropLast (.slice (some ⟨g, 0, none⟩) (n - 1) cap) w := by
  refine ⟨?_, h.inq⟩
  have hn : n = xs.length := by
    obtain ⟨_, _, h1, _⟩ := h.form
    simp only [Value.slice.injEq] at h1
    exact h1.2.1
  subst hn
  refine ⟨by simp, .inr ?_⟩
  rcases h.own.2 with ⟨h', _⟩ | ⟨g', cap', cur, h', hb, hg, hnc, hcm, hcs, htake⟩
  · simp at h'
  · simp only [Value.slice.injEq, Option.some.injEq, Addr.mk.injEq, and_true, true_and] at h'
    obtain ⟨rfl, rfl⟩ := h'
    refine ⟨g, cap, cur, by rw [List.length_dropLast], hb, hg, by rw [List.length_dropLast]; omega, hcm, hcs, ?_⟩
    have e1 : cur.toList.take ((xs.length - 1) * 1) = (cur.toList.take (xs.length * 1)).take (xs.length - 1) := by rw [List.take_take]; congr 1; omega
    rw [List.length_dropLast, e1, htake, ← List.dropLast_eq_take]
/-- append(v, x) -/
theorem row_append {t ty : TypeId} {z : Value} {by_ : Nat} (ht : Tryz.prog.underlying t = some (.slice e)) (hinf : (Tryz.prog.info? e).map (fun i => (i.zero, i.size, i.bytes)) = some (some z, 1, by_)) (hz1 : z.cells.size = 1) (hby : by_ ≤ 16) (h : RowO base e Q xs v w) (x : Value) (hx1 : x.oneCell' = true) (g c : Nat) (hc : w.cell? ⟨g, 0, none⟩ = some x) (hn : xs.length + 1 ≤ 1000000) (hb : base ≤ w.heap.size) :
    ∃ v' w', (Builtin.append_ #[t, t] ty #[v, .slice (some ⟨g, 0, none⟩) 1 c]).run Tryz.prog w = .ok v' w' ∧ RowO base e (fun k => Q k ∨ (w.heap.size ≤ k ∧ k < w'.heap.size)) (xs ++ [x]) v' w' ∧ w.grownBy w' v.ownBlock := by
  obtain ⟨i0, hi0, hz0, hz2, hz3⟩ := info_parts hinf
  obtain ⟨v', w', hr, hown, hgr, _, hob⟩ := run_append_own_at (P := Tryz.prog) (w := w) base t ty e i0 z 1 by_ ht hi0 hz0 hz2 hz3 hz1 (by decide) v xs.length xs h.own ⟨g, 0, none⟩ 1 c [x] rfl (by
    intro j u hu
    rcases j with _ | j
    · simp at hu; subst hu; exact hc
    · simp at hu) (by intro u hu; simp at hu; rw [hu]; exact hx1) (by unfold maxLen; omega) (Nat.le_trans (Nat.mul_le_mul_left _ hby) (by omega)) hb
  refine ⟨v', w', hr, ⟨?_, fun g' hg => ?_⟩, hgr⟩
  · rw [List.length_append]; exact hown
  · have hlt := (hown.lt g' hg).2
    rcases hob with e9 | e9
    · rw [e9] at hg; exact .inl (h.inq g' hg)
    · rw [e9] at hg; cases hg; exact .inr ⟨Nat.le_refl _, hlt⟩
theorem wpList_row {t : TypeId} {z : Value} {by_ : Nat} {ops : Array Oper} {rest : List Oper} {o : Oper} {a : Act} {Qx : Exit → Act → World → Prop} (hgd : o.guard = none) (s y : Operand)
    (ho : o.op = .call { callee := .builtin .append, args := #[s, y], argTypes := #[t, t] }) (hs : a.eval s = v) (x : Value) (g c : Nat) (hx : a.eval y = .slice (some ⟨g, 0, none⟩) 1 c)
    (ht : Tryz.prog.underlying t = some (.slice e)) (hinf : (Tryz.prog.info? e).map (fun i => (i.zero, i.size, i.bytes)) = some (some z, 1, by_)) (hz1 : z.cells.size = 1) (hby : by_ ≤ 16) (h : RowO base e Q xs v w) (hx1 : x.oneCell' = true)
    (hc : w.cell? ⟨g, 0, none⟩ = some x) (hn : xs.length + 1 ≤ 1000000) (hb : base ≤ w.heap.size)
    (hK : ∀ v' w', RowO base e (fun k => Q k ∨ (w.heap.size ≤ k ∧ k < w'.heap.size)) (xs ++ [x]) v' w' → w.grownBy w' v.ownBlock → wpList Tryz.prog ops Qx rest (a.put o.dst v') w') : wpList Tryz.prog ops Qx (o :: rest) a w := by
  obtain ⟨v', w', hr, hp, hg⟩ := row_append (ty := o.type) ht hinf hz1 hby h x hx1 g c hc hn hb
  exact Lib.wpList_append_run w hgd s y _ _ ho v _ hs hx v' w' hr (hK v' w' hp hg)
end
section
variable {W w w' : World} {Q Q' : Nat → Prop} {B P L D n N K : Nat} {u : Bool} {c c' : Nat} {V G G' : Pages} {x : Nat} {A : List Rec} {e : TypeId} {xs : List Value} {v : Value}
/-- The heap stands when a row beside it grows, or has a value set. -/
theorem Hp.grown (h : Hp W Q B P L D n N K u V c G x A w) (hi : RowO (B + 1) e Q xs v w) (hg : w.grownBy w' v.ownBlock) : Hp W (fun k => Q k ∨ (w.heap.size ≤ k ∧ k < w'.heap.size)) B P L D n N K u V c G x A w' :=
  h.guardO (T := fun k => v.ownBlock = some k) ((Only.refl _ w).grown hg (fun _ hj => .inl hj)) (fun k hk => ⟨hi.inq k hk, by have := (hi.own.lt k hk).1; have := h.g.lo; omega⟩) (fun e9 => by have := (hi.own.lt B e9).1; omega)
theorem Hp.stored {g m cap : Nat} (h : Hp W Q B P L D n N K u V c G x A w) (hi : RowO (B + 1) e Q xs (.slice (some ⟨g, 0, none⟩) m cap) w) (i : Nat) (y : Value) : Hp W Q B P L D n N K u V c G x A (w.setCell ⟨g, i, none⟩ y) :=
  (h.guardO (T := fun k => k = g) (Only.set (T := fun k => k = g) (Only.refl _ w) (p := ⟨g, i, none⟩) (.inl rfl) y) (fun k hk => by subst hk; exact ⟨hi.inq k rfl, by have := (hi.own.lt k rfl).1; have := h.g.lo; omega⟩) (fun e9 => by subst e9; have := (hi.own.lt B rfl).1; omega)).less (fun _ hk => .inl hk) h.g.inq
end
/-! ### The heap of HeapKeeps -/
def idsV (A : List Rec) : List Value := A.map fun r => .int .i64 (r.id : Int)
def allV (A : List Rec) : List Value := A.map fun r => .string (S r.2)
theorem idsV_len (A : List Rec) : (idsV A).length = A.length := by simp [idsV]
theorem allV_len (A : List Rec) : (allV A).length = A.length := by simp [allV]
/-- The root's record is one of its own, or there is none. -/
def RootOf (R0 : List Rec) (x : Nat) : Prop := (R0 = [] ∧ x = 0) ∨ ∃ r : Rec, R0 = [r] ∧ r.id = x
/-- The heap, its root's record apart, and the two rows that name the others. -/
structure Hk (w : World) (Q : Nat → Prop) (B P L D : Nat) (G : Pages) (x : Nat) (R0 A : List Rec) (ids all : Value) (z : World) : Prop where
  hp : Hp w Q B P L D 8 100 2000 true (fun _ => zeros) 100 G x (R0 ++ A) z
  rt : RootOf R0 x
  i : RowO (B + 1) 3 Q (idsV A) ids z
  t : RowO (B + 1) 9 Q (allV A) all z
theorem tne : 9 ≠ 3 := by decide
theorem tne2 : 3 ≠ 9 := by decide
theorem pgs_app (A A' : List Rec) : (pgs (A ++ A')).length = (pgs A).length + (pgs A').length := by simp [pgs]
section
variable {w z z' : World} {Q : Nat → Prop} {B P L D : Nat} {G G' : Pages} {x : Nat} {R0 A : List Rec} {ids all : Value}
theorem Hk.later (h : Hk w Q B P L D G x R0 A ids all z) (hb : Below z.heap.size z z') : Hk w Q B P L D G x R0 A ids all z' :=
  ⟨h.hp.later hb, h.rt, h.i.keep (h.hp.kept hb), h.t.keep (h.hp.kept hb)⟩
theorem Hk.guard (h : Hk w Q B P L D G x R0 A ids all z) (hb : Below z.heap.size z z') : Hk w (fun k => Q k ∨ (z.heap.size ≤ k ∧ k < z'.heap.size)) B P L D G x R0 A ids all z' :=
  ⟨h.hp.guard hb, h.rt, (h.i.keep (h.hp.kept hb)).mono (fun _ => .inl), (h.t.keep (h.hp.kept hb)).mono (fun _ => .inl)⟩
theorem Hk.put (h : Hk w Q B P L D G x R0 A ids all z) (s : List UInt8) (hs : s.length ≤ 100000) (hf : need s.length + 2 + (pgs (R0 ++ A)).length ≤ 100) :
    Calls Tryz.prog 9 #[.pointer (some ⟨B, 0, none⟩), .string (S s)] z fun e z' => ∃ (l : List Nat) (G' : Pages), e = .returned (.tuple #[.int .i64 ((l.headD 0 : Nat) : Int), .int .i64 0]) ∧ Hp w Q B P L D 8 100 2000 true (fun _ => zeros) 100 G' x (R0 ++ (A ++ [(l, s)])) z' ∧ RowO (B + 1) 3 Q (idsV A) ids z' ∧ RowO (B + 1) 9 Q (allV A) all z' ∧ KeepQ Q z z' := by
  refine (h.hp.put s hs hf).mono fun e w' hh => ?_
  obtain ⟨l, G', he, _, _, hp, hk⟩ := hh
  refine ⟨l, G', he, hp.any.perm ?_, h.i.keep hk, h.t.keep hk, hk⟩
  rw [← List.append_assoc]
  exact (List.perm_append_comm (l₁ := [(l, s)]) (l₂ := R0 ++ A))
theorem Hk.drop (h : Hk w Q B P L D G x R0 A ids all z) (k : Nat) (hk : k < A.length) (id : Nat) (hid : (A[k]).id = id) :
    Calls Tryz.prog 10 #[.pointer (some ⟨B, 0, none⟩), .int .i64 (id : Int)] z fun e z' => e = .returned (.int .i64 0) ∧ ∃ (G' : Pages), Hp w Q B P L D 8 100 2000 true (fun _ => zeros) 100 G' x (R0 ++ (A.set k (A[A.length - 1]'(by omega))).dropLast) z' ∧ RowO (B + 1) 3 Q (idsV A) ids z' ∧ RowO (B + 1) 9 Q (allV A) all z' := by
  have hp : Hp w Q B P L D 8 100 2000 true (fun _ => zeros) 100 G x (A[k] :: (R0 ++ (A.set k (A[A.length - 1]'(by omega))).dropLast)) z := h.hp.perm (by
    refine (List.Perm.append_left R0 (perm_swap A k hk)).trans ?_
    exact List.perm_middle)
  refine (hp.drop (by
    rcases h.rt with ⟨_, e⟩ | ⟨r, e, hx⟩
    · exact .inl e
    · exact .inr ⟨r, by rw [e]; simp, hx⟩) id hid).mono fun e w' hh => ?_
  obtain ⟨he, ⟨G', hp'⟩, _, hkq⟩ := hh
  exact ⟨he, G', hp'.any, h.i.keep hkq, h.t.keep hkq⟩
theorem Hk.set (h : Hk w Q B P L D G x R0 A ids all z) (s : List UInt8) (hs : s.length ≤ 100000) (hf : need s.length + 2 + (pgs (R0 ++ A)).length ≤ 100) :
    Calls Tryz.prog 11 #[.pointer (some ⟨B, 0, none⟩), .string (S s)] z fun e z' => ∃ (l : List Nat) (G' : Pages), e = .returned (.int .i64 0) ∧ l.length = need s.length ∧ Hk w Q B P L D G' (l.headD 0) [(l, s)] A ids all z' ∧ KeepQ Q z z' := by
  rcases h.rt with ⟨rfl, rfl⟩ | ⟨r, rfl, hx⟩
  · refine (h.hp.set_first s hs hf).mono fun e w' hh => ?_
    obtain ⟨l, G', he, hl, _, hp, hk⟩ := hh
    exact ⟨l, G', he, hl, ⟨hp.any, .inr ⟨_, rfl, rfl⟩, h.i.keep hk, h.t.keep hk⟩, hk⟩
  · refine (h.hp.set_again hx s hs hf).mono fun e w' hh => ?_
    obtain ⟨l, G', he, hl, _, hp, hk⟩ := hh
    exact ⟨l, G', he, hl, ⟨hp.any, .inr ⟨_, rfl, rfl⟩, h.i.keep hk, h.t.keep hk⟩, hk⟩
theorem Hk.set_no (h : Hk w Q B P L D G x R0 A ids all z) (s : List UInt8) (hs : s.length ≤ 100000) (hf : 100 < need s.length + 2 + (pgs (R0 ++ A)).length) :
    Calls Tryz.prog 11 #[.pointer (some ⟨B, 0, none⟩), .string (S s)] z fun e z' => e = .returned (.int .i64 3) ∧ Below z.heap.size z z' := by
  rcases h.rt with ⟨rfl, rfl⟩ | ⟨r, rfl, hx⟩
  · exact h.hp.set_no h.hp.old_none s hs hf
  · exact h.hp.set_no (h.hp.old (r := r) (by simp) hx) s hs hf
/-- The state of HeapKeeps: so many records beside the root's, which has so many pages. -/
def St (w : World) (B P L D m rr : Nat) (ids all : Value) (z : World) : Prop := ∃ (Q : Nat → Prop) (G : Pages) (x : Nat) (R0 A : List Rec), Hk w Q B P L D G x R0 A ids all z ∧ A.length = m ∧ (pgs R0).length = rr
theorem opRow (w : World) (a b : Int) (s : ByteArray) : (w.alloc (.cells #[.int .i64 a, .int .i64 b, .string s] 30)).heap[w.heap.size]? = some (.cells #[.int .i64 a, .int .i64 b, .string s] 30 (0, 0)) := heap_alloc_last w _
theorem one1 : 30 ≠ 3 := by decide
theorem one2 : 30 ≠ 9 := by decide
theorem tmod_nat2 (a b : Nat) : ((a : Int).tmod (b : Int)) = ((a % b : Nat) : Int) := by rw [Int.tmod_eq_emod_of_nonneg (by omega)]; omega
/-- Both rows grown. -/
theorem idsV_snoc (A : List Rec) (r : Rec) : idsV (A ++ [r]) = idsV A ++ [.int .i64 (r.id : Int)] := by simp [idsV]
theorem allV_snoc (A : List Rec) (r : Rec) : allV (A ++ [r]) = allV A ++ [.string (S r.2)] := by simp [allV]
theorem idsV_cut (A : List Rec) (k : Nat) (r : Rec) : idsV (A.set k r).dropLast = ((idsV A).set k (.int .i64 (r.id : Int))).dropLast := by
  unfold idsV; rw [List.map_dropLast, List.map_set]
theorem allV_cut (A : List Rec) (k : Nat) (r : Rec) : allV (A.set k r).dropLast = ((allV A).set k (.string (S r.2))).dropLast := by
  unfold allV; rw [List.map_dropLast, List.map_set]
theorem idsV_at (A : List Rec) (k : Nat) (h : k < A.length) : (idsV A)[k]'(by rw [idsV_len]; exact h) = .int .i64 ((A[k]).id : Int) := by simp [idsV]
theorem allV_at (A : List Rec) (k : Nat) (h : k < A.length) : (allV A)[k]'(by rw [allV_len]; exact h) = .string (S (A[k]).2) := by simp [allV]
theorem Hp.part {r : Rec} {AA : List Rec} (h : Hp w Q B P L D 8 100 2000 true (fun _ => zeros) 100 G x AA z) (hr : r ∈ AA) : r.1.length = Hep.need r.2.length ∧ r.id < 100 := by
  obtain ⟨_, _, h3, _, h5⟩ := h.h.got hr
  exact ⟨h5, h3⟩
theorem pgs_take (A : List Rec) (j : Nat) (h : j < A.length) : (pgs (A.take (j + 1))).length = (pgs (A.take j)).length + (A[j]).1.length := by
  rw [List.take_succ_eq_append_getElem h, pgs_app]
  simp [pgs]
/-- The slice s[:h] of a row. -/
theorem run_head {t e : TypeId} (ht : Tryz.prog.underlying t = some (.slice e)) (g n cap h : Nat) (hh : h ≤ cap) (z : World) : (Instr.slice t (.slice (some ⟨g, 0, none⟩) n cap) none (some (.int .i64 (h : Int))) none).run Tryz.prog z = ((sizeOf (Tryz.prog.elem t)).run Tryz.prog z).andThen fun s w => .ok (sliced (some ⟨g, 0, none⟩) 0 h cap s) w := by
  have := run_slice_h (P := Tryz.prog) z t (some ⟨g, 0, none⟩) n cap (by unfold Program.elem; rw [ht]) .i64 (h : Int) (by omega) (by omega)
  rw [this]; rfl
end
end Hep
end Go.Proofs.YtmccnlffikegfaaGreatDoor
