/- The index in memory: blocks of items; what a change of some of its blocks comes to; where the place of a key and a start is. Condition: as each says. -/
import Derived.Test.YtapdhelioecneaaW6
import Derived.Test.YtapdhelioecneaaU10
namespace Go.Proofs.Ytapdhelioecneaa
open Go.RowKit
namespace Idx
/-! ### plain -/
def its (Bs : List Bkm) : List It := Bs.flatMap (·.xs)
theorem its_app (A B : List Bkm) : its (A ++ B) = its A ++ its B := by simp [its]
theorem its_one (b : Bkm) : its [b] = b.xs := by simp [its]
theorem its_cons (b : Bkm) (B : List Bkm) : its (b :: B) = b.xs ++ its B := by simp [its]
theorem its_cut (Bs : List Bkm) (n : Nat) : its Bs = its (Bs.take n) ++ its (Bs.drop n) := by rw [← its_app, List.take_append_drop]
theorem its_split (Bs : List Bkm) (n : Nat) (hn : n < Bs.length) : its Bs = its (Bs.take n) ++ (Bs[n].xs ++ its (Bs.drop (n + 1))) := by
  rw [its_cut Bs n, List.drop_eq_getElem_cons hn, its_cons]
theorem mem_its {Bs : List Bkm} {x : It} : x ∈ its Bs ↔ ∃ b, b ∈ Bs ∧ x ∈ b.xs := by simp [its]
/-- How many items stand ahead of a block. -/
def cnt (Bs : List Bkm) (n : Nat) : Nat := (its (Bs.take n)).length
theorem cnt_le (Bs : List Bkm) (n : Nat) (hn : n < Bs.length) : cnt Bs n + Bs[n].xs.length ≤ (its Bs).length := by
  rw [its_split Bs n hn, List.length_append, List.length_append]; unfold cnt; omega
theorem len_le {Bs : List Bkm} (h : ∀ b, b ∈ Bs → 1 ≤ b.xs.length) : Bs.length ≤ (its Bs).length := by
  induction Bs with
  | nil => simp
  | cons b Bs ih =>
    have h1 := ih (fun x hx => h x (List.mem_cons_of_mem _ hx))
    have h2 := h b List.mem_cons_self
    rw [its_cons, List.length_append, List.length_cons]; omega
theorem mem_len {Bs : List Bkm} {b : Bkm} (h : b ∈ Bs) : b.xs.length ≤ (its Bs).length := by
  obtain ⟨n, hn, rfl⟩ := List.getElem_of_mem h
  have := cnt_le Bs n hn
  omega
/-- No block is too large, none too small. -/
structure Siz (n : Int) (Bs : List Bkm) : Prop where
  one : ∀ b, b ∈ Bs → 1 ≤ b.xs.length ∧ (b.xs.length : Int) ≤ 2 * n
  two : ∀ (j : Nat) (h : j + 1 < Bs.length), n < (Bs[j].xs.length : Int) + (Bs[j + 1].xs.length : Int)
theorem siz_nil (n : Int) : Siz n [] := ⟨fun _ h => (by cases h), fun j h => (by simp at h)⟩
/-! ### memory -/
/-- The blocks that an index stands in. -/
def fp (R : Nat) (Bs : List Bkm) (v : Value) (k : Nat) : Prop := k = R ∨ v.ownBlock = some k ∨ ∃ b, b ∈ Bs ∧ b.th.ownBlock = some k
structure St (R : Nat) (n : Int) (Bs : List Bkm) (v : Value) (w : World) : Prop where
  c0 : w.cell? ⟨R, 0, none⟩ = some (.pointer (some ⟨R, 0, none⟩))
  c1 : w.cell? ⟨R, 1, none⟩ = some (.int .i64 n)
  c2 : w.cell? ⟨R, 2, none⟩ = some v
  z2 : w.frozen? ⟨R, 2, none⟩ = false
  wd : 2 ≤ n ∧ n ≤ 100
  row : Row2 0 Bs v w
  th : ∀ b, b ∈ Bs → Row4 31 0 b.xs b.th w
  one : ∀ b, b ∈ Bs → 1 ≤ b.xs.length
  ap : Bs.Pairwise fun a b => a.th.ownBlock ≠ b.th.ownBlock
  vR : v.ownBlock ≠ some R
  off : ∀ b, b ∈ Bs → b.th.ownBlock ≠ v.ownBlock ∧ b.th.ownBlock ≠ some R
section
variable {R : Nat} {n : Int} {Bs : List Bkm} {v : Value} {w w' : World}
theorem St.lt (h : St R n Bs v w) : R < w.heap.size := World.block_lt_of_cell? w _ h.c0
theorem St.own (h : St R n Bs v w) {b : Bkm} (hb : b ∈ Bs) : ∃ g, b.ao = some ⟨g, 0, none⟩ ∧ b.th.ownBlock = some g ∧ g < w.heap.size := by
  obtain ⟨g, cap, e, _, _, _, hg⟩ := (h.th b hb).held (by have := h.one b hb; omega)
  unfold Bkm.th at e
  simp only [Value.slice.injEq, true_and] at e
  exact ⟨g, e.1, by unfold Bkm.th; rw [e.1]; rfl, hg⟩
theorem St.fl (h : St R n Bs v w) : ∀ k, fp R Bs v k → k < w.heap.size := by
  rintro k (rfl | hk | ⟨b, hb, hk⟩)
  · exact h.lt
  · exact (h.row.lt k hk).2
  · exact ((h.th b hb).lt k hk).2
theorem St.kept (h : St R n Bs v w) (hk : ∀ k, fp R Bs v k → w'.heap[k]? = w.heap[k]?) : St R n Bs v w' := by
  have e := hk R (.inl rfl)
  refine ⟨?_, ?_, ?_, ?_, h.wd, h.row.kept (fun g hg => hk g (.inr (.inl hg))), fun b hb => (h.th b hb).kept (fun g hg => hk g (.inr (.inr ⟨b, hb, hg⟩))), h.one, h.ap, h.vR, h.off⟩
  · rw [World.cell?_of_block (a := ⟨R, 0, none⟩) e]; exact h.c0
  · rw [World.cell?_of_block (a := ⟨R, 1, none⟩) e]; exact h.c1
  · rw [World.cell?_of_block (a := ⟨R, 2, none⟩) e]; exact h.c2
  · rw [World.frozen?_of_block (a := ⟨R, 2, none⟩) e]; exact h.z2
theorem St.later {b : Nat} (h : St R n Bs v w) (hb : Below b w w') (hn : w.heap.size ≤ b) : St R n Bs v w' := h.kept (fun k hk => hb.block k (Nat.lt_of_lt_of_le (h.fl k hk) hn))
theorem St.own_ne (h : St R n Bs v w) {q : Nat} (hq : q < Bs.length) {b : Bkm} (i j : Nat) (hi : i ≤ q) (hj : q < j) (hb : b ∈ Bs.take i ++ Bs.drop j) : b.th.ownBlock ≠ Bs[q].th.ownBlock := by
  rcases List.mem_append.1 hb with hb | hb
  · obtain ⟨z, hz, e⟩ := List.getElem_of_mem hb
    rw [List.length_take] at hz
    rw [List.getElem_take] at e
    rw [← e]
    exact (List.pairwise_iff_getElem.1 h.ap) z q (by omega) hq (by omega)
  · obtain ⟨z, hz, e⟩ := List.getElem_of_mem hb
    rw [List.length_drop] at hz
    rw [List.getElem_drop] at e
    rw [← e]
    exact ((List.pairwise_iff_getElem.1 h.ap) q (j + z) hq (by omega) (by omega)).symm
end
/-- Which blocks a change of the blocks from i on, up to j, may write. -/
def ch (R : Nat) (Bs : List Bkm) (v : Value) (i j k : Nat) : Prop := k = R ∨ v.ownBlock = some k ∨ ∃ (q : Nat) (hq : q < Bs.length), i ≤ q ∧ q < j ∧ Bs[q].th.ownBlock = some k
theorem ch_fp {R : Nat} {Bs : List Bkm} {v : Value} {i j k : Nat} (h : ch R Bs v i j k) : fp R Bs v k := by
  rcases h with h | h | ⟨q, hq, _, _, h⟩
  · exact .inl h
  · exact .inr (.inl h)
  · exact .inr (.inr ⟨_, List.getElem_mem hq, h⟩)
/-- What a change of the index in memory comes to. -/
def Mut (R : Nat) (n : Int) (Bs : List Bkm) (v : Value) (w : World) (Bs' : List Bkm) (w' : World) : Prop := ∃ v', St R n Bs' v' w' ∧ Only (fp R Bs v) w w' ∧ ∀ k, fp R Bs' v' k → fp R Bs v k ∨ w.heap.size ≤ k
theorem Mut.same {R : Nat} {n : Int} {Bs : List Bkm} {v : Value} {w w' : World} (h : St R n Bs v w) (hb : Below w.heap.size w w') : Mut R n Bs v w Bs w' := ⟨v, h.later hb (Nat.le_refl _), .of hb, fun _ h => .inl h⟩
theorem Mut.trans {R : Nat} {n : Int} {A B C : List Bkm} {v : Value} {w w1 w2 : World} (h : Mut R n A v w B w1) (k : ∀ v', St R n B v' w1 → Mut R n B v' w1 C w2) : Mut R n A v w C w2 := by
  obtain ⟨v1, h1, h2, h3⟩ := h
  obtain ⟨v2, k1, k2, k3⟩ := k v1 h1
  refine ⟨v2, k1, h2.trans k2 h3, fun x hx => ?_⟩
  rcases k3 x hx with e | e
  · exact h3 x e
  · exact .inr (Nat.le_trans h2.size e)
theorem Mut.pre {R : Nat} {n : Int} {A B : List Bkm} {v : Value} {w w0 w1 : World} (hb : Below w.heap.size w w0) (h : Mut R n A v w0 B w1) : Mut R n A v w B w1 := by
  obtain ⟨v1, h1, h2, h3⟩ := h
  exact ⟨v1, h1, (Only.of (T := fp R A v) hb).trans h2 (fun _ e => .inl e), fun x hx => (h3 x hx).imp id (fun e => Nat.le_trans hb.size e)⟩
theorem Mut.post {R : Nat} {n : Int} {A B : List Bkm} {v : Value} {w w0 w1 : World} (h : Mut R n A v w B w0) (hb : Below w0.heap.size w0 w1) : Mut R n A v w B w1 := h.trans (fun _ hv => .same hv hb)
/-- THE CHANGE: M stands where the blocks from i on, up to j, stood. -/
theorem St.rep {R : Nat} {n : Int} {Bs : List Bkm} {v : Value} {w w' : World} (h : St R n Bs v w) {i j : Nat} {M : List Bkm} {v' : Value} (hij : i ≤ j) (_hj : j ≤ Bs.length)
    (hO : Only (ch R Bs v i j) w w') (c0 : w'.cell? ⟨R, 0, none⟩ = some (.pointer (some ⟨R, 0, none⟩))) (c1 : w'.cell? ⟨R, 1, none⟩ = some (.int .i64 n)) (c2 : w'.cell? ⟨R, 2, none⟩ = some v') (z2 : w'.frozen? ⟨R, 2, none⟩ = false)
    (row : Row2 0 (Bs.take i ++ M ++ Bs.drop j) v' w') (hv : v'.ownBlock = v.ownBlock ∨ ∃ g, v'.ownBlock = some g ∧ w.heap.size ≤ g)
    (hM : ∀ m, m ∈ M → Row4 31 0 m.xs m.th w' ∧ 1 ≤ m.xs.length ∧ m.th.ownBlock ≠ v'.ownBlock ∧ ∃ g, m.th.ownBlock = some g ∧ (w.heap.size ≤ g ∨ ∃ (q : Nat) (hq : q < Bs.length), i ≤ q ∧ q < j ∧ Bs[q].th.ownBlock = some g))
    (hMp : M.Pairwise fun a b => a.th.ownBlock ≠ b.th.ownBlock) : Mut R n Bs v w (Bs.take i ++ M ++ Bs.drop j) w' := by
  have hold : ∀ b, b ∈ Bs.take i ++ Bs.drop j → b ∈ Bs := fun b hb => by
    rcases List.mem_append.1 hb with hb | hb
    · exact List.mem_of_mem_take hb
    · exact List.mem_of_mem_drop hb
  have hmem : ∀ b, b ∈ Bs.take i ++ M ++ Bs.drop j → b ∈ M ∨ b ∈ Bs.take i ++ Bs.drop j := fun b hb => by
    simp only [List.mem_append] at hb ⊢
    rcases hb with (hb | hb) | hb
    · exact .inr (.inl hb)
    · exact .inl hb
    · exact .inr (.inr hb)
  have hkeep : ∀ b, b ∈ Bs.take i ++ Bs.drop j → ∀ g, b.th.ownBlock = some g → ¬ ch R Bs v i j g := fun b hb g hg hc => by
    rcases hc with rfl | hc | ⟨q, hq, h1, h2, h3⟩
    · exact (h.off b (hold b hb)).2 hg
    · exact (h.off b (hold b hb)).1 (hg.trans hc.symm)
    · exact h.own_ne hq i j h1 h2 hb (hg.trans h3.symm)
  have hthO : ∀ b, b ∈ Bs.take i ++ Bs.drop j → Row4 31 0 b.xs b.th w' := fun b hb => (h.th b (hold b hb)).kept (fun g hg => hO.block g ((h.th b (hold b hb)).lt g hg).2 (hkeep b hb g hg))
  have hvo : ∀ b, b ∈ Bs.take i ++ Bs.drop j → b.th.ownBlock ≠ v'.ownBlock := fun b hb e => by
    rcases hv with e2 | ⟨g, e2, e3⟩
    · exact (h.off b (hold b hb)).1 (e.trans e2)
    · have := ((h.th b (hold b hb)).lt g (e.trans e2)).2; omega
  refine ⟨v', ⟨c0, c1, c2, z2, h.wd, row, fun b hb => ?_, fun b hb => ?_, ?_, fun e => ?_, fun b hb => ?_⟩, hO.mono (fun k hk => ch_fp hk), fun k hk => ?_⟩
  · rcases hmem b hb with hb | hb
    · exact (hM b hb).1
    · exact hthO b hb
  · rcases hmem b hb with hb | hb
    · exact (hM b hb).2.1
    · exact h.one b (hold b hb)
  · have hMO : ∀ m, m ∈ M → ∀ b, b ∈ Bs.take i ++ Bs.drop j → m.th.ownBlock ≠ b.th.ownBlock := fun m hm b hb e => by
      obtain ⟨_, _, _, g, hg, h9⟩ := hM m hm
      rcases h9 with h9 | ⟨q, hq, h1, h2, h3⟩
      · have := ((h.th b (hold b hb)).lt g (e.symm.trans hg)).2; omega
      · exact h.own_ne hq i j h1 h2 hb (e.symm.trans (hg.trans h3.symm))
    rw [List.append_assoc, List.pairwise_append, List.pairwise_append]
    refine ⟨h.ap.sublist (List.take_sublist _ _), ⟨hMp, h.ap.sublist (List.drop_sublist _ _), fun m hm b hb => hMO m hm b (List.mem_append.2 (.inr hb))⟩, fun a ha b hb => ?_⟩
    rcases List.mem_append.1 hb with hb | hb
    · exact (hMO b hb a (List.mem_append.2 (.inl ha))).symm
    · obtain ⟨x, hx, e⟩ := List.getElem_of_mem ha
      obtain ⟨y, hy, e2⟩ := List.getElem_of_mem hb
      rw [List.length_take] at hx
      rw [List.length_drop] at hy
      rw [List.getElem_take] at e
      rw [List.getElem_drop] at e2
      rw [← e, ← e2]
      exact (List.pairwise_iff_getElem.1 h.ap) x (j + y) (by omega) (by omega) (by omega)
  · rcases hv with e2 | ⟨g, e2, e3⟩
    · exact h.vR (e2.symm.trans e)
    · have := h.lt
      rw [e2] at e
      have := Option.some.inj e
      omega
  · rcases hmem b hb with hb | hb
    · obtain ⟨_, _, h3, g, hg, h9⟩ := hM b hb
      refine ⟨h3, fun e => ?_⟩
      rw [hg] at e
      have e4 := Option.some.inj e
      rcases h9 with h9 | ⟨q, hq, _, _, h3⟩
      · have := h.lt; omega
      · exact (h.off _ (List.getElem_mem hq)).2 (by rw [h3, e4])
    · exact ⟨hvo b hb, (h.off b (hold b hb)).2⟩
  · rcases hk with rfl | hk | ⟨b, hb, hk⟩
    · exact .inl (.inl rfl)
    · rcases hv with e2 | ⟨g, e2, e3⟩
      · exact .inl (.inr (.inl (e2 ▸ hk)))
      · rw [e2] at hk
        have := Option.some.inj hk
        exact .inr (by omega)
    · rcases hmem b hb with hb | hb
      · obtain ⟨_, _, _, g, hg, h9⟩ := hM b hb
        rw [hg] at hk
        have e4 := Option.some.inj hk
        subst e4
        rcases h9 with h9 | ⟨q, hq, _, _, h3⟩
        · exact .inr h9
        · exact .inl (.inr (.inr ⟨_, List.getElem_mem hq, h3⟩))
      · exact .inl (.inr (.inr ⟨b, hold b hb, hk⟩))
/-- What the program's index keeps to. -/
def PX (R : Nat) (n : Int) (F : Nat → Prop) (L : List It) (w : World) : Prop := ∃ Bs v, St R n Bs v w ∧ Siz n Bs ∧ its Bs = L ∧ (∀ k, fp R Bs v k → F k) ∧ ∀ k, F k → k < w.heap.size
theorem PX.keep {R : Nat} {n : Int} {F : Nat → Prop} {L : List It} {w w' : World} (h : PX R n F L w) (hs : w.heap.size ≤ w'.heap.size) (hk : ∀ k, F k → w'.heap[k]? = w.heap[k]?) : PX R n F L w' := by
  obtain ⟨Bs, v, h1, h2, h3, h4, h5⟩ := h
  exact ⟨Bs, v, h1.kept (fun k e => hk k (h4 k e)), h2, h3, h4, fun k e => Nat.lt_of_lt_of_le (h5 k e) hs⟩
/-- A change of it. -/
theorem Mut.chg {R : Nat} {n c : Int} {F : Nat → Prop} {Bs Bs' : List Bkm} {v : Value} {L' : List It} {w w' : World} (h : Mut R n Bs v w Bs' w') (hF : ∀ k, fp R Bs v k → F k) (hl : ∀ k, F k → k < w.heap.size) (hs : Siz n Bs') (hL : its Bs' = L') : ChgX PX R n F c L' w (.returned (.int .i64 c)) w' := by
  obtain ⟨v', h1, h2, h3⟩ := h
  refine ⟨rfl, Grow F w w', ⟨Bs', v', h1, hs, hL, fun k hk => ?_, fun k hk => ?_⟩, .grow (h2.mono hF)⟩
  · rcases h3 k hk with e | e
    · exact .inl (hF k e)
    · exact .inr ⟨e, h1.fl k hk⟩
  · rcases hk with e | e
    · exact Nat.lt_of_lt_of_le (hl k e) h2.size
    · exact e.2
end Idx
end Go.Proofs.Ytapdhelioecneaa
