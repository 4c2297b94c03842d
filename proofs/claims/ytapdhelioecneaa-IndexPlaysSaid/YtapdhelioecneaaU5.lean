/- Which blocks a call writes; the document's index in memory; its find, Get. Condition: at most a thousand items, texts below 2^62. -/
import Derived.Test.YtapdhelioecneaaU4
import Derived.Test.YtapdhelioecneaaMan
namespace Go.Proofs.Ytapdhelioecneaa
open Go.RowKit
namespace Idx
/-- But for blocks of T the world is as it was. -/
structure Only (T : Nat → Prop) (w w' : World) : Prop where
  os : w'.os = w.os
  tape : w'.tape = w.tape
  output : w'.output = w.output
  size : w.heap.size ≤ w'.heap.size
  block : ∀ k, k < w.heap.size → ¬ T k → w'.heap[k]? = w.heap[k]?
theorem Only.refl (T : Nat → Prop) (w : World) : Only T w w := ⟨rfl, rfl, rfl, Nat.le_refl _, fun _ _ _ => rfl⟩
theorem Only.trans {T T' : Nat → Prop} {a b c : World} (h : Only T a b) (k : Only T' b c) (hT : ∀ i, T' i → T i ∨ a.heap.size ≤ i) : Only T a c :=
  ⟨k.os.trans h.os, k.tape.trans h.tape, k.output.trans h.output, Nat.le_trans h.size k.size, fun i hi hn => (k.block i (Nat.lt_of_lt_of_le hi h.size) (fun e => (hT i e).elim hn (fun h2 => by omega))).trans (h.block i hi hn)⟩
theorem Only.of {T : Nat → Prop} {w w' : World} (h : Below w.heap.size w w') : Only T w w' := ⟨h.os, h.tape, h.output, h.size, fun k hk _ => h.block k hk⟩
theorem Only.mono {T T' : Nat → Prop} {w w' : World} (h : Only T w w') (hT : ∀ k, T k → T' k) : Only T' w w' := ⟨h.os, h.tape, h.output, h.size, fun k hk hn => h.block k hk (fun e => hn (hT k e))⟩
theorem Only.below {T : Nat → Prop} {w w' : World} {B : Nat} (h : Only T w w') (hT : ∀ k, T k → B ≤ k) (hB : B ≤ w.heap.size) : Below B w w' :=
  ⟨h.os, h.tape, h.output, h.size, fun k hk => h.block k (by omega) (fun e => by have := hT k e; omega)⟩
theorem Only.keeps {T : Nat → Prop} {k : Nat} {w w' : World} {o : Obj} (h : Only T w w') (hn : ¬ T k) (hk : w.heap[k]? = some o) : w'.heap[k]? = some o := by
  rw [h.block k (lt_of_block hk) hn, hk]
theorem Only.set {T : Nat → Prop} {a w : World} (h : Only T a w) {p : Addr} (hp : T p.block ∨ a.heap.size ≤ p.block) (u : Value) : Only T a (w.setCell p u) :=
  ⟨h.os, h.tape, h.output, by simpa [World.setCell] using h.size, fun k hk hn => (Below.heap_setCell _ _ _ _ (by intro e; rcases hp with h1 | h1; exact hn (e ▸ h1); omega)).trans (h.block k hk hn)⟩
theorem Only.alloc {T : Nat → Prop} {a w : World} (h : Only T a w) (o : Obj) : Only T a (w.alloc o) :=
  h.trans (T' := fun _ => False) (.of ((Below.refl _ _).alloc (Nat.le_refl _) _)) (fun _ h => h.elim)
theorem Only.grown {T : Nat → Prop} {a w w' : World} {row : Option Nat} (h : Only T a w) (hg : w.grownBy w' row) (hr : ∀ k, row = some k → T k ∨ a.heap.size ≤ k) : Only T a w' :=
  ⟨hg.os.trans h.os, hg.tape.trans h.tape, hg.output.trans h.output, Nat.le_trans h.size hg.size, fun k hk hn => by
    rw [hg.block k (Nat.lt_of_lt_of_le hk h.size) (fun e => (hr k e.symm).elim hn (fun h2 => by omega)), h.block k hk hn]⟩
/-- A footprint, grown by what has come. -/
def Grow (T : Nat → Prop) (w w' : World) (k : Nat) : Prop := T k ∨ (w.heap.size ≤ k ∧ k < w'.heap.size)
theorem Grow.self {T : Nat → Prop} {w w' : World} {k : Nat} (h : T k) : Grow T w w' k := .inl h
def To (F F' : Nat → Prop) (w w' : World) : Prop := Only F w w' ∧ (∀ k, F k → F' k) ∧ (∀ k, F' k → F k ∨ (w.heap.size ≤ k ∧ k < w'.heap.size))
section
variable {F F' F'' T T' : Nat → Prop} {w w1 w' : World}
theorem To.below (hb : Below w.heap.size w w') : To F F w w' := ⟨.of hb, fun _ h => h, fun _ h => .inl h⟩
theorem To.refl : To F F w w := .below (Below.refl _ _)
theorem To.trans (h : To F F' w w1) (k : To F' F'' w1 w') : To F F'' w w' := by
  refine ⟨h.1.trans k.1 (fun i hi => (h.2.2 i hi).imp id (·.1)), fun i hi => k.2.1 i (h.2.1 i hi), fun i hi => ?_⟩
  rcases k.2.2 i hi with e | e
  · rcases h.2.2 i e with e2 | e2
    · exact .inl e2
    · exact .inr ⟨e2.1, Nat.lt_of_lt_of_le e2.2 k.1.size⟩
  · exact .inr ⟨Nat.le_trans h.1.size e.1, e.2⟩
theorem To.grow (ho : Only F w w') : To F (Grow F w w') w w' := ⟨ho, fun _ h => .inl h, fun _ h => h⟩
theorem To.own (ho : Only F w w') : To F F w w' := ⟨ho, fun _ h => h, fun _ h => .inl h⟩
/-- A part of F was written. -/
theorem To.part (h : To T T' w w') (hT : ∀ k, T k → F k) : To F (fun k => F k ∨ T' k) w w' :=
  ⟨h.1.mono hT, fun _ e => .inl e, fun k e => e.elim .inl (fun e2 => (h.2.2 k e2).imp (hT k) id)⟩
theorem To.size (h : To F F' w w') : w.heap.size ≤ w'.heap.size := h.1.size
theorem To.keeps (h : To F F' w w') {k : Nat} (hk : k < w.heap.size) (hn : ¬ F k) : w'.heap[k]? = w.heap[k]? := h.1.block k hk hn
end
theorem Only.trans2 {F : Nat → Prop} {a b c : World} (h : Only F a b) (k : Only F b c) : Only F a c := h.trans k (fun _ e => .inl e)
/-- Texts that a call takes. -/
def Kb (l : List It) : Prop := ∀ i, i ∈ l → i.k.length ≤ 140737488351232
/-- Block R is the document's index with these items; its blocks are of F. -/
structure RX (R : Nat) (F : Nat → Prop) (L : List It) (w : World) : Prop where
  ex : ∃ v, w.cell? ⟨R, 0, none⟩ = some v ∧ w.frozen? ⟨R, 0, none⟩ = false ∧ Row4 36 0 L v w ∧ v.ownBlock ≠ some R ∧ ∀ g, v.ownBlock = some g → F g
  lt : R < w.heap.size
  f : F R
  fl : ∀ k, F k → k < w.heap.size
theorem RX.keep {R : Nat} {F : Nat → Prop} {L : List It} {w w' : World} (h : RX R F L w) (hs : w.heap.size ≤ w'.heap.size) (hk : ∀ k, F k → w'.heap[k]? = w.heap[k]?) : RX R F L w' := by
  obtain ⟨v, h1, h2, h3, h4, h5⟩ := h.ex
  have e := hk R h.f
  exact ⟨⟨v, by rw [World.cell?_of_block (a := ⟨R, 0, none⟩) e]; exact h1, by rw [World.frozen?_of_block (a := ⟨R, 0, none⟩) e]; exact h2, h3.kept (fun g hg => hk g (h5 g hg)), h4, h5⟩, Nat.lt_of_lt_of_le h.lt hs, h.f, fun k hk => Nat.lt_of_lt_of_le (h.fl k hk) hs⟩
theorem RX.later {R n : Nat} {F : Nat → Prop} {L : List It} {w w' : World} (h : RX R F L w) (hb : Below n w w') (hn : w.heap.size ≤ n) : RX R F L w' := h.keep hb.size (fun k hk => hb.block k (Nat.lt_of_lt_of_le (h.fl k hk) hn))
theorem isAt_at {l : List It} {k : List UInt8} {s : Int} (hp : pl l k s < l.length) : isAt l k s = (decide ((l[pl l k s]).k = k) && decide ((l[pl l k s]).s = s)) := by
  unfold isAt
  rw [List.getElem?_eq_getElem hp]
theorem isAt_end {l : List It} {k : List UInt8} {s : Int} (hp : pl l k s = l.length) : isAt l k s = false := by
  unfold isAt
  rw [List.getElem?_eq_none (by omega)]
/-- What find comes to. -/
def FindP (L : List It) (k : List UInt8) (s : Int) (w : World) (e : Ending) (w' : World) : Prop := e = .returned (.tuple #[.int .i64 (pl L k s : Nat), .bool (isAt L k s)]) ∧ Below w.heap.size w w'
set_option maxHeartbeats 8000000 in
set_option maxRecDepth 100000 in
theorem rfind_any {R : Nat} {F : Nat → Prop} {L : List It} {w : World} (h : RX R F L w) (hl : L.length ≤ 1000) (hkb : Kb L) (k : List UInt8) (s : Int) (hk : k.length ≤ 140737488351232) :
    Calls Try.prog 37 #[.pointer (some ⟨R, 0, none⟩), .string (S k), .int .i64 s] w fun e w' => FindP L k s w e w' := by
  have HR := hide h
  obtain ⟨v, hc, _, ho, _, _⟩ := h.ex
  have hit := ho.items
  have HA := hide hit
  have HKB := hide hkb
  have HLT := hide h.lt
  obtain ⟨ao, cap, rfl, _, _⟩ := hit.form
  obtain ⟨n, hn⟩ : ∃ n, n = L.length := ⟨_, rfl⟩
  rw [← hn] at hl hc
  have HN := hide hn
  have HC := hide (show ∀ u : World, Below w.heap.size w u → u.cell? ⟨R, 0, none⟩ = some (.slice ao n cap) from fun u hu => by rw [hu.cell (p := ⟨R, 0, none⟩) h.lt]; exact hc)
  clear h ho hit hn hc
  go_enter Try.func37, Try.ntmps37
  go_wp2_with fail
  go_loopw [8] (fun ii wr => ∃ i : Nat, ii = .int .i64 i ∧ i ≤ n ∧ Hid (Below w.heap.size w wr) ∧ Hid (∀ (j : Nat) (hj : j < L.length), j < i → aheadB L[j] k s = true)) (fun ii _ => (n - (intOf ii).toNat))
  case atStart => exact ⟨0, rfl, by omega, hide (Below.refl _ _), hide (fun j hj h0 => by omega)⟩
  case round =>
    rename World => wr
    obtain ⟨i, rfl, hi, HB, HF⟩ := hrel
    have q0 := HC.out wr HB.out
    have HBD := hide HB.out.drew
    rcases Nat.lt_or_ge i n with hlt | hge
    · have g1 : (i : Int) < (n : Int) := by omega
      have hil : i < L.length := by rw [← HN.out]; exact hlt
      obtain ⟨b0, off, cap', he, hbw, k0, k1, k2, k3⟩ := (HA.out.later HB.out (Nat.le_refl _)).at i hil
      obtain ⟨g, c', hgv, _, _⟩ : ∃ g c', (Value.slice ao L.length cap) = .slice (some ⟨g, 0, none⟩) L.length c' ∧ True ∧ True := by
        obtain ⟨v, _, _, ho, _, _⟩ := HR.out.ex
        simp only [Value.slice.injEq] at he
        obtain ⟨v2, hc2, _, ho2, _, _⟩ := HR.out.ex
        have e2 := HC.out w (Below.refl _ _)
        rw [hc2] at e2
        have e3 := Option.some.inj e2
        subst e3
        obtain ⟨g, c', e4, _⟩ := ho2.held (by omega)
        rw [HN.out] at e4
        exact ⟨g, c', e4, trivial, trivial⟩
      rw [hgv] at he
      simp only [Value.slice.injEq, true_and, Option.some.injEq, Addr.mk.injEq, and_true] at he hgv
      obtain ⟨rfl, rfl⟩ := hgv
      obtain ⟨⟨rfl, rfl⟩, rfl⟩ := he
      simp only [Nat.zero_add] at k0 k1 k2 k3
      have HIS := hide (show aheadB L[i] k s = false → pl L k s = i ∧ isAt L k s = (decide ((L[i]).k = k) && decide ((L[i]).s = s)) from fun h9 => by
        have e := pl_is (Nat.le_of_lt hil) HF.out (fun _ => h9)
        refine ⟨e, ?_⟩
        rw [isAt_at (by rw [e]; exact hil)]
        simp only [e])
      have CP := hide (show ∀ u : World, Below w.heap.size w u → u.cell? ⟨g, i * 4, none⟩ = some (.string (S (L[i]).k)) ∧ u.cell? ⟨g, i * 4 + 1, none⟩ = some (.int .i64 (L[i]).s) from fun u hu => by
        have h9 := (HA.out.later hu (Nat.le_refl _)).got i hil
        simp only [Nat.zero_add] at h9
        exact ⟨h9.2.1, h9.2.2.1⟩)
      have hkx := HKB.out _ (List.getElem_mem hil)
      cases ha : aheadB L[i] k s with
      | true =>
        have HF2 := hide (show ∀ (j : Nat) (hj : j < L.length), j < i + 1 → aheadB L[j] k s = true from fun j hj h9 => by
          rcases Nat.lt_or_ge j i with h8 | h8
          · exact HF.out j hj h8
          · obtain rfl : j = i := by omega
            exact ha)
        have C1 := hide (fun u => rahead_is ha u hkx hk)
        obtain ⟨x, hx⟩ : ∃ x, x = L[i] := ⟨_, rfl⟩
        rw [← hx] at k0 k1 k2 k3 C1
        clear ha hx hkx hbw CP HIS
        go_wp2_with fail
        refine (C1.out _).mono ?_
        rintro e w1 ⟨rfl, hb⟩
        have HB2 := hide (HB.out.trans (hb.mono HB.out.size))
        clear hb
        go_wp2_with fail
        go_roundw
        case rel => exact ⟨i + 1, by go_num, by omega, HB2, HF2⟩
        case measure => simp [intOf]; omega
      | false =>
        obtain ⟨hpl, hat⟩ := HIS.out ha
        have C1 := hide (fun u => rahead_is ha u hkx hk)
        have HPL := hide hpl
        have HAT := hide hat
        obtain ⟨x, hx⟩ : ∃ x, x = L[i] := ⟨_, rfl⟩
        rw [← hx] at k0 k1 k2 k3 C1 CP HAT
        have CE := hide (show ∀ u : World, Below w.heap.size w u → (u.cell? ⟨R, 0, none⟩ = some (.slice (some ⟨g, 0, none⟩) n cap) ∧ u.cell? ⟨g, i * 4, none⟩ = some (.string (S x.k)) ∧ u.cell? ⟨g, i * 4 + 1, none⟩ = some (.int .i64 x.s)) from fun u hu => ⟨HC.out u hu, (CP.out u hu).1, (CP.out u hu).2⟩)
        clear ha hx hkx hbw HIS hpl hat
        by_cases h1 : x.k = k
        · have f1 : (x.k == k) = true := by simpa using h1
          by_cases h2 : x.s = s
          · have f2 : (x.s == s) = true := by simpa using h2
            rw [decide_eq_true h1, decide_eq_true h2] at HAT
            clear h1 h2
            go_wp2_with fail
            refine (C1.out _).mono ?_
            rintro e w1 ⟨rfl, hb⟩
            have HB2 := hide (HB.out.trans (hb.mono HB.out.size)).drew
            clear hb
            go_wp2_with fail
            refine wp_region_held_drew (S := fun u => u.cell? ⟨R, 0, none⟩ = some (.slice (some ⟨g, 0, none⟩) n cap) ∧ u.cell? ⟨g, i * 4, none⟩ = some (.string (S x.k)) ∧ u.cell? ⟨g, i * 4 + 1, none⟩ = some (.int .i64 x.s)) (by kernel_rfl) (CE.out _ HB2.out) (fun hHeld => ?_)
            refine Man.t1 0 hHeld ?_
            (try simp only [Act.put, Mqa, Mqb, Mqc])
            refine Man.t1 1 hHeld ?_
            (try simp only [Act.put, Mqa, Mqb, Mqc])
            refine Man.t1 2 hHeld ?_
            (try simp only [Act.put, Mqa, Mqb, Mqc])
            refine Man.t1 3 hHeld ?_
            (try simp only [Act.put, Mqa, Mqb, Mqc])
            refine Man.t1 4 hHeld ?_
            (try simp only [Act.put, Mqa, Mqb, Mqc])
            refine Man.t1 5 hHeld ?_
            (try simp only [Act.put, Mqa, Mqb, Mqc])
            refine Man.t1 6 hHeld ?_
            (try simp only [Act.put, Mqa, Mqb, Mqc])
            refine Man.t1 7 hHeld ?_
            (try simp only [Act.put, Mqa, Mqb, Mqc])
            refine Man.t1 8 hHeld ?_
            (try simp only [Act.put, Mqa, Mqb, Mqc])
            refine Man.t1 9 hHeld ?_
            (try simp only [Act.put, Mqa, Mqb, Mqc])
            refine Man.t1 10 hHeld ?_
            (try simp only [Act.put, Mqa, Mqb, Mqc])
            refine Man.t1 11 hHeld ?_
            (try simp only [Act.put, Mqa, Mqb, Mqc])
            refine Man.t1 12 hHeld ?_
            (try simp only [Act.put, Mqa, Mqb, Mqc])
            refine Man.t1 13 hHeld ?_
            (try simp only [Act.put, Mqa, Mqb, Mqc])
            refine Man.t1 14 hHeld ?_
            (try simp only [Act.put, Mqa, Mqb, Mqc])
            refine Man.t1 15 hHeld ?_
            (try simp only [Act.put, Mqa, Mqb, Mqc])
            refine Man.t1 16 hHeld ?_
            (try simp only [Act.put, Mqa, Mqb, Mqc])
            refine Man.t1 17 hHeld ?_
            (try simp only [Act.put, Mqa, Mqb, Mqc])
            refine Man.t1 18 hHeld ?_
            (try simp only [Act.put, Mqa, Mqb, Mqc])
            refine Man.t1 19 hHeld ?_
            (try simp only [Act.put, Mqa, Mqb, Mqc])
            refine Man.t1 20 hHeld ?_
            (try simp only [Act.put, Mqa, Mqb, Mqc])
            refine Man.t1 21 hHeld ?_
            (try simp only [Act.put, Mqa, Mqb, Mqc])
            refine Man.t1 22 hHeld ?_
            (try simp only [Act.put, Mqa, Mqb, Mqc])
            refine Man.t1 23 hHeld ?_
            (try simp only [Act.put, Mqa, Mqb, Mqc])
            refine Man.t1 24 hHeld ?_
            (try simp only [Act.put, Mqa, Mqb, Mqc])
            refine Man.t1 25 hHeld ?_
            (try simp only [Act.put, Mqa, Mqb, Mqc])
            refine Man.t1 26 hHeld ?_
            (try simp only [Act.put, Mqa, Mqb, Mqc])
            refine Man.t1 27 hHeld ?_
            (try simp only [Act.put, Mqa, Mqb, Mqc])
            refine Man.t1 28 hHeld ?_
            (try simp only [Act.put, Mqa, Mqb, Mqc])
            refine Man.t1 29 hHeld ?_
            (try simp only [Act.put, Mqa, Mqb, Mqc])
            refine Man.t1 30 hHeld ?_
            (try simp only [Act.put, Mqa, Mqb, Mqc])
            refine Man.t1 31 hHeld ?_
            (try simp only [Act.put, Mqa, Mqb, Mqc])
            refine Man.t1 32 hHeld ?_
            (try simp only [Act.put, Mqa, Mqb, Mqc])
            refine Man.t1 33 hHeld ?_
            (try simp only [Act.put, Mqa, Mqb, Mqc])
            refine wpAnyH_done (by kernel_rfl) ?_ _
            go_wp2_with fail
            go_ret2
            exact ⟨by rw [HPL.out, HAT.out]; rfl, HB2.out⟩
          · have f2 : (x.s == s) = false := by simpa using h2
            rw [decide_eq_true h1, decide_eq_false h2] at HAT
            clear h1 h2
            go_wp2_with fail
            refine (C1.out _).mono ?_
            rintro e w1 ⟨rfl, hb⟩
            have HB2 := hide (HB.out.trans (hb.mono HB.out.size)).drew
            clear hb
            go_wp2_with fail
            refine wp_region_held_drew (S := fun u => u.cell? ⟨R, 0, none⟩ = some (.slice (some ⟨g, 0, none⟩) n cap) ∧ u.cell? ⟨g, i * 4, none⟩ = some (.string (S x.k)) ∧ u.cell? ⟨g, i * 4 + 1, none⟩ = some (.int .i64 x.s)) (by kernel_rfl) (CE.out _ HB2.out) (fun hHeld => ?_)
            refine Man.t1 0 hHeld ?_
            (try simp only [Act.put, Mqa, Mqb, Mqc])
            refine Man.t1 1 hHeld ?_
            (try simp only [Act.put, Mqa, Mqb, Mqc])
            refine Man.t1 2 hHeld ?_
            (try simp only [Act.put, Mqa, Mqb, Mqc])
            refine Man.t1 3 hHeld ?_
            (try simp only [Act.put, Mqa, Mqb, Mqc])
            refine Man.t1 4 hHeld ?_
            (try simp only [Act.put, Mqa, Mqb, Mqc])
            refine Man.t1 5 hHeld ?_
            (try simp only [Act.put, Mqa, Mqb, Mqc])
            refine Man.t1 6 hHeld ?_
            (try simp only [Act.put, Mqa, Mqb, Mqc])
            refine Man.t1 7 hHeld ?_
            (try simp only [Act.put, Mqa, Mqb, Mqc])
            refine Man.t1 8 hHeld ?_
            (try simp only [Act.put, Mqa, Mqb, Mqc])
            refine Man.t1 9 hHeld ?_
            (try simp only [Act.put, Mqa, Mqb, Mqc])
            refine Man.t1 10 hHeld ?_
            (try simp only [Act.put, Mqa, Mqb, Mqc])
            refine Man.t1 11 hHeld ?_
            (try simp only [Act.put, Mqa, Mqb, Mqc])
            refine Man.t1 12 hHeld ?_
            (try simp only [Act.put, Mqa, Mqb, Mqc])
            refine Man.t1 13 hHeld ?_
            (try simp only [Act.put, Mqa, Mqb, Mqc])
            refine Man.t1 14 hHeld ?_
            (try simp only [Act.put, Mqa, Mqb, Mqc])
            refine Man.t1 15 hHeld ?_
            (try simp only [Act.put, Mqa, Mqb, Mqc])
            refine Man.t1 16 hHeld ?_
            (try simp only [Act.put, Mqa, Mqb, Mqc])
            refine Man.t1 17 hHeld ?_
            (try simp only [Act.put, Mqa, Mqb, Mqc])
            refine Man.t1 18 hHeld ?_
            (try simp only [Act.put, Mqa, Mqb, Mqc])
            refine Man.t1 19 hHeld ?_
            (try simp only [Act.put, Mqa, Mqb, Mqc])
            refine Man.t1 20 hHeld ?_
            (try simp only [Act.put, Mqa, Mqb, Mqc])
            refine Man.t1 21 hHeld ?_
            (try simp only [Act.put, Mqa, Mqb, Mqc])
            refine Man.t1 22 hHeld ?_
            (try simp only [Act.put, Mqa, Mqb, Mqc])
            refine Man.t1 23 hHeld ?_
            (try simp only [Act.put, Mqa, Mqb, Mqc])
            refine Man.t1 24 hHeld ?_
            (try simp only [Act.put, Mqa, Mqb, Mqc])
            refine Man.t1 25 hHeld ?_
            (try simp only [Act.put, Mqa, Mqb, Mqc])
            refine Man.t1 26 hHeld ?_
            (try simp only [Act.put, Mqa, Mqb, Mqc])
            refine Man.t1 27 hHeld ?_
            (try simp only [Act.put, Mqa, Mqb, Mqc])
            refine Man.t1 28 hHeld ?_
            (try simp only [Act.put, Mqa, Mqb, Mqc])
            refine Man.t1 29 hHeld ?_
            (try simp only [Act.put, Mqa, Mqb, Mqc])
            refine Man.t1 30 hHeld ?_
            (try simp only [Act.put, Mqa, Mqb, Mqc])
            refine Man.t1 31 hHeld ?_
            (try simp only [Act.put, Mqa, Mqb, Mqc])
            refine Man.t1 32 hHeld ?_
            (try simp only [Act.put, Mqa, Mqb, Mqc])
            refine Man.t1 33 hHeld ?_
            (try simp only [Act.put, Mqa, Mqb, Mqc])
            refine wpAnyH_done (by kernel_rfl) ?_ _
            go_wp2_with fail
            go_ret2
            exact ⟨by rw [HPL.out, HAT.out]; rfl, HB2.out⟩
        · have f1 : (x.k == k) = false := by simpa using h1
          rw [decide_eq_false h1] at HAT
          clear h1
          go_wp2_with fail
          refine (C1.out _).mono ?_
          rintro e w1 ⟨rfl, hb⟩
          have HB2 := hide (HB.out.trans (hb.mono HB.out.size)).drew
          clear hb
          go_wp2_with fail
          refine wp_region_held_drew (S := fun u => u.cell? ⟨R, 0, none⟩ = some (.slice (some ⟨g, 0, none⟩) n cap) ∧ u.cell? ⟨g, i * 4, none⟩ = some (.string (S x.k)) ∧ u.cell? ⟨g, i * 4 + 1, none⟩ = some (.int .i64 x.s)) (by kernel_rfl) (CE.out _ HB2.out) (fun hHeld => ?_)
          refine Man.t1 0 hHeld ?_
          (try simp only [Act.put, Mqa, Mqb, Mqc])
          refine Man.t1 1 hHeld ?_
          (try simp only [Act.put, Mqa, Mqb, Mqc])
          refine Man.t1 2 hHeld ?_
          (try simp only [Act.put, Mqa, Mqb, Mqc])
          refine Man.t1 3 hHeld ?_
          (try simp only [Act.put, Mqa, Mqb, Mqc])
          refine Man.t1 4 hHeld ?_
          (try simp only [Act.put, Mqa, Mqb, Mqc])
          refine Man.t1 5 hHeld ?_
          (try simp only [Act.put, Mqa, Mqb, Mqc])
          refine Man.t1 6 hHeld ?_
          (try simp only [Act.put, Mqa, Mqb, Mqc])
          refine Man.t1 7 hHeld ?_
          (try simp only [Act.put, Mqa, Mqb, Mqc])
          refine Man.t1 8 hHeld ?_
          (try simp only [Act.put, Mqa, Mqb, Mqc])
          refine Man.t1 9 hHeld ?_
          (try simp only [Act.put, Mqa, Mqb, Mqc])
          refine Man.t1 10 hHeld ?_
          (try simp only [Act.put, Mqa, Mqb, Mqc])
          refine Man.t1 11 hHeld ?_
          (try simp only [Act.put, Mqa, Mqb, Mqc])
          refine Man.t1 12 hHeld ?_
          (try simp only [Act.put, Mqa, Mqb, Mqc])
          refine Man.t1 13 hHeld ?_
          (try simp only [Act.put, Mqa, Mqb, Mqc])
          refine Man.t1 14 hHeld ?_
          (try simp only [Act.put, Mqa, Mqb, Mqc])
          refine Man.t1 15 hHeld ?_
          (try simp only [Act.put, Mqa, Mqb, Mqc])
          refine Man.t1 16 hHeld ?_
          (try simp only [Act.put, Mqa, Mqb, Mqc])
          refine Man.t1 17 hHeld ?_
          (try simp only [Act.put, Mqa, Mqb, Mqc])
          refine Man.t1 18 hHeld ?_
          (try simp only [Act.put, Mqa, Mqb, Mqc])
          refine Man.t1 19 hHeld ?_
          (try simp only [Act.put, Mqa, Mqb, Mqc])
          refine Man.t1 20 hHeld ?_
          (try simp only [Act.put, Mqa, Mqb, Mqc])
          refine Man.take0 (i := 21) rfl (by kernel_rfl) (by kernel_rfl) (by kernel_rfl) (fun _ _ _ h => h) (by rfl) hHeld ?_
          (try simp only [Act.put, Mqa, Mqb, Mqc])
          refine Man.take0 (i := 22) rfl (by kernel_rfl) (by kernel_rfl) (by kernel_rfl) (fun _ _ _ h => h) (by rfl) hHeld ?_
          (try simp only [Act.put, Mqa, Mqb, Mqc])
          refine Man.take0 (i := 23) rfl (by kernel_rfl) (by kernel_rfl) (by kernel_rfl) (fun _ _ _ h => h) (by rfl) hHeld ?_
          (try simp only [Act.put, Mqa, Mqb, Mqc])
          refine Man.take0 (i := 24) rfl (by kernel_rfl) (by kernel_rfl) (by kernel_rfl) (fun _ _ _ h => h) (by rfl) hHeld ?_
          (try simp only [Act.put, Mqa, Mqb, Mqc])
          refine Man.take0 (i := 25) rfl (by kernel_rfl) (by kernel_rfl) (by kernel_rfl) (fun _ _ _ h => h) (by rfl) hHeld ?_
          (try simp only [Act.put, Mqa, Mqb, Mqc])
          refine Man.take0 (i := 26) rfl (by kernel_rfl) (by kernel_rfl) (by kernel_rfl) (fun _ _ _ h => h) (by rfl) hHeld ?_
          (try simp only [Act.put, Mqa, Mqb, Mqc])
          refine Man.take0 (i := 27) rfl (by kernel_rfl) (by kernel_rfl) (by kernel_rfl) (fun _ _ _ h => h) (by rfl) hHeld ?_
          (try simp only [Act.put, Mqa, Mqb, Mqc])
          refine Man.take0 (i := 28) rfl (by kernel_rfl) (by kernel_rfl) (by kernel_rfl) (fun _ _ _ h => h) (by rfl) hHeld ?_
          (try simp only [Act.put, Mqa, Mqb, Mqc])
          refine Man.take0 (i := 29) rfl (by kernel_rfl) (by kernel_rfl) (by kernel_rfl) (fun _ _ _ h => h) (by rfl) hHeld ?_
          (try simp only [Act.put, Mqa, Mqb, Mqc])
          refine Man.take0 (i := 30) rfl (by kernel_rfl) (by kernel_rfl) (by kernel_rfl) (fun _ _ _ h => h) (by rfl) hHeld ?_
          (try simp only [Act.put, Mqa, Mqb, Mqc])
          refine Man.t1 31 hHeld ?_
          (try simp only [Act.put, Mqa, Mqb, Mqc])
          refine Man.t1 32 hHeld ?_
          (try simp only [Act.put, Mqa, Mqb, Mqc])
          refine Man.t1 33 hHeld ?_
          (try simp only [Act.put, Mqa, Mqb, Mqc])
          refine wpAnyH_done (by kernel_rfl) ?_ _
          go_wp2_with fail
          go_ret2
          exact ⟨by rw [HPL.out, HAT.out]; rfl, HB2.out⟩
    · obtain rfl : i = n := by omega
      have g1 : ¬ (i : Int) < (i : Int) := by omega
      have e : pl L k s = i := pl_is (by rw [HN.out]; exact Nat.le_refl _) HF.out (fun h9 => absurd h9 (by rw [HN.out]; omega))
      have HE := hide (show isAt L k s = false from isAt_end (by rw [e, HN.out]))
      have HPL := hide e
      clear e
      go_wp2_with fail
      refine wp_region_held_drew (S := fun u => u.cell? ⟨R, 0, none⟩ = some (.slice ao i cap)) (by kernel_rfl) (HC.out _ HBD.out) (fun hHeld => ?_)
      refine Man.t1 0 hHeld ?_
      (try simp only [Act.put, Mqa, Mqb, Mqc])
      refine Man.t1 1 hHeld ?_
      (try simp only [Act.put, Mqa, Mqb, Mqc])
      refine Man.t1 2 hHeld ?_
      (try simp only [Act.put, Mqa, Mqb, Mqc])
      refine Man.t1 3 hHeld ?_
      (try simp only [Act.put, Mqa, Mqb, Mqc])
      refine Man.t1 4 hHeld ?_
      (try simp only [Act.put, Mqa, Mqb, Mqc])
      refine Man.t1 5 hHeld ?_
      (try simp only [Act.put, Mqa, Mqb, Mqc])
      refine Man.t1 6 hHeld ?_
      (try simp only [Act.put, Mqa, Mqb, Mqc])
      refine Man.t1 7 hHeld ?_
      (try simp only [Act.put, Mqa, Mqb, Mqc])
      refine Man.t1 8 hHeld ?_
      (try simp only [Act.put, Mqa, Mqb, Mqc])
      refine Man.take0 (i := 9) rfl (by kernel_rfl) (by kernel_rfl) (by kernel_rfl) (fun _ _ _ h => h) (by rfl) hHeld ?_
      (try simp only [Act.put, Mqa, Mqb, Mqc])
      refine Man.take0 (i := 10) rfl (by kernel_rfl) (by kernel_rfl) (by kernel_rfl) (fun _ _ _ h => h) (by rfl) hHeld ?_
      (try simp only [Act.put, Mqa, Mqb, Mqc])
      refine Man.take0 (i := 11) rfl (by kernel_rfl) (by kernel_rfl) (by kernel_rfl) (fun _ _ _ h => h) (by rfl) hHeld ?_
      (try simp only [Act.put, Mqa, Mqb, Mqc])
      refine Man.take0 (i := 12) rfl (by kernel_rfl) (by kernel_rfl) (by kernel_rfl) (fun _ _ _ h => h) (by rfl) hHeld ?_
      (try simp only [Act.put, Mqa, Mqb, Mqc])
      refine Man.take0 (i := 13) rfl (by kernel_rfl) (by kernel_rfl) (by kernel_rfl) (fun _ _ _ h => h) (by rfl) hHeld ?_
      (try simp only [Act.put, Mqa, Mqb, Mqc])
      refine Man.take0 (i := 14) rfl (by kernel_rfl) (by kernel_rfl) (by kernel_rfl) (fun _ _ _ h => h) (by rfl) hHeld ?_
      (try simp only [Act.put, Mqa, Mqb, Mqc])
      refine Man.take0 (i := 15) rfl (by kernel_rfl) (by kernel_rfl) (by kernel_rfl) (fun _ _ _ h => h) (by rfl) hHeld ?_
      (try simp only [Act.put, Mqa, Mqb, Mqc])
      refine Man.take0 (i := 16) rfl (by kernel_rfl) (by kernel_rfl) (by kernel_rfl) (fun _ _ _ h => h) (by rfl) hHeld ?_
      (try simp only [Act.put, Mqa, Mqb, Mqc])
      refine Man.take0 (i := 17) rfl (by kernel_rfl) (by kernel_rfl) (by kernel_rfl) (fun _ _ _ h => h) (by rfl) hHeld ?_
      (try simp only [Act.put, Mqa, Mqb, Mqc])
      refine Man.take0 (i := 18) rfl (by kernel_rfl) (by kernel_rfl) (by kernel_rfl) (fun _ _ _ h => h) (by rfl) hHeld ?_
      (try simp only [Act.put, Mqa, Mqb, Mqc])
      refine Man.t1 19 hHeld ?_
      (try simp only [Act.put, Mqa, Mqb, Mqc])
      refine Man.t1 20 hHeld ?_
      (try simp only [Act.put, Mqa, Mqb, Mqc])
      refine Man.take0 (i := 21) rfl (by kernel_rfl) (by kernel_rfl) (by kernel_rfl) (fun _ _ _ h => h) (by rfl) hHeld ?_
      (try simp only [Act.put, Mqa, Mqb, Mqc])
      refine Man.take0 (i := 22) rfl (by kernel_rfl) (by kernel_rfl) (by kernel_rfl) (fun _ _ _ h => h) (by rfl) hHeld ?_
      (try simp only [Act.put, Mqa, Mqb, Mqc])
      refine Man.take0 (i := 23) rfl (by kernel_rfl) (by kernel_rfl) (by kernel_rfl) (fun _ _ _ h => h) (by rfl) hHeld ?_
      (try simp only [Act.put, Mqa, Mqb, Mqc])
      refine Man.take0 (i := 24) rfl (by kernel_rfl) (by kernel_rfl) (by kernel_rfl) (fun _ _ _ h => h) (by rfl) hHeld ?_
      (try simp only [Act.put, Mqa, Mqb, Mqc])
      refine Man.take0 (i := 25) rfl (by kernel_rfl) (by kernel_rfl) (by kernel_rfl) (fun _ _ _ h => h) (by rfl) hHeld ?_
      (try simp only [Act.put, Mqa, Mqb, Mqc])
      refine Man.take0 (i := 26) rfl (by kernel_rfl) (by kernel_rfl) (by kernel_rfl) (fun _ _ _ h => h) (by rfl) hHeld ?_
      (try simp only [Act.put, Mqa, Mqb, Mqc])
      refine Man.take0 (i := 27) rfl (by kernel_rfl) (by kernel_rfl) (by kernel_rfl) (fun _ _ _ h => h) (by rfl) hHeld ?_
      (try simp only [Act.put, Mqa, Mqb, Mqc])
      refine Man.take0 (i := 28) rfl (by kernel_rfl) (by kernel_rfl) (by kernel_rfl) (fun _ _ _ h => h) (by rfl) hHeld ?_
      (try simp only [Act.put, Mqa, Mqb, Mqc])
      refine Man.take0 (i := 29) rfl (by kernel_rfl) (by kernel_rfl) (by kernel_rfl) (fun _ _ _ h => h) (by rfl) hHeld ?_
      (try simp only [Act.put, Mqa, Mqb, Mqc])
      refine Man.take0 (i := 30) rfl (by kernel_rfl) (by kernel_rfl) (by kernel_rfl) (fun _ _ _ h => h) (by rfl) hHeld ?_
      (try simp only [Act.put, Mqa, Mqb, Mqc])
      refine Man.t1 31 hHeld ?_
      (try simp only [Act.put, Mqa, Mqb, Mqc])
      refine Man.t1 32 hHeld ?_
      (try simp only [Act.put, Mqa, Mqb, Mqc])
      refine Man.t1 33 hHeld ?_
      (try simp only [Act.put, Mqa, Mqb, Mqc])
      refine wpAnyH_done (by kernel_rfl) ?_ _
      go_wp2_with fail
      go_ret2
      exact ⟨by rw [HPL.out, HE.out]; rfl, HBD.out⟩
end Idx
end Go.Proofs.Ytapdhelioecneaa
