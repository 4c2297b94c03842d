/- span.Cut, span.Covers. Condition: no more than 1000 intervals. -/
import Derived.Test.YtoacombaddknfaaIg
namespace Go.Proofs.Ytoacombaddknfaa
open Go.RowKit
namespace Spn
theorem meet_y {a b c d : Int} (h : Meets (a, b) (c, d)) (w : World) :
    Calls Try.prog 59 #[.agg #[.int .i64 a, .int .i64 b], .agg #[.int .i64 c, .int .i64 d]] w fun e w' => e = .returned (.tuple #[.agg #[.int .i64 (mid (a, b) (c, d)).1, .int .i64 (mid (a, b) (c, d)).2], .bool true]) ∧ Below w.heap.size w w' := by
  have := meet_any a b c d w
  rw [meet_yes h] at this
  exact this
theorem meet_n {a b c d : Int} (h : ¬ Meets (a, b) (c, d)) (w : World) :
    Calls Try.prog 59 #[.agg #[.int .i64 a, .int .i64 b], .agg #[.int .i64 c, .int .i64 d]] w fun e w' => e = .returned (.tuple #[.agg #[.int .i64 0, .int .i64 0], .bool false]) ∧ Below w.heap.size w w' := by
  have := meet_any a b c d w
  rw [meet_no h] at this
  exact this
theorem two_at' (w : World) (a b c d : Int) {k : Nat} (hk : k = w.heap.size) : SpansAt [(a, b), (c, d)] (.slice (some ⟨k, 0, none⟩) 2 2) (w.alloc (.cells #[.int .i64 a, .int .i64 b, .int .i64 c, .int .i64 d] 24)) := by
  subst hk; exact two_at w (a, b) (c, d)
theorem one_at' (w : World) (a b : Int) {k : Nat} (hk : k = w.heap.size) : SpansAt [(a, b)] (.slice (some ⟨k, 0, none⟩) 1 1) (w.alloc (.cells #[.int .i64 a, .int .i64 b] 24)) := by
  subst hk; exact one_at w (a, b)
theorem box2 {w w1 : World} {a b c d : Int} {T U : TypeId} (hb : Below ((w.alloc (.cells #[.int .i64 a, .int .i64 b] T)).alloc (.cells #[.int .i64 c, .int .i64 d] U)).heap.size ((w.alloc (.cells #[.int .i64 a, .int .i64 b] T)).alloc (.cells #[.int .i64 c, .int .i64 d] U)) w1) :
    At (a, b) w.heap.size w1 ∧ At (c, d) (w.heap.size + 1) w1 ∧ Below w.heap.size w w1 := by
  have h1 := At.new w a b T
  have h2 := At.new' (w.alloc (.cells #[.int .i64 a, .int .i64 b] T)) c d U (k := w.heap.size + 1) (by simp)
  have b1 := below_alloc w (.cells #[.int .i64 a, .int .i64 b] T)
  have b2 := below_alloc (w.alloc (.cells #[.int .i64 a, .int .i64 b] T)) (.cells #[.int .i64 c, .int .i64 d] U)
  exact ⟨(h1.later b2 h1.lt).later hb (by simp; omega), h2.later hb h2.lt, (b1.trans (b2.mono (by simp))).trans (hb.mono (by simp; omega))⟩
set_option maxHeartbeats 4000000 in
set_option maxRecDepth 100000 in
theorem cut_any (a b c d : Int) (w : World) :
    Calls Try.prog 44 #[.agg #[.int .i64 a, .int .i64 b], .agg #[.int .i64 c, .int .i64 d]] w fun e w' => ∃ v : Value, e = .returned v ∧ Row w.heap.size (cut (a, b) (c, d)) v w' ∧ Below w.heap.size w w' := by
  by_cases h : Meets (a, b) (c, d)
  · have C1 := fun w => meet_y h w
    have HC := hide (show cut (a, b) (c, d) = norm [(a, (mid (a, b) (c, d)).1), ((mid (a, b) (c, d)).2, b)] from if_pos h)
    obtain ⟨p, hp⟩ : ∃ p, p = (mid (a, b) (c, d)).1 := ⟨_, rfl⟩
    obtain ⟨q, hq⟩ : ∃ q, q = (mid (a, b) (c, d)).2 := ⟨_, rfl⟩
    rw [← hp, ← hq] at HC C1
    clear hp hq
    go_enter Try.func44, Try.ntmps44
    go_wp2_with fail
    refine (C1 _).mono ?_
    rintro e w1 ⟨rfl, hb⟩
    obtain ⟨⟨x0, x1, _, _, xl⟩, ⟨y0, y1, _, _, _⟩, hb1⟩ := box2 hb
    clear hb
    have CN := hide (norm_any (two_at' (w1.alloc (.cells #[.int .i64 p, .int .i64 q] 24)) a p q b (k := w1.heap.size + 1) (by simp)) (by simp))
    go_wp2_with fail
    refine CN.out.mono ?_
    rintro e w3 ⟨v, rfl, hr, hb3⟩
    have HF := hide (show Row w.heap.size (cut (a, b) (c, d)) v w3 ∧ Below w.heap.size w w3 from by
      rw [HC.out]
      have hs := hb1.size
      have b1 := below_alloc w1 (.cells #[.int .i64 p, .int .i64 q] 24)
      have b2 := below_alloc (w1.alloc (.cells #[.int .i64 p, .int .i64 q] 24)) (.cells #[.int .i64 a, .int .i64 p, .int .i64 q, .int .i64 b] 24)
      exact ⟨hr.mono (by simp; omega), ((hb1.trans (b1.mono hs)).trans (b2.mono (by simp; omega))).trans (hb3.mono (by simp; omega))⟩)
    clear hr hb3
    go_wp2_with fail
    go_ret
    exact ⟨v, rfl, HF.out⟩
  · have C1 := fun w => meet_n h w
    have HC := hide (show cut (a, b) (c, d) = norm [(a, b)] from if_neg h)
    go_enter Try.func44, Try.ntmps44
    go_wp2_with fail
    refine (C1 _).mono ?_
    rintro e w1 ⟨rfl, hb⟩
    obtain ⟨⟨x0, x1, _, _, xl⟩, ⟨y0, y1, _, _, _⟩, hb1⟩ := box2 hb
    clear hb
    have CN := hide (norm_any (one_at' (w1.alloc (.cells #[.int .i64 0, .int .i64 0] 24)) a b (k := w1.heap.size + 1) (by simp)) (by simp))
    go_wp2_with fail
    refine CN.out.mono ?_
    rintro e w3 ⟨v, rfl, hr, hb3⟩
    have HF := hide (show Row w.heap.size (cut (a, b) (c, d)) v w3 ∧ Below w.heap.size w w3 from by
      rw [HC.out]
      have hs := hb1.size
      have b1 := below_alloc w1 (.cells #[.int .i64 0, .int .i64 0] 24)
      have b2 := below_alloc (w1.alloc (.cells #[.int .i64 0, .int .i64 0] 24)) (.cells #[.int .i64 a, .int .i64 b] 24)
      exact ⟨hr.mono (by simp; omega), ((hb1.trans (b1.mono hs)).trans (b2.mono (by simp; omega))).trans (hb3.mono (by simp; omega))⟩)
    clear hr hb3
    go_wp2_with fail
    go_ret
    exact ⟨v, rfl, HF.out⟩
/-- Is there one that has all of s? (Yes, of one that is not right.) -/
def covB (l : List Sp) (s : Sp) : Bool := !decide (Right s) || (norm l).any fun q => decide (q.1 ≤ s.1) && decide (s.2 ≤ q.2)
theorem covB_iff (l : List Sp) (s : Sp) : covB l s = true ↔ ∀ t, Has s t → HasL l t := by
  have h := cov_iff (norm_ok l).1 s
  simp only [(norm_ok l).2] at h
  rw [← h]
  unfold covB
  simp only [Bool.or_eq_true, Bool.not_eq_true', decide_eq_false_iff_not, List.any_eq_true, Bool.and_eq_true, decide_eq_true_eq]
  constructor
  · rintro (h1 | ⟨q, h1, h2, h3⟩)
    · exact fun h2 => absurd h2 h1
    · exact fun _ => ⟨q, h1, h2, h3⟩
  · intro h1
    by_cases hs : Right s
    · obtain ⟨q, h2, h3, h4⟩ := h1 hs
      exact .inr ⟨q, h2, h3, h4⟩
    · exact .inl hs
theorem covB_no {l : List Sp} {s : Sp} (h : ¬ Right s) : covB l s = true := by simp [covB, h]
theorem covB_yes {l : List Sp} {s : Sp} (i : Nat) (hi : i < (norm l).length) (h1 : ((norm l)[i]).1 ≤ s.1) (h2 : s.2 ≤ ((norm l)[i]).2) : covB l s = true := by
  unfold covB
  simp only [Bool.or_eq_true, List.any_eq_true, Bool.and_eq_true, decide_eq_true_eq]
  exact .inr ⟨_, List.getElem_mem hi, h1, h2⟩
theorem covB_else {l : List Sp} {s : Sp} (hs : Right s) (h : ∀ (j : Nat) (hj : j < (norm l).length), ¬ (((norm l)[j]).1 ≤ s.1 ∧ s.2 ≤ ((norm l)[j]).2)) : covB l s = false := by
  cases hc : covB l s with
  | false => rfl
  | true =>
    exfalso
    unfold covB at hc
    simp only [Bool.or_eq_true, Bool.not_eq_true', decide_eq_false_iff_not, List.any_eq_true, Bool.and_eq_true, decide_eq_true_eq] at hc
    rcases hc with h1 | ⟨q, h1, h2, h3⟩
    · exact h1 hs
    · obtain ⟨j, hj, rfl⟩ := List.getElem_of_mem h1
      exact h j hj ⟨h2, h3⟩
theorem norm_len (l : List Sp) : (norm l).length ≤ l.length := by
  rw [← puts_norm l ((rights l).mergeSort fun a b => decide (a.1 ≤ b.1)) (fun s => by rw [(List.mergeSort_perm _ _).mem_iff]; simp [rights]) (by
    have := List.pairwise_mergeSort (le := fun (a b : Sp) => decide (a.1 ≤ b.1)) (fun a b c h1 h2 => by simp at *; omega) (fun a b => by simp; omega) (rights l)
    simpa using this)]
  have h1 := puts_len ((rights l).mergeSort fun a b => decide (a.1 ≤ b.1))
  rw [(List.mergeSort_perm _ _).length_eq] at h1
  have := rights_len l
  omega
end Spn
end Go.Proofs.Ytoacombaddknfaa
