/- The document's Pad and Ints; Copy of what is no disk. Conditions: as each says. -/
import Derived.Test.YtkbadjlehmaneaaDk
namespace Go.Proofs.Ytkbadjlehmaneaa
open Go.RowKit
namespace Dsk
set_option maxHeartbeats 1000000 in
theorem copy_none (p : Option Addr) (w : World) (h : NotGiven p w) : Calls Try.prog 21 #[.pointer p] w fun e w' => e = .returned (.pointer none) ∧ Below w.heap.size w w' := by
  have G := hidm (given_no p w h)
  go_enter Try.func21, Try.ntmps21
  go_wp2_with fail
  refine G.out.mono ?_
  rintro e w1 ⟨rfl, rfl⟩
  go_wp2_with fail
  go_ret
  exact ⟨rfl, Below.refl _ _⟩
theorem pad_self {s : List UInt8} (h : 128 ≤ s.length) : pad s = s := by
  unfold pad
  rw [show 128 - s.length = 0 by omega]
  simp
theorem pad_more {s : List UInt8} (h : s.length < 128) : pad (s ++ [0]) = pad s := by
  unfold pad
  rw [List.length_append, List.append_assoc]
  congr 1
  rw [show 128 - s.length = (128 - (s.length + [(0 : UInt8)].length)) + 1 by simp; omega, List.replicate_succ]
  rfl
set_option maxHeartbeats 1000000 in
theorem rpad_any (s : ByteArray) (hs : s.size ≤ 1000000000000) (w : World) :
    Calls Try.prog 27 #[.string s] w fun e w' => e = .returned (.string (S (pad s.data.toList))) ∧ Below w.heap.size w w' := by
  go_enter Try.func27, Try.ntmps27
  go_wp2_with fail
  go_loopw [0] (fun ss wr => ∃ t : ByteArray, ss = .string t ∧ t.size ≤ 1000000000000 ∧ Hid (pad t.data.toList = pad s.data.toList) ∧ Hid (Below w.heap.size w wr)) (fun ss _ => match ss with | .string t => 128 - t.size | _ => 0)
  case atStart => exact ⟨s, rfl, hs, hidm rfl, hidm (Below.refl _ _)⟩
  case round =>
    obtain ⟨t, rfl, ht, HP, HB⟩ := hrel
    rcases Nat.lt_or_ge t.size 128 with hlt | hge
    · have f1 : (t.size : Int) < 128 := by omega
      have hsz : (t ++ (⟨#[0]⟩ : ByteArray)).size = t.size + 1 := by rw [ByteArray.size_append]; rfl
      have HPN := hidm (show pad (t ++ (⟨#[0]⟩ : ByteArray)).data.toList = pad s.data.toList from by
        rw [← HP.out, ← pad_more (show t.data.toList.length < 128 by rw [len_eq]; exact hlt)]
        congr 1)
      go_wp2_with fail
      go_roundw
      case rel => exact ⟨t ++ (⟨#[0]⟩ : ByteArray), rfl, by omega, HPN, HB⟩
      case measure =>
        show 128 - (t ++ (⟨#[0]⟩ : ByteArray)).size < 128 - t.size
        rw [hsz]; omega
    · have f1 : ¬ (t.size : Int) < 128 := by omega
      have HT := hidm (show t = S (pad s.data.toList) from by
        rw [← HP.out, pad_self (by rw [len_eq]; exact hge), S_of])
      go_wp2_with fail
      go_ret
      exact ⟨by rw [← HT.out]; rfl, HB.out⟩
theorem ints_new (w : World) (l : List Nat) (hl : l.length ≤ 1000000) : IntsAt w.heap.size l (.slice (some ⟨w.heap.size, 0, none⟩) l.length l.length) (w.alloc (.cells (ints l).toArray 3)) := by
  have hn : (ints l).length = l.length := by simp [ints]
  refine ⟨by rw [hn]; omega, .inr ⟨w.heap.size, l.length, (ints l).toArray, rfl, Nat.le_refl _, heap_alloc_last w _, Nat.le_refl _, by unfold maxLen; omega, by simp [hn], ?_⟩⟩
  rw [Nat.mul_one, List.take_of_length_le (by simp [hn])]
set_option maxHeartbeats 4000000 in
set_option maxRecDepth 100000 in
theorem rints_any (b1 b2 : Nat) (l1 l2 : List Nat) (v1 v2 : Value) (w : World) (h1 : IntsAt b1 l1 v1 w) (h2 : IntsAt b2 l2 v2 w) :
    Calls Try.prog 23 #[v1, v2] w fun e w' => e = .returned (.bool (l1 == l2)) ∧ Below w.heap.size w w' := by
  obtain ⟨ao, ac, rfl, hac, ham⟩ := h1.form
  obtain ⟨bo, bc, rfl, hbc, hbm⟩ := h2.form
  by_cases hl : l1.length = l2.length
  · obtain ⟨n, hn⟩ : ∃ n, n = l1.length := ⟨_, rfl⟩
    have hn2 : n = l2.length := hn.trans hl
    have H1 := hidm h1
    have H2 := hidm h2
    have HN1 := hidm hn
    have HN2 := hidm hn2
    rw [← hn, ← hn2]
    have hnb : n ≤ 9223372036854775807 := by omega
    clear h1 h2 hn hn2 hl hac ham hbc hbm
    go_enter Try.func23, Try.ntmps23
    go_wp2_with fail
    go_loopw [5] (fun ii wr => ∃ i : Nat, ii = .int .i64 i ∧ i ≤ n ∧ Hid (l1.take i = l2.take i) ∧ Hid (Below w.heap.size w wr)) (fun ii _ => (n - (intOf ii).toNat))
    case atStart => exact ⟨0, rfl, by omega, hidm rfl, hidm (Below.refl _ _)⟩
    case round =>
      obtain ⟨i, rfl, hi, HT, HB⟩ := hrel
      rcases Nat.lt_or_ge i n with hlt | hge
      · have f1 : (i : Int) < n := by omega
        have i1 : i < l1.length := by have := HN1.out; omega
        have i2 : i < l2.length := by have := HN2.out; omega
        obtain ⟨g1, c1, e1, _, q1⟩ := (H1.out.later HB.out).at i i1
        obtain ⟨g2, c2, e2, _, q2⟩ := (H2.out.later HB.out).at i i2
        simp only [Value.slice.injEq] at e1 e2
        obtain ⟨rfl, _, rfl⟩ := e1
        obtain ⟨rfl, _, rfl⟩ := e2
        obtain ⟨x, hx⟩ : ∃ x, x = l1[i] := ⟨_, rfl⟩
        obtain ⟨y, hy⟩ : ∃ y, y = l2[i] := ⟨_, rfl⟩
        rw [← hx] at q1
        rw [← hy] at q2
        have HX := hidm hx
        have HY := hidm hy
        have HS := hidm (show l1.take (i + 1) = l1.take i ++ [x] ∧ l2.take (i + 1) = l2.take i ++ [y] from ⟨by rw [List.take_succ_eq_append_getElem i1, hx], by rw [List.take_succ_eq_append_getElem i2, hy]⟩)
        clear hx hy
        by_cases hxy : x = y
        · subst hxy
          go_wp2_with fail
          go_quiet (fail)
          go_wp2_with fail
          go_roundw
          case rel => exact ⟨i + 1, by go_num, by omega, hidm (by rw [HS.out.1, HS.out.2, HT.out]), hidm (dN HB.out _)⟩
          case measure => simp [intOf]; omega
        · have hne : ((x : Int) != (y : Int)) = true := by simp; omega
          have hne2 : ¬ (x : Int) = (y : Int) := by omega
          have HF := hidm (show (l1 == l2) = false from by
            rw [beq_eq_false_iff_ne]
            intro e
            apply hxy
            rw [HX.out, HY.out]
            simp [e])
          go_wp2_with fail
          go_quiet (fail)
          go_wp2_with fail
          go_ret
          exact ⟨by rw [HF.out]; rfl, dN HB.out _⟩
      · obtain rfl : i = n := by omega
        have f1 : ¬ (i : Int) < (i : Int) := by omega
        have HE := hidm (show (l1 == l2) = true from by
          rw [beq_iff_eq, ← List.take_of_length_le (Nat.le_of_eq HN1.out.symm), ← List.take_of_length_le (Nat.le_of_eq HN2.out.symm)]
          exact HT.out)
        go_wp2_with fail
        go_ret
        exact ⟨by rw [HE.out]; rfl, HB.out⟩
  · have f1 : ¬ (l1.length : Int) = (l2.length : Int) := by omega
    have f2 : ((l1.length : Int) != (l2.length : Int)) = true := by simp; omega
    have HF := hidm (show (l1 == l2) = false from by
      rw [beq_eq_false_iff_ne]
      intro e
      exact hl (by rw [e]))
    clear h1 h2 hl
    go_enter Try.func23, Try.ntmps23
    go_wp2_with fail
    go_ret
    exact ⟨by rw [HF.out]; rfl, Below.refl _ _⟩
end Dsk
end Go.Proofs.Ytkbadjlehmaneaa
