/- Reader's calls joined; two rows held against one another. Conditions: as each theorem says. -/
import Derived.Test.YtopmbhpjdmcabaaGreatQb
import Derived.Test.YtopmbhpjdmcabaaGreatQv
namespace Go.Proofs.YtopmbhpjdmcabaaGreat
open Go.RowKit
namespace Cod
theorem call_u (r : Nat) (s : ByteArray) (p : Nat) (w : World) (h : Rdr r s p 0 w) (hp : p ≤ s.size) (hs : s.size ≤ 281474976710656) :
    Calls Tryz.prog 73 #[.pointer (some ⟨r, 0, none⟩)] w fun en w' => Call r s p w VNat (.int .u64 0) (num 0 0 (s.data.toList.drop p)) en w' :=
  m_u_open r s p w h VNat (num 0 0 (s.data.toList.drop p)) (fun w1 h1 => number_any r s p 0 w1 h1 hp (by omega))
theorem call_t (r : Nat) (s : ByteArray) (p : Nat) (w : World) (h : Rdr r s p 0 w) (hp : p ≤ s.size) (hs : s.size ≤ 281474976710656) :
    Calls Tryz.prog 100 #[.pointer (some ⟨r, 0, none⟩)] w fun en w' => Call r s p w VStr (.string ⟨#[]⟩) (txt 1000000 (s.data.toList.drop p)) en w' :=
  m_t_open r s p w h VStr (txt 1000000 (s.data.toList.drop p)) (fun w1 h1 => text_any_part r s p 0 w1 h1 hp hs)
theorem part_mono {α : Type} {r : Nat} {s : ByteArray} {e : Int} {w : World} {V1 V2 : α → Value → World → Prop} {R : Except Nat (α × List UInt8)} {en : Ending} {w' : World} (h : Part r s e w V1 R en w') (hV : ∀ a v, V1 a v w' → V2 a v w') : Part r s e w V2 R en w' := by
  cases R with
  | error x => exact h
  | ok at' => obtain ⟨a, t⟩ := at'; obtain ⟨v, h1, h2, h3⟩ := h; exact ⟨v, h1, hV a v h2, h3⟩
theorem call_l (r : Nat) (s : ByteArray) (p : Nat) (w : World) (h : Rdr r s p 0 w) (hp : p ≤ s.size) (hs : s.size ≤ 281474976710656) :
    Calls Tryz.prog 101 #[.pointer (some ⟨r, 0, none⟩)] w fun en w' => Call r s p w (VRow (r + 1)) (.slice none 0 0) (row (s.data.toList.drop p)) en w' :=
  m_l_open r s p w h (VRow (r + 1)) (row (s.data.toList.drop p)) (fun w1 h1 => (row_part r s p 0 w1 h1 hp hs).mono fun en w' hp' => part_mono hp' fun a v hv => ⟨hv.1, hv.2.imp id fun ⟨g, cap, cur, h1', h2', h3'⟩ => ⟨g, cap, cur, h1', by have := h1.lt; omega, h3'⟩⟩)
/-! two rows, held against each other -/
def V.same (a b : V) : Bool := Val.eqV a.k a.n a.b (S a.s) b.k b.n b.b (S b.s)
theorem V.same_iff (a b : V) : a.same b = true ↔ a = b := by
  obtain ⟨k, n, x, s⟩ := a
  obtain ⟨k', n', x', s'⟩ := b
  unfold V.same Val.eqV
  simp only [Bool.and_eq_true, beq_iff_eq, ByteArray.toList_eq, V.mk.injEq]
  constructor
  · rintro ⟨rfl, rfl, h, hs⟩; exact ⟨rfl, rfl, by omega, hs⟩
  · rintro ⟨rfl, rfl, rfl, rfl⟩; exact ⟨rfl, rfl, rfl, rfl⟩
set_option maxHeartbeats 1000000 in
theorem run_neV (k n b : Int) (s : ByteArray) (k' n' b' : Int) (s' : ByteArray) (w : World) :
    (binOp .neq 52 (.agg #[.int .i64 k, .int .i64 n, .int .u64 b, .string s]) (.agg #[.int .i64 k', .int .i64 n', .int .u64 b', .string s'])).run Tryz.prog w = .ok (.bool (!Val.eqV k n b s k' n' b' s')) w := by
  unfold Val.eqV
  by_cases hk : k = k' <;> by_cases hn : n = n' <;> by_cases hb : b = b' <;> by_cases hs : s.toList = s'.toList <;> go_simp
attribute [go_sem ↓] run_neV
instance : DecidableEq V := fun a b => decidable_of_iff (a.same b = true) (V.same_iff a b)
set_option maxHeartbeats 4000000 in
set_option maxRecDepth 100000 in
theorem rows_any (xs ys : List V) (sa sb : Value) (ha : xs.length ≤ 1000000) (hb : ys.length ≤ 1000000) (w : World) (h1 : RowAt xs sa w) (h2 : RowAt ys sb w) :
    Calls Tryz.prog 44 #[sa, sb] w fun e w' => e = .returned (.bool (decide (xs = ys))) ∧ Below w.heap.size w w' := by
  obtain ⟨ao, acap, rfl, hra⟩ := h1
  obtain ⟨bo, bcap, rfl, hrb⟩ := h2
  have HA : Hid (RowAt xs (.slice ao xs.length acap) w) := hidm ⟨ao, acap, rfl, hra⟩
  have HB : Hid (RowAt ys (.slice bo ys.length bcap) w) := hidm ⟨bo, bcap, rfl, hrb⟩
  clear hra hrb
  obtain ⟨n, hn⟩ : ∃ n, n = xs.length := ⟨_, rfl⟩
  obtain ⟨m, hm⟩ : ∃ m, m = ys.length := ⟨_, rfl⟩
  obtain ⟨F, hF⟩ : ∃ F, F = decide (xs = ys) := ⟨_, rfl⟩
  rw [← hn, ← hm, ← hF]
  have HN := hidm hn
  have HM := hidm hm
  have HF := hidm hF
  have hn' : n ≤ 1000000 := by omega
  have hm' : m ≤ 1000000 := by omega
  clear hn hm hF
  by_cases hnm : n = m
  · have HNM := hidm hnm
    have f0 : ((n : Int) != (m : Int)) = false := by simp; omega
    clear hnm
    go_enter Tryz.func44, Tryz.ntmps44
    go_wp2_with fail
    go_loopw [5] (fun ii wr => ∃ i : Nat, ii = .int .i64 i ∧ i ≤ n ∧ Hid (xs.take i = ys.take i) ∧ Hid (Below w.heap.size w wr)) (fun ii _ => (n - (intOf ii).toNat))
    case atStart => exact ⟨0, rfl, by omega, hidm rfl, hidm (Below.refl _ _)⟩
    case round =>
      obtain ⟨i, rfl, hi, HT, HBr⟩ := hrel
      rcases Nat.eq_or_lt_of_le hi with hie | hie
      · have f1 : ¬ (i : Int) < n := by omega
        have HE := hidm hie
        clear hie
        go_wp2_with fail
        go_ret
        refine ⟨congrArg (fun q => Ending.returned (.bool q)) ?_, HBr.out⟩
        rw [HF.out]
        have h := HT.out
        rw [List.take_of_length_le (by have := HE.out; have := HN.out; omega), List.take_of_length_le (by have := HE.out; have := HM.out; have := HNM.out; omega)] at h
        simp [h]
      · have f1 : (i : Int) < n := by omega
        have f2 : (i : Int) < m := by have := HNM.out; omega
        have hia : i < xs.length := by have := HN.out; omega
        have hib : i < ys.length := by have := HM.out; have := HNM.out; omega
        obtain ⟨b1, o1, c1, he1, _, q0, q1, q2, q3⟩ := (HA.out.later HBr.out).at i hia
        obtain ⟨b2, o2, c2, he2, _, r0, r1, r2, r3⟩ := (HB.out.later HBr.out).at i hib
        simp only [Value.slice.injEq, true_and] at he1 he2
        obtain ⟨rfl, rfl⟩ := he1
        obtain ⟨rfl, rfl⟩ := he2
        obtain ⟨x, hx⟩ : ∃ x, x = xs[i] := ⟨_, rfl⟩
        obtain ⟨y, hy⟩ : ∃ y, y = ys[i] := ⟨_, rfl⟩
        rw [← hx] at q0 q1 q2 q3
        rw [← hy] at r0 r1 r2 r3
        have HX := hidm hx
        have HY := hidm hy
        have f3 : (i : Int) < (n : Int) := f1
        clear hx hy
        have heq : Val.eqV x.k x.n x.b (S x.s) y.k y.n y.b (S y.s) = x.same y := rfl
        rcases hsame : x.same y with _ | _
        · have f4 : Val.eqV x.k x.n x.b (S x.s) y.k y.n y.b (S y.s) = false := heq.trans hsame
          clear heq
          go_wp2_with fail
          go_quiet (fail)
          go_wp2_with fail
          go_ret
          refine ⟨congrArg (fun q => Ending.returned (.bool q)) ?_, below_drewN HBr.out _⟩
          rw [HF.out]
          symm
          rw [decide_eq_false_iff_not]
          intro he
          have : x = y := by rw [HX.out, HY.out]; subst he; rfl
          rw [(V.same_iff x y).2 this] at hsame
          cases hsame
        · have f4 : Val.eqV x.k x.n x.b (S x.s) y.k y.n y.b (S y.s) = true := heq.trans hsame
          have hxy := (V.same_iff x y).1 hsame
          have HT2 : Hid (xs.take (i + 1) = ys.take (i + 1)) := by
            refine hidm ?_
            rw [List.take_succ_eq_append_getElem hia, List.take_succ_eq_append_getElem hib, HT.out, ← HX.out, ← HY.out, hxy]
          have HXY := hidm hxy
          clear heq hxy
          go_wp2_with fail
          go_quiet (fail)
          go_wp2_with fail
          go_roundw
          case rel => exact ⟨i + 1, by go_num, by omega, HT2, hidm (below_drewN HBr.out _)⟩
          case measure => simp [intOf]; omega
  · have HNM := hidm hnm
    have f0 : ((n : Int) != (m : Int)) = true := by simp; omega
    clear hnm
    go_enter Tryz.func44, Tryz.ntmps44
    go_wp2_with fail
    go_ret
    refine ⟨congrArg (fun q => Ending.returned (.bool q)) ?_, Below.refl _ _⟩
    rw [HF.out]
    symm
    rw [decide_eq_false_iff_not]
    intro he
    have h1 := HN.out
    rw [he, ← HM.out] at h1
    exact HNM.out h1
end Cod
end Go.Proofs.YtopmbhpjdmcabaaGreat
