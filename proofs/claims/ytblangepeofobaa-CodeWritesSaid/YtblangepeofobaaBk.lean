/- The law's own row test. No condition but that the slice's length is below 2^63. -/
import Derived.Test.YtblangepeofobaaCpm
import Derived.Test.YtblangepeofobaaRefs
import Derived.Test.YtblangepeofobaaCz
namespace Go.Proofs.Ytblangepeofobaa
open Go.RowKit
namespace Cod
def okRow (vs : List V) : Bool := decide (vs.length ≤ 60) && vs.all (fun v => decide (v.s.length ≤ 4200))
set_option maxHeartbeats 4000000 in
set_option maxRecDepth 100000 in
theorem rowt_any (vs : List V) (sl : Value) (hl : vs.length ≤ 9223372036854775807) (w : World) (h : RowAt vs sl w) :
    Calls Try.prog 11 #[sl] w fun e w' => e = .returned (.bool (okRow vs)) ∧ Below w.heap.size w w' := by
  obtain ⟨ao, cap, rfl, hrow⟩ := h
  have HRow : Hid (RowAt vs (.slice ao vs.length cap) w) := hidm ⟨ao, cap, rfl, hrow⟩
  clear hrow
  obtain ⟨n, hnn⟩ : ∃ n, n = vs.length := ⟨_, rfl⟩
  obtain ⟨F, hF⟩ : ∃ F, F = okRow vs := ⟨_, rfl⟩
  rw [← hF, ← hnn]
  have HFF := hidm hF
  have HN := hidm hnn
  have hn' : n ≤ 9223372036854775807 := by omega
  clear hF hnn hl
  rcases Nat.lt_or_ge 60 n with h60 | h60
  · have f0 : (60 : Int) < n := by omega
    go_enter Try.func11, Try.ntmps11
    go_wp2_with fail
    go_ret
    refine ⟨congrArg (fun q => Ending.returned (.bool q)) ?_, Below.refl _ _⟩
    rw [HFF.out]
    unfold okRow
    rw [decide_eq_false (by have := HN.out; omega)]; rfl
  · have f0 : ¬ (60 : Int) < n := by omega
    go_enter Try.func11, Try.ntmps11
    go_wp2_with fail
    go_loopw [3] (fun ii wr => ∃ i : Nat, ii = .int .i64 i ∧ i ≤ n ∧ Hid ((vs.take i).all (fun v => decide (v.s.length ≤ 4200)) = true) ∧ Hid (wr = w)) (fun ii _ => (n - (intOf ii).toNat))
    case atStart => exact ⟨0, rfl, by omega, hidm (by simp), hidm rfl⟩
    case round =>
      obtain ⟨i, rfl, hi, HA, HBr⟩ := hrel
      obtain rfl : wr = w := HBr.out
      rcases Nat.eq_or_lt_of_le hi with hie | hie
      · have f1 : ¬ (i : Int) < n := by omega
        have HE := hidm hie
        clear hie
        go_wp2_with fail
        go_ret
        refine ⟨congrArg (fun q => Ending.returned (.bool q)) ?_, Below.refl _ _⟩
        rw [HFF.out]
        unfold okRow
        have h1 := HA.out
        rw [HE.out, HN.out, List.take_length] at h1
        rw [h1, decide_eq_true (by have := HN.out; omega)]; rfl
      · have f1 : (i : Int) < n := by omega
        have hiv : i < vs.length := by have := HN.out; omega
        obtain ⟨b, off, cap', he, hbl, q0, q1, q2, q3⟩ := HRow.out.at i hiv
        simp only [Value.slice.injEq, true_and] at he
        obtain ⟨rfl, rfl⟩ := he
        obtain ⟨t, ht⟩ : ∃ t, t = S vs[i].s := ⟨_, rfl⟩
        rw [← ht] at q3
        have HT := hidm ht
        clear ht q0 q1 q2
        rcases Nat.lt_or_ge 4200 t.size with hb | hb
        · have f2 : (4200 : Int) < t.size := by omega
          go_wp2_with fail
          go_ret
          refine ⟨congrArg (fun q => Ending.returned (.bool q)) ?_, Below.refl _ _⟩
          rw [HFF.out]
          unfold okRow
          symm
          rw [Bool.and_eq_false_iff]
          refine Or.inr ?_
          rw [List.all_eq_false]
          refine ⟨vs[i], List.getElem_mem hiv, ?_⟩
          have : vs[i].s.length = t.size := by rw [HT.out, S_size]
          simp; omega
        · have f2 : ¬ (4200 : Int) < t.size := by omega
          have HA4 : Hid ((vs.take (i + 1)).all (fun v => decide (v.s.length ≤ 4200)) = true) := by
            refine hidm ?_
            rw [List.take_succ_eq_append_getElem hiv, List.all_append, HA.out]
            have : vs[i].s.length = t.size := by rw [HT.out, S_size]
            simp; omega
          go_wp2_with fail
          go_roundw
          case rel => exact ⟨i + 1, by go_num, by omega, HA4, hidm trivial⟩
          case measure => simp [intOf]; omega
theorem rref_any (v : V) (hb : v.b < 18446744073709551616) (w : World) :
    Calls Try.prog 39 #[v.agg] w fun e w' => e = .returned (.bool v.right) ∧ Below w.heap.size w w' := Ref.right_any v.k v.n v.b (S v.s) hb w
end Cod
end Go.Proofs.Ytblangepeofobaa
