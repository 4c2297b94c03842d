/- The law's own test of what asks little, and the document's test of a key (layer 4). Conditions: the slice's length is below 2^63; for the document's test at most a million values, whose numbers fit their kinds. -/
import Derived.Test.YtppdebhcaodcnaaDoorYm
namespace Go.Proofs.YtppdebhcaodcnaaDoor
open Go.RowKit Cod
namespace Ky
def lightS (n : Nat) : Bool := decide (n ≤ 300 ∨ (4096 ≤ n ∧ n ≤ 4200))
def lightB (vs : List V) : Bool := decide (vs.length ≤ 20) && vs.all (fun v => lightS v.s.length)
set_option maxHeartbeats 4000000 in
set_option maxRecDepth 100000 in
theorem light_any (vs : List V) (sl : Value) (hl : vs.length ≤ 9223372036854775807) (w : World) (h : RowAt vs sl w) :
    Calls Tryd.prog 14 #[sl] w fun e w' => e = .returned (.bool (lightB vs)) ∧ Below w.heap.size w w' := by
  obtain ⟨ao, cap, rfl, hrow⟩ := h
  have HRow : Hid (RowAt vs (.slice ao vs.length cap) w) := hidm ⟨ao, cap, rfl, hrow⟩
  clear hrow
  obtain ⟨n, hnn⟩ : ∃ n, n = vs.length := ⟨_, rfl⟩
  obtain ⟨F, hF⟩ : ∃ F, F = lightB vs := ⟨_, rfl⟩
  rw [← hF, ← hnn]
  have HFF := hidm hF
  have HN := hidm hnn
  have hn' : n ≤ 9223372036854775807 := by omega
  clear hF hnn hl
  rcases Nat.lt_or_ge 20 n with h60 | h60
  · have f0 : (20 : Int) < n := by omega
    go_enter Tryd.func14, Tryd.ntmps14
    go_wp2_with fail
    go_ret
    refine ⟨congrArg (fun q => Ending.returned (.bool q)) ?_, Below.refl _ _⟩
    rw [HFF.out]
    unfold lightB
    rw [decide_eq_false (by have := HN.out; omega)]; rfl
  · have f0 : ¬ (20 : Int) < n := by omega
    go_enter Tryd.func14, Tryd.ntmps14
    go_wp2_with fail
    go_loopw [3] (fun ii wr => ∃ i : Nat, ii = .int .i64 i ∧ i ≤ n ∧ Hid ((vs.take i).all (fun v => lightS v.s.length) = true) ∧ Hid (wr = w)) (fun ii _ => (n - (intOf ii).toNat))
    case atStart => exact ⟨0, rfl, by omega, hidm (by simp), hidm rfl⟩
    case round =>
      obtain ⟨i, rfl, hi, HA, HBr⟩ := hrel
      obtain rfl : wr = w := HBr.out
      rcases Nat.eq_or_lt_of_le hi with hie | hie
      · have f1 : ¬ (i : Int) < n := by omega
        have HE := hidm hie
        clear hie
        go_wp2_with fail
        go_ret
        refine ⟨congrArg (fun q => Ending.returned (.bool q)) ?_, Below.refl _ _⟩
        rw [HFF.out]
        unfold lightB
        have h1 := HA.out
        rw [HE.out, HN.out, List.take_length] at h1
        rw [h1, decide_eq_true (by have := HN.out; omega)]; rfl
      · have f1 : (i : Int) < n := by omega
        have hiv : i < vs.length := by have := HN.out; omega
        obtain ⟨b, off, cap', he, hbl, q0, q1, q2, q3⟩ := HRow.out.at i hiv
        simp only [Value.slice.injEq, true_and] at he
        obtain ⟨rfl, rfl⟩ := he
        obtain ⟨t, ht⟩ : ∃ t, t = S vs[i].s := ⟨_, rfl⟩
        rw [← ht] at q3
        have HT := hidm ht
        clear ht q0 q1 q2
        rcases Nat.lt_or_ge 300 t.size with ha | ha
        · have f2 : (300 : Int) < t.size := by omega
          rcases Nat.lt_or_ge t.size 4096 with hb | hb
          · have f3 : (t.size : Int) < 4096 := by omega
            go_wp2_with fail
            go_ret
            refine ⟨congrArg (fun q => Ending.returned (.bool q)) ?_, Below.refl _ _⟩
            rw [HFF.out]
            unfold lightB
            symm
            rw [Bool.and_eq_false_iff]
            refine Or.inr ?_
            rw [List.all_eq_false]
            refine ⟨vs[i], List.getElem_mem hiv, ?_⟩
            have : vs[i].s.length = t.size := by rw [HT.out, S_size]
            unfold lightS
            rw [this]
            simp; omega
          · have f3 : ¬ (t.size : Int) < 4096 := by omega
            rcases Nat.lt_or_ge 4200 t.size with hc | hc
            · have f4 : (4200 : Int) < t.size := by omega
              go_wp2_with fail
              go_ret
              refine ⟨congrArg (fun q => Ending.returned (.bool q)) ?_, Below.refl _ _⟩
              rw [HFF.out]
              unfold lightB
              symm
              rw [Bool.and_eq_false_iff]
              refine Or.inr ?_
              rw [List.all_eq_false]
              refine ⟨vs[i], List.getElem_mem hiv, ?_⟩
              have : vs[i].s.length = t.size := by rw [HT.out, S_size]
              unfold lightS
              rw [this]
              simp; omega
            · have f4 : ¬ (4200 : Int) < t.size := by omega
              have HA4 : Hid ((vs.take (i + 1)).all (fun v => lightS v.s.length) = true) := by
                refine hidm ?_
                rw [List.take_succ_eq_append_getElem hiv, List.all_append, HA.out]
                have : vs[i].s.length = t.size := by rw [HT.out, S_size]
                simp only [List.all_cons, List.all_nil, Bool.and_true, Bool.true_and]
                unfold lightS
                rw [this]
                simp; omega
              go_wp2_with fail
              go_roundw
              case rel => exact ⟨i + 1, by go_num, by omega, HA4, hidm trivial⟩
              case measure => simp [intOf]; omega
        · have f2 : ¬ (300 : Int) < t.size := by omega
          have f4 : ¬ (4200 : Int) < t.size := by omega
          have HA4 : Hid ((vs.take (i + 1)).all (fun v => lightS v.s.length) = true) := by
            refine hidm ?_
            rw [List.take_succ_eq_append_getElem hiv, List.all_append, HA.out]
            have : vs[i].s.length = t.size := by rw [HT.out, S_size]
            simp only [List.all_cons, List.all_nil, Bool.and_true, Bool.true_and]
            unfold lightS
            rw [this]
            simp; omega
          go_wp2_with fail
          go_roundw
          case rel => exact ⟨i + 1, by go_num, by omega, HA4, hidm trivial⟩
          case measure => simp [intOf]; omega
theorem rright_v (v : V) (hb : v.b < 18446744073709551616) (w : World) :
    Calls Tryd.prog 48 #[v.agg] w fun e w' => e = .returned (.bool v.right) ∧ Below w.heap.size w w' := Ref.right_any v.k v.n v.b (S v.s) hb w
set_option maxHeartbeats 4000000 in
set_option maxRecDepth 100000 in
theorem rright_any (vs : List V) (sl : Value) (hn : vs.length ≤ 1000000) (hinn : ∀ v ∈ vs, v.inn) (w : World) (h : RowAt vs sl w) :
    Calls Tryd.prog 26 #[sl] w fun e w' => e = .returned (.bool (isK vs)) ∧ Below w.heap.size w w' := by
  obtain ⟨ao, cap, rfl, hrow⟩ := h
  have HRow : Hid (RowAt vs (.slice ao vs.length cap) w) := hidm ⟨ao, cap, rfl, hrow⟩
  clear hrow
  obtain ⟨n, hnn⟩ : ∃ n, n = vs.length := ⟨_, rfl⟩
  obtain ⟨F, hF⟩ : ∃ F, F = isK vs := ⟨_, rfl⟩
  rw [← hF, ← hnn]
  have HFF := hidm hF
  have HN := hidm hnn
  have HI := hidm hinn
  have hn' : n ≤ 1000000 := by omega
  clear hF hnn hn hinn
  go_enter Tryd.func26, Tryd.ntmps26
  go_wp2_with fail
  go_loopw [3] (fun ii wr => ∃ i : Nat, ii = .int .i64 i ∧ i ≤ n ∧ Hid ((vs.take i).all V.right = true) ∧ Hid (Below w.heap.size w wr)) (fun ii _ => (n - (intOf ii).toNat))
  case atStart => exact ⟨0, rfl, by omega, hidm (by simp), hidm (Below.refl _ _)⟩
  case round =>
    obtain ⟨i, rfl, hi, HA, HBr⟩ := hrel
    rcases Nat.eq_or_lt_of_le hi with hie | hie
    · have f1 : ¬ (i : Int) < n := by omega
      have HE := hidm hie
      have h1 := HA.out
      rw [HE.out, HN.out, List.take_length] at h1
      have H1 := hidm h1
      clear hie h1
      rcases Nat.lt_or_ge 8 n with h8 | h8
      · have f2 : ¬ (n : Int) ≤ 8 := by omega
        go_wp2_with fail
        go_ret
        refine ⟨congrArg (fun q => Ending.returned (.bool q)) ?_, HBr.out⟩
        rw [HFF.out]
        unfold isK
        rw [decide_eq_false (by have := HN.out; omega)]; rfl
      · have f2 : (n : Int) ≤ 8 := by omega
        go_wp2_with fail
        go_ret
        refine ⟨congrArg (fun q => Ending.returned (.bool q)) ?_, HBr.out⟩
        rw [HFF.out]
        unfold isK
        rw [H1.out, decide_eq_true (by have := HN.out; omega)]; rfl
    · have f1 : (i : Int) < n := by omega
      have hiv : i < vs.length := by have := HN.out; omega
      obtain ⟨b, off, cap', he, hbl, q0, q1, q2, q3⟩ := (HRow.out.later HBr.out).at i hiv
      simp only [Value.slice.injEq, true_and] at he
      obtain ⟨rfl, rfl⟩ := he
      obtain ⟨v, hv⟩ : ∃ v, v = vs[i] := ⟨_, rfl⟩
      rw [← hv] at q0 q1 q2 q3
      have hva := rright_v v (by rw [hv]; exact (HI.out _ (List.getElem_mem hiv)).b) wr
      simp only [V.agg] at hva
      have HVV := hidm hv
      have hsz := HBr.out.size
      clear hv
      rcases hr : v.right with _ | _
      · rw [hr] at hva
        have HR := hidm hr
        clear hr
        go_wp2_with fail
        refine hva.mono ?_
        rintro e w3 ⟨rfl, hb3⟩
        have HB3 := hidm (HBr.out.trans (hb3.mono hsz))
        clear hb3
        go_wp2_with fail
        go_ret
        refine ⟨congrArg (fun q => Ending.returned (.bool q)) ?_, HB3.out⟩
        rw [HFF.out]
        unfold isK
        have : vs.all V.right = false := by
          rw [Bool.eq_false_iff]
          intro hall
          have := List.all_eq_true.1 hall v (by rw [HVV.out]; exact List.getElem_mem hiv)
          rw [HR.out] at this; cases this
        rw [this, Bool.and_false]
      · rw [hr] at hva
        have HA4 : Hid ((vs.take (i + 1)).all V.right = true) := by
          refine hidm ?_
          rw [List.take_succ_eq_append_getElem hiv, List.all_append, HA.out, ← HVV.out]
          simp [hr]
        clear hr
        go_wp2_with fail
        refine hva.mono ?_
        rintro e w3 ⟨rfl, hb3⟩
        have HB3 := hidm (HBr.out.trans (hb3.mono hsz))
        clear hb3
        go_wp2_with fail
        go_roundw
        case rel => exact ⟨i + 1, by go_num, by omega, HA4, HB3⟩
        case measure => simp [intOf]; omega
end Ky
end Go.Proofs.YtppdebhcaodcnaaDoor
