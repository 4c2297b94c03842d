/- The document's own bytes of any right value, and its Of (layer 4). Conditions: at most a million values, whose numbers fit their kinds. -/
import Derived.Test.YtppdebhcaodcnaaDoorYs
import Derived.Test.YtppdebhcaodcnaaDoorYg
import Derived.Test.YtppdebhcaodcnaaDoorYn
namespace Go.Proofs.YtppdebhcaodcnaaDoor
open Go.RowKit Cod
namespace Ky
theorem rone_float (x : Nat) (w : World) (hx : x < 18446744073709551616) :
    Calls Tryd.prog 43 #[.agg #[.int .i64 3, .int .i64 0, .int .u64 x, .string ⟨#[]⟩]] w fun e w' => e = .returned (.string (S (one ⟨3, 0, x, []⟩))) ∧ Below w.heap.size w w' := by
  rcases Nat.lt_or_ge x 9223372036854775808 with h | h
  · exact rone_floatp x w hx h
  · exact rone_floatn x w hx h
theorem rone_any (v : V) (hr : v.right = true) (hi : v.inn) (w : World) :
    Calls Tryd.prog 43 #[v.agg] w fun e w' => e = .returned (.string (S (one v))) ∧ Below w.heap.size w w' := by
  have hi0 := hi
  rcases right_form hr with rfl | ⟨n, rfl, hn⟩ | ⟨n, rfl⟩ | ⟨x, rfl⟩ | ⟨s, rfl, hs⟩ | ⟨s, rfl, hs⟩
  · exact rone_null w
  · rcases hn with rfl | rfl
    · exact rone_bool 0 w (by decide)
    · exact rone_bool 1 w (by decide)
  · exact rone_int n w hi0.n0 hi0.n1
  · exact rone_float x w hi0.b
  · exact rone_text4 (S s) (by rw [S_size]; exact hs) w
  · exact rone_text5 (S s) (by rw [S_size]; exact hs) w
set_option maxHeartbeats 4000000 in
set_option maxRecDepth 100000 in
theorem rof_any (vs : List V) (sl : Value) (hinn : ∀ v ∈ vs, v.inn) (hn : vs.length ≤ 1000000) (w : World) (h : RowAt vs sl w) :
    Calls Tryd.prog 17 #[sl] w fun e w' => e = .returned (.string (S (ofB vs))) ∧ Below w.heap.size w w' := by
  have hik := rright_any vs sl hn hinn w h
  obtain ⟨ao, cap, rfl, hrow⟩ := h
  have HRow : Hid (RowAt vs (.slice ao vs.length cap) w) := hidm ⟨ao, cap, rfl, hrow⟩
  clear hrow
  obtain ⟨n, hnn⟩ : ∃ n, n = vs.length := ⟨_, rfl⟩
  obtain ⟨F, hF⟩ : ∃ F, F = S (ofB vs) := ⟨_, rfl⟩
  rw [← hF, ← hnn]
  rw [← hnn] at hik
  have HFF := hidm hF
  have HN := hidm hnn
  have HI := hidm hinn
  have hn' : n ≤ 1000000 := by omega
  clear hF hnn hn hinn
  rcases hk : isK vs with _ | _
  · rw [hk] at hik
    have HK := hidm hk
    clear hk
    go_enter Tryd.func17, Tryd.ntmps17
    go_wp2_with fail
    refine hik.mono ?_
    rintro e w1 ⟨rfl, hb⟩
    go_wp2_with fail
    go_ret
    refine ⟨congrArg (fun q => Ending.returned (.string q)) ?_, hb⟩
    rw [HFF.out]; unfold ofB; rw [if_neg (by rw [HK.out]; decide)]
  · rw [hk] at hik
    have HK := hidm hk
    have HR : Hid (∀ v ∈ vs, v.right = true) := hidm (by
      have h2 := hk
      unfold isK at h2
      rw [Bool.and_eq_true] at h2
      exact fun v hv => List.all_eq_true.1 h2.2 v hv)
    have hn8 : n ≤ 8 := by
      have h2 := hk
      unfold isK at h2
      rw [Bool.and_eq_true] at h2
      have := of_decide_eq_true h2.1
      have := HN.out
      omega
    clear hk hn'
    go_enter Tryd.func17, Tryd.ntmps17
    go_wp2_with fail
    refine hik.mono ?_
    rintro e w1 ⟨rfl, hb1⟩
    have HB1 := hidm hb1
    clear hb1 hik
    go_wp2_with fail
    go_loopw [3, 4] (fun ss ii wr => ∃ (i : Nat) (A : ByteArray), ss = .string A ∧ ii = .int .i64 i ∧ i ≤ n ∧ A.size ≤ i * 8200 ∧ Hid (A = S ((vs.take i).flatMap one)) ∧ Hid (Below w.heap.size w wr)) (fun _ ii _ => (n - (intOf ii).toNat))
    case atStart => exact ⟨0, S [], rfl, rfl, by omega, by simp [S_size], hidm (by simp), HB1⟩
    case round =>
      obtain ⟨i, A, rfl, rfl, hi, hA, HA, HBr⟩ := hrel
      rcases Nat.eq_or_lt_of_le hi with hie | hie
      · have f1 : ¬ (i : Int) < n := by omega
        have HE := hidm hie
        have f2 : ¬ 9223372036854775807 < A.size + 1 := by omega
        clear hie
        go_wp2_with fail
        go_ret
        refine ⟨congrArg (fun q => Ending.returned (.string q)) ?_, HBr.out⟩
        rw [HFF.out, HA.out]
        unfold ofB body
        rw [if_pos HK.out, HE.out, HN.out, List.take_length]
        exact S_append _ [0]
      · have f1 : (i : Int) < n := by omega
        have hiv : i < vs.length := by have := HN.out; omega
        obtain ⟨b, off, cap', he, hbl, q0, q1, q2, q3⟩ := (HRow.out.later HBr.out).at i hiv
        simp only [Value.slice.injEq, true_and] at he
        obtain ⟨rfl, rfl⟩ := he
        obtain ⟨v, hv⟩ : ∃ v, v = vs[i] := ⟨_, rfl⟩
        rw [← hv] at q0 q1 q2 q3
        have hvm : v ∈ vs := by rw [hv]; exact List.getElem_mem hiv
        obtain ⟨O, hO⟩ : ∃ O, O = S (one v) := ⟨_, rfl⟩
        have hOs : O.size ≤ 8200 := by rw [hO, S_size]; exact one_len v (HR.out v hvm)
        have f2 : ¬ 9223372036854775807 < A.size + O.size := by omega
        have hwr := rone_any v (HR.out v hvm) (HI.out v hvm) wr
        rw [← hO] at hwr
        simp only [V.agg] at hwr
        have HA4 : Hid (A ++ O = S ((vs.take (i + 1)).flatMap one)) := hidm (by
          rw [List.take_succ_eq_append_getElem hiv, List.flatMap_append, ← hv, HA.out, hO]
          simp only [List.flatMap_cons, List.flatMap_nil, List.append_nil]
          exact S_append _ _)
        have hsz := HBr.out.size
        clear hv hvm hO
        go_wp2_with fail
        refine hwr.mono ?_
        rintro e w3 ⟨rfl, hb3⟩
        have HB3 := hidm (HBr.out.trans (hb3.mono hsz))
        clear hb3 hwr
        go_wp2_with fail
        go_roundw
        case rel => exact ⟨i + 1, A ++ O, rfl, by go_num, by omega, by rw [ByteArray.size_append]; omega, HA4, HB3⟩
        case measure => simp [intOf]; omega
end Ky
end Go.Proofs.YtppdebhcaodcnaaDoor
