/- write, isKey and Of of package key. Conditions: the slice holds at most a million values, their numbers fit their kinds; bytealg's MaxLen holds some number. -/
import Derived.Test.YtppdebhcaodcnaaDoorYf
namespace Go.Proofs.YtppdebhcaodcnaaDoor
open Go.RowKit Cod
namespace Ky
theorem write_any (v : V) (hr : v.right = true) (hi : v.inn) (b : Nat) (o : Option Nat) (l : List UInt8) (w : World) (h : Buf b o l w) (hl : l.length ≤ 100000000) (hm : ML w) (hb3 : 3 < b) :
    Calls Tryd.prog 42 #[v.agg, putV b] w fun e w' => e = .returned (.tuple #[]) ∧ St b o (l ++ one v) w w' := by
  have hi0 := hi
  rcases right_form hr with rfl | ⟨n, rfl, hn⟩ | ⟨n, rfl⟩ | ⟨x, rfl⟩ | ⟨s, rfl, hs⟩ | ⟨s, rfl, hs⟩
  · exact write_null b o l w h hl
  · rcases hn with rfl | rfl
    · exact write_bool 0 b o l w h hl (by decide)
    · exact write_bool 1 b o l w h hl (by decide)
  · exact write_int n b o l w h hl hi0.n0 hi0.n1
  · exact write_float x b o l w h hl hi0.b hr
  · exact write_text4 s b o l w h hl hs hm hb3
  · exact write_text5 s b o l w h hl hs hm hb3
def isK (vs : List V) : Bool := decide (vs.length ≤ 8) && vs.all V.right
set_option maxHeartbeats 4000000 in
set_option maxRecDepth 100000 in
theorem iskey_any (vs : List V) (sl : Value) (hn : vs.length ≤ 1000000) (w : World) (h : RowAt vs sl w) :
    Calls Tryd.prog 40 #[sl] w fun e w' => e = .returned (.bool (isK vs)) ∧ Below w.heap.size w w' := by
  obtain ⟨ao, cap, rfl, hrow⟩ := h
  have HRow : Hid (RowAt vs (.slice ao vs.length cap) w) := hidm ⟨ao, cap, rfl, hrow⟩
  clear hrow
  obtain ⟨n, hnn⟩ : ∃ n, n = vs.length := ⟨_, rfl⟩
  obtain ⟨F, hF⟩ : ∃ F, F = isK vs := ⟨_, rfl⟩
  rw [← hF, ← hnn]
  have HFF := hidm hF
  have HN := hidm hnn
  have hn' : n ≤ 1000000 := by omega
  clear hF hnn hn
  rcases Nat.lt_or_ge 8 n with h8 | h8
  · have f0 : (8 : Int) < n := by omega
    go_enter Tryd.func40, Tryd.ntmps40
    go_wp2_with fail
    go_ret
    refine ⟨congrArg (fun q => Ending.returned (.bool q)) ?_, Below.refl _ _⟩
    rw [HFF.out]
    unfold isK
    rw [decide_eq_false (by have := HN.out; omega)]; rfl
  · have f0 : ¬ (8 : Int) < n := by omega
    go_enter Tryd.func40, Tryd.ntmps40
    go_wp2_with fail
    go_loopw [10] (fun ii wr => ∃ i : Nat, ii = .int .i64 i ∧ i ≤ n ∧ Hid ((vs.take i).all V.right = true) ∧ Hid (Below w.heap.size w wr)) (fun ii _ => (n - (intOf ii).toNat))
    case atStart => exact ⟨0, rfl, by omega, hidm (by simp), hidm (Below.refl _ _)⟩
    case round =>
      obtain ⟨i, rfl, hi, HA, HBr⟩ := hrel
      rcases Nat.eq_or_lt_of_le hi with hie | hie
      · have f1 : ¬ (i : Int) < n := by omega
        have HE := hidm hie
        clear hie
        go_wp2_with fail
        go_ret
        refine ⟨congrArg (fun q => Ending.returned (.bool q)) ?_, HBr.out⟩
        rw [HFF.out]
        have h1 := HA.out
        rw [HE.out, HN.out, List.take_length] at h1
        unfold isK
        rw [h1, decide_eq_true (by have := HN.out; omega)]; rfl
      · have f1 : (i : Int) < n := by omega
        have hiv : i < vs.length := by have := HN.out; omega
        obtain ⟨b, off, cap', he, hbl, q0, q1, q2, q3⟩ := (HRow.out.later HBr.out).at i hiv
        simp only [Value.slice.injEq, true_and] at he
        obtain ⟨rfl, rfl⟩ := he
        obtain ⟨v, hv⟩ : ∃ v, v = vs[i] := ⟨_, rfl⟩
        rw [← hv] at q0 q1 q2 q3
        have hva := Val.right_any v.k v.n v.b (S v.s) (wr.alloc (.cells #[.int .i64 v.k, .int .i64 v.n, .int .u64 v.b, .string (S v.s)] 25))
        have HVV := hidm hv
        have hsz := HBr.out.size
        clear hv
        rcases hr : v.right with _ | _
        · have hr2 : Val.rightB v.k v.n v.b (S v.s) = false := hr
          rw [hr2] at hva
          have HR := hidm hr
          clear hr hr2
          go_wp2_with fail
          refine hva.mono ?_
          rintro e w3 ⟨rfl, hb3⟩
          have HB3 := hidm ((HBr.out.alloc hsz (.cells #[.int .i64 v.k, .int .i64 v.n, .int .u64 v.b, .string (S v.s)] 25)).trans (hb3.mono (by simp; omega)))
          clear hb3
          go_wp2_with fail
          go_ret
          refine ⟨congrArg (fun q => Ending.returned (.bool q)) ?_, HB3.out⟩
          rw [HFF.out]
          unfold isK
          have : vs.all V.right = false := by
            rw [Bool.eq_false_iff]
            intro hall
            have := List.all_eq_true.1 hall v (by rw [HVV.out]; exact List.getElem_mem hiv)
            rw [HR.out] at this; cases this
          rw [this, Bool.and_false]
        · have hr2 : Val.rightB v.k v.n v.b (S v.s) = true := hr
          rw [hr2] at hva
          have HA4 : Hid ((vs.take (i + 1)).all V.right = true) := by
            refine hidm ?_
            rw [List.take_succ_eq_append_getElem hiv, List.all_append, HA.out, ← HVV.out]
            simp [hr]
          clear hr hr2
          go_wp2_with fail
          refine hva.mono ?_
          rintro e w3 ⟨rfl, hb3⟩
          have HB3 := hidm ((HBr.out.alloc hsz (.cells #[.int .i64 v.k, .int .i64 v.n, .int .u64 v.b, .string (S v.s)] 25)).trans (hb3.mono (by simp; omega)))
          clear hb3
          go_wp2_with fail
          go_roundw
          case rel => exact ⟨i + 1, by go_num, by omega, HA4, HB3⟩
          case measure => simp [intOf]; omega
/-- A key's bytes; none, if it is no key. -/
def ofB (vs : List V) : List UInt8 := if isK vs = true then body vs else []
theorem one_len (v : V) (hr : v.right = true) : (one v).length ≤ 8200 := by
  have h := (right_kind hr).2.2
  have e := esc_len v.s
  unfold one rest
  simp only [List.length_cons]
  split
  · simp
  · split
    · rw [be_len]; omega
    · split
      · rw [be_len]; omega
      · split
        · rename_i h4; have := h h4; simp; omega
        · simp
theorem pre_len (vs : List V) (hr : ∀ v ∈ vs, v.right = true) : (vs.flatMap one).length ≤ vs.length * 8200 := by
  induction vs with
  | nil => simp
  | cons v vs ih =>
    have h1 := one_len v (hr v (by simp))
    have h2 := ih (fun x hx => hr x (by simp [hx]))
    simp only [List.flatMap_cons, List.length_append, List.length_cons]
    omega
theorem buf_new (w : World) : Buf w.heap.size none [] (w.alloc (.cells #[.slice none 0 0] 55)) :=
  ⟨_, heap_alloc_new _ _, World.ownsRow_nil _ _ _ _, rfl⟩
set_option maxHeartbeats 4000000 in
set_option maxRecDepth 100000 in
theorem of_any (vs : List V) (sl : Value) (hinn : ∀ v ∈ vs, v.inn) (hn : vs.length ≤ 1000000) (w : World) (h : RowAt vs sl w) (hml : ML w) :
    Calls Tryd.prog 16 #[sl] w fun e w' => e = .returned (.string (S (ofB vs))) ∧ Below w.heap.size w w' := by
  have hik := iskey_any vs sl hn w h
  obtain ⟨ao, cap, rfl, hrow⟩ := h
  have HRow : Hid (RowAt vs (.slice ao vs.length cap) w) := hidm ⟨ao, cap, rfl, hrow⟩
  clear hrow
  obtain ⟨n, hnn⟩ : ∃ n, n = vs.length := ⟨_, rfl⟩
  obtain ⟨F, hF⟩ : ∃ F, F = S (ofB vs) := ⟨_, rfl⟩
  rw [← hF, ← hnn]
  rw [← hnn] at hik
  have HFF := hidm hF
  have HN := hidm hnn
  have HI := hidm hinn
  have HML := hidm hml
  have hn' : n ≤ 1000000 := by omega
  clear hF hnn hn hinn hml
  rcases hk : isK vs with _ | _
  · rw [hk] at hik
    have HK := hidm hk
    clear hk
    go_enter Tryd.func16, Tryd.ntmps16
    go_wp2_with fail
    refine hik.mono ?_
    rintro e w1 ⟨rfl, hb⟩
    go_wp2_with fail
    go_ret
    refine ⟨congrArg (fun q => Ending.returned (.string q)) ?_, hb⟩
    rw [HFF.out]; unfold ofB; rw [if_neg (by rw [HK.out]; decide)]
  · rw [hk] at hik
    have HK := hidm hk
    have HR : Hid (∀ v ∈ vs, v.right = true) := hidm (by
      have h2 := hk
      unfold isK at h2
      rw [Bool.and_eq_true] at h2
      exact fun v hv => List.all_eq_true.1 h2.2 v hv)
    have hn8 : n ≤ 8 := by
      have h2 := hk
      unfold isK at h2
      rw [Bool.and_eq_true] at h2
      have := of_decide_eq_true h2.1
      have := HN.out
      omega
    clear hk hn'
    go_enter Tryd.func16, Tryd.ntmps16
    go_wp2_with fail
    refine hik.mono ?_
    rintro e w1 ⟨rfl, hb1⟩
    have HB1 := hidm hb1
    have HM1 := hidm (HML.out.later hb1)
    have S0 := hidm (St.start (buf_new w1))
    clear hb1 hik
    go_wp2_with fail
    go_loopw [13] (fun ii wr => ∃ i : Nat, ii = .int .i64 i ∧ i ≤ n ∧ Hid (St w1.heap.size none ((vs.take i).flatMap one) (w1.alloc (.cells #[.slice none 0 0] 55)) wr)) (fun ii _ => (n - (intOf ii).toNat))
    case atStart => exact ⟨0, rfl, by omega, S0⟩
    case round =>
      obtain ⟨i, rfl, hi, SR⟩ := hrel
      have HAp : Hid (Below w1.heap.size w1 wr) := by
        obtain ⟨_, _, _, ha⟩ := SR.out
        exact hidm (((Below.refl _ _).alloc (Nat.le_refl _) _).trans (ha.below (Nat.le_refl _) (fun k hk => by cases hk) (by simp)))
      have HBr : Hid (Below w.heap.size w wr) := hidm (HB1.out.trans (HAp.out.mono HB1.out.size))
      rcases Nat.eq_or_lt_of_le hi with hie | hie
      · have f1 : ¬ (i : Int) < n := by omega
        have HE := hidm hie
        have hpl : Hid ((vs.take i).flatMap one = vs.flatMap one) := hidm (by rw [HE.out, HN.out, List.take_length])
        have hlen : ((vs.take i).flatMap one).length ≤ 999999999 := by rw [hpl.out]; have := pre_len vs HR.out; have := HN.out; omega
        have P1 := put1 SR.out wr.heap.size rfl 0 0 rfl hlen
        clear hie hlen
        go_wp2_with fail
        refine P1.mono ?_
        rintro e w3 ⟨rfl, hs3⟩
        have HA3 : Hid (Below w1.heap.size w1 w3) := by
          obtain ⟨_, _, _, ha⟩ := hs3
          exact hidm (((Below.refl _ _).alloc (Nat.le_refl _) _).trans (ha.below (Nat.le_refl _) (fun k hk => by cases hk) (by simp)))
        obtain ⟨o3, ⟨v3, hb3, hown3, ho3⟩, _, _⟩ := hs3
        have hv := str_of_own hown3 rfl (by simp)
        obtain ⟨g3, cap3, rfl, _, _⟩ := hown3.form (by simp)
        obtain ⟨c3, z3⟩ := one_of_block hb3
        have HO := hidm hown3
        obtain ⟨N, hN⟩ : ∃ N, N = (((vs.take i).flatMap one) ++ [0]).length := ⟨_, rfl⟩
        rw [← hN] at c3 hv
        clear hN hown3 hb3 ho3 P1
        go_wp2_with fail
        go_ret
        refine ⟨congrArg (fun q => Ending.returned (.string q)) ?_, HB1.out.trans (HA3.out.mono HB1.out.size)⟩
        rw [HFF.out]; unfold ofB body; rw [if_pos HK.out, hpl.out]
      · have f1 : (i : Int) < n := by omega
        have hiv : i < vs.length := by have := HN.out; omega
        obtain ⟨b, off, cap', he, hbl, q0, q1, q2, q3⟩ := (HRow.out.later HBr.out).at i hiv
        simp only [Value.slice.injEq, true_and] at he
        obtain ⟨rfl, rfl⟩ := he
        obtain ⟨v, hv⟩ : ∃ v, v = vs[i] := ⟨_, rfl⟩
        rw [← hv] at q0 q1 q2 q3
        have hvm : v ∈ vs := by rw [hv]; exact List.getElem_mem hiv
        have HVV := hidm hv
        have HVM := hidm hvm
        have hlen : ((vs.take i).flatMap one).length ≤ 100000000 := by
          have := pre_len (vs.take i) (fun x hx => HR.out x (List.mem_of_mem_take hx))
          have h2 : (vs.take i).length ≤ i := by simp; omega
          omega
        obtain ⟨o', hb', hnw, hap⟩ := SR.out
        have HNW := hidm hnw
        have HAP := hidm hap
        have hwr := write_any v (HR.out v hvm) (HI.out v hvm) w1.heap.size o' _ (wr.alloc (.cells #[.int .i64 v.k, .int .i64 v.n, .int .u64 v.b, .string (S v.s)] 25)) (hb'.later ((Below.refl _ _).alloc (Nat.le_refl _) _)) hlen ((HM1.out.later HAp.out).later ((Below.refl _ _).alloc (Nat.le_refl _) _)) HM1.out.lt
        simp only [V.agg] at hwr
        clear hv hvm hlen hb' hnw hap
        go_wp2_with fail
        refine hwr.mono ?_
        rintro e w3 ⟨rfl, hs3⟩
        have S3 : Hid (St w1.heap.size none ((vs.take (i + 1)).flatMap one) (w1.alloc (.cells #[.slice none 0 0] 55)) w3) := hidm (by
          rw [List.take_succ_eq_append_getElem hiv, List.flatMap_append, ← HVV.out]
          simp only [List.flatMap_cons, List.flatMap_nil, List.append_nil]
          exact St.more HNW.out HAP.out (hs3.back _))
        clear hs3 hwr
        go_wp2_with fail
        go_roundw
        case rel => exact ⟨i + 1, by go_num, by omega, S3⟩
        case measure => simp [intOf]; omega
end Ky
end Go.Proofs.YtppdebhcaodcnaaDoor
