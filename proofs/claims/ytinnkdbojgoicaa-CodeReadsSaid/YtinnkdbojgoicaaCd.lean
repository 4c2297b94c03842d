/- code.Row. Conditions: the slice holds at most a million values, whose fields are within their kinds' ranges. -/
import Derived.Test.YtinnkdbojgoicaaCc
import Derived.Test.YtinnkdbojgoicaaBls
namespace Go.Proofs.Ytinnkdbojgoicaa
open Go.RowKit
namespace Cod
/-- The slice sl holds these values. -/
def RowAt (vs : List V) (sl : Value) (w : World) : Prop := ∃ ao cap, sl = .slice ao vs.length cap ∧ (vs ≠ [] → ∃ b off, ao = some ⟨b, off, none⟩ ∧ b < w.heap.size ∧ ∀ j, j < vs.length * 4 → w.cell? ⟨b, off + j, none⟩ = (flat vs)[j]?)
theorem flat_at (vs : List V) : ∀ (j : Nat) (h : j < vs.length) (f : Nat), f < 4 → (flat vs)[j * 4 + f]? = (vs[j]).cells[f]? := by
  induction vs with
  | nil => intro j h; cases h
  | cons v vs ih =>
    intro j h f hf
    have e : flat (v :: vs) = v.cells ++ flat vs := rfl
    have el : v.cells.length = 4 := rfl
    cases j with
    | zero => rw [e, List.getElem?_append_left (by rw [el]; omega)]; simp
    | succ j =>
      rw [e, List.getElem?_append_right (by rw [el]; omega), el, show (j + 1) * 4 + f - 4 = j * 4 + f by omega]
      exact ih j (by simpa using h) f hf
theorem RowAt.later {vs : List V} {sl : Value} {w w' : World} (h : RowAt vs sl w) (hb : Below w.heap.size w w') : RowAt vs sl w' := by
  obtain ⟨ao, cap, h1, h2⟩ := h
  refine ⟨ao, cap, h1, fun hne => ?_⟩
  obtain ⟨b, off, h3, h4, h5⟩ := h2 hne
  exact ⟨b, off, h3, Nat.lt_of_lt_of_le h4 hb.size, fun j hj => by rw [hb.cell (p := ⟨b, off + j, none⟩) h4]; exact h5 j hj⟩
theorem RowAt.of_owns {base n : Nat} {vs : List V} {sl : Value} {w : World} (h : w.ownsRow base 33 4 sl n (flat vs)) (hn : n = vs.length) : RowAt vs sl w := by
  subst hn
  obtain ⟨g, cap, rfl⟩ | ⟨hv, h0⟩ : (∃ g cap, sl = .slice (some ⟨g, 0, none⟩) vs.length cap) ∨ (sl = .slice none 0 0 ∧ vs.length = 0) := by
    rcases h.2 with h2 | ⟨g, cap, cur, hv, _⟩
    · exact .inr h2
    · exact .inl ⟨g, cap, hv⟩
  · refine ⟨_, cap, rfl, fun _ => ⟨g, 0, rfl, (h.lt g rfl).2, fun j hj => ?_⟩⟩
    rw [Nat.zero_add]
    exact h.cellAt j hj
  · refine ⟨none, 0, by rw [hv, h0], fun hne => ?_⟩
    exact absurd (List.eq_nil_of_length_eq_zero h0) hne
/-- The cells of the value that stands at place i. -/
theorem RowAt.at {vs : List V} {sl : Value} {w : World} (h : RowAt vs sl w) (i : Nat) (hi : i < vs.length) : ∃ b off cap, sl = .slice (some ⟨b, off, none⟩) vs.length cap ∧ b < w.heap.size ∧
    w.cell? ⟨b, off + i * 4, none⟩ = some (.int .i64 vs[i].k) ∧ w.cell? ⟨b, off + i * 4 + 1, none⟩ = some (.int .i64 vs[i].n) ∧ w.cell? ⟨b, off + i * 4 + 2, none⟩ = some (.int .u64 vs[i].b) ∧ w.cell? ⟨b, off + i * 4 + 3, none⟩ = some (.string (S vs[i].s)) := by
  obtain ⟨ao, cap, h1, h2⟩ := h
  obtain ⟨b, off, rfl, h4, h5⟩ := h2 (fun e => by rw [e] at hi; cases hi)
  refine ⟨b, off, cap, h1, h4, ?_, ?_, ?_, ?_⟩
  · have := h5 (i * 4 + 0) (by omega); rw [flat_at vs i hi 0 (by omega)] at this; exact this
  · have := h5 (i * 4 + 1) (by omega); rw [flat_at vs i hi 1 (by omega)] at this; exact this
  · have := h5 (i * 4 + 2) (by omega); rw [flat_at vs i hi 2 (by omega)] at this; exact this
  · have := h5 (i * 4 + 3) (by omega); rw [flat_at vs i hi 3 (by omega)] at this; exact this
/-- The bytes of the first i values. -/
def rTo (vs : List V) (i : Nat) : List UInt8 := uB vs.length ++ (vs.take i).flatMap V.bytes
def rB (vs : List V) : List UInt8 := if vs.all V.right = true then rTo vs vs.length else []
theorem rTo_succ (vs : List V) (i : Nat) (h : i < vs.length) : rTo vs (i + 1) = rTo vs i ++ vs[i].bytes := by
  unfold rTo; rw [List.take_succ_eq_append_getElem h, List.flatMap_append, ← List.append_assoc]; simp
theorem bytes_len (v : V) (hw : v.wf) : v.bytes.length ≤ 4107 := by
  unfold V.bytes
  split
  · rename_i hr
    have t0 := (right_kind hr).2.2
    have t1 := uB_ten v.s.length (by have := hw.s; omega)
    have t2 : (iB v.n).length ≤ 10 := uB_ten _ (zig_lt hw.n0 hw.n1)
    have t3 : (eB v.b).length = 8 := eTo_len _ _
    unfold V.rest tB
    split
    · simp
    split
    · simp; omega
    split
    · simp; omega
    split
    · rename_i h5; have := t0 h5; simp only [List.length_cons, List.length_append]; omega
    · simp
  · simp
theorem rTo_len (vs : List V) (hw : ∀ v ∈ vs, v.wf) (hn : vs.length ≤ 1000000) : ∀ i, i ≤ vs.length → (rTo vs i).length ≤ 10 + i * 4107 := by
  intro i
  induction i with
  | zero => intro _; unfold rTo; simp; exact uB_ten _ (by omega)
  | succ i ih =>
    intro hi
    have h1 := ih (by omega)
    have h2 := bytes_len vs[i] (hw _ (List.getElem_mem (by omega)))
    rw [rTo_succ vs i (by omega), List.length_append]; omega
set_option maxHeartbeats 4000000 in
set_option maxRecDepth 100000 in
theorem row_any (vs : List V) (sl : Value) (hw : ∀ v ∈ vs, v.wf) (hn : vs.length ≤ 1000000) (w : World) (h : RowAt vs sl w) :
    Calls Try.prog 40 #[sl] w fun e w' => e = .returned (.string (S (rB vs))) ∧ Below w.heap.size w w' := by
  obtain ⟨ao, cap, rfl, hrow⟩ := h
  have HRow : Hid (RowAt vs (.slice ao vs.length cap) w) := hidm ⟨ao, cap, rfl, hrow⟩
  clear hrow
  have HW := hidm hw
  obtain ⟨n, hnn⟩ : ∃ n, n = vs.length := ⟨_, rfl⟩
  have HF := hidm (Bld.fresh w)
  have HB := hidm ((Below.refl w.heap.size w).alloc (Nat.le_refl _) (.cells #[.pointer none, .slice none 0 0] 81))
  obtain ⟨F, hF⟩ : ∃ F, F = S (rB vs) := ⟨_, rfl⟩
  rw [← hF, ← hnn]
  have HFF := hidm hF
  have HN := hidm hnn
  have hn' : n ≤ 1000000 := by omega
  clear hF hnn hw
  go_enter Try.func40, Try.ntmps40
  go_wp2_with fail
  refine (uint_any n (by omega) _).mono ?_
  rintro e w1 ⟨rfl, hb1⟩
  have HF1 := hidm (HF.out.below hb1)
  have HB1 := hidm (HB.out.trans (hb1.mono HB.out.size))
  clear hb1
  go_wp2_with fail
  refine (Bld.writeString _ _ [] _ _ HF1.out (by rw [S_size]; have := uB_ten n (by omega); simp; omega) HB1.out.size).mono ?_
  rintro e w2 ⟨rfl, hf2, hb2⟩
  have HF2 : Hid (Bld.Is w.heap.size w.heap.size (rTo vs 0) w2) := by
    refine hidm ?_
    have e0 : rTo vs 0 = [] ++ (S (uB n)).data.toList := by unfold rTo; rw [HN.out]; simp
    rw [e0]; exact hf2
  have HB2 := hidm (HB1.out.trans hb2)
  clear hf2 hb2
  go_wp2_with fail
  go_loopw [14] (fun ii wr => ∃ i : Nat, ii = .int .i64 i ∧ i ≤ n ∧ Hid ((vs.take i).all V.right = true) ∧ Hid (Bld.Is w.heap.size w.heap.size (rTo vs i) wr) ∧ Hid (Below w.heap.size w wr)) (fun ii _ => (n - (intOf ii).toNat))
  case atStart => exact ⟨0, rfl, by omega, hidm (by simp), HF2, HB2⟩
  case round =>
    obtain ⟨i, rfl, hi, HA, HFr, HBr⟩ := hrel
    rcases Nat.eq_or_lt_of_le hi with hie | hie
    · have f1 : ¬ (i : Int) < n := by omega
      have HE := hidm hie
      clear hie
      go_wp2_with fail
      refine (Bld.string_any _ _ _ _ HFr.out HBr.out.size).mono ?_
      rintro e w3 ⟨rfl, _, hb3⟩
      have HB3 := hidm (HBr.out.trans hb3)
      clear hb3
      go_wp2_with fail
      go_ret
      refine ⟨congrArg (fun q => Ending.returned (.string q)) ?_, HB3.out⟩
      rw [HFF.out]
      have h1 := HA.out
      rw [HE.out, HN.out, List.take_length] at h1
      unfold rB
      rw [if_pos h1, HE.out, HN.out]
    · have f1 : (i : Int) < n := by omega
      have hiv : i < vs.length := by have := HN.out; omega
      obtain ⟨b, off, cap', he, hbl, q0, q1, q2, q3⟩ := (HRow.out.later HBr.out).at i hiv
      simp only [Value.slice.injEq, true_and] at he
      obtain ⟨rfl, rfl⟩ := he
      obtain ⟨v, hv⟩ : ∃ v, v = vs[i] := ⟨_, rfl⟩
      rw [← hv] at q0 q1 q2 q3
      have hva := value_any v (by rw [hv]; exact HW.out _ (List.getElem_mem hiv)) (wr.alloc (.cells #[.int .i64 v.k, .int .i64 v.n, .int .u64 v.b, .string (S v.s)] 33))
      simp only [V.agg] at hva
      have HVV := hidm hv
      obtain ⟨t, ht⟩ : ∃ t, t = S v.bytes := ⟨_, rfl⟩
      rw [← ht] at hva
      have HT := hidm ht
      have hsz := HBr.out.size
      clear hv ht
      rcases hr : v.right with _ | _
      · have ht0 : t = ⟨#[]⟩ := by rw [HT.out]; unfold V.bytes; rw [hr]; rfl
        subst ht0
        go_wp2_with fail
        refine hva.mono ?_
        rintro e w3 ⟨rfl, hb3⟩
        have HB3 := hidm ((HBr.out.alloc hsz (.cells #[.int .i64 v.k, .int .i64 v.n, .int .u64 v.b, .string (S v.s)] 33)).trans (hb3.mono (by simp; omega)))
        clear hb3
        go_wp2_with fail
        go_ret
        refine ⟨congrArg (fun q => Ending.returned (.string q)) ?_, HB3.out⟩
        rw [HFF.out]
        unfold rB
        rw [if_neg]
        intro hall
        have := List.all_eq_true.1 hall v (by rw [HVV.out]; exact List.getElem_mem hiv)
        rw [hr] at this; cases this
      · have ht2 : t.size ≤ 4107 := by rw [HT.out, S_size]; exact bytes_len v (by rw [HVV.out]; exact HW.out _ (List.getElem_mem hiv))
        have ht1 : t.toList.isEmpty = false := by
          rw [HT.out, ByteArray.toList_eq, S_list]; unfold V.bytes; rw [if_pos hr]; rfl
        have HT2 := hidm ht2
        clear ht2
        go_wp2_with fail
        refine hva.mono ?_
        rintro e w3 ⟨rfl, hb3⟩
        have HB3 := hidm ((HBr.out.alloc hsz (.cells #[.int .i64 v.k, .int .i64 v.n, .int .u64 v.b, .string (S v.s)] 33)).trans (hb3.mono (by simp; omega)))
        have HF3 := hidm ((HFr.out.below ((Below.refl _ _).alloc (Nat.le_refl _) (.cells #[.int .i64 v.k, .int .i64 v.n, .int .u64 v.b, .string (S v.s)] 33))).below hb3)
        clear hb3
        go_wp2_with fail
        have hrl := rTo_len vs HW.out (by have := HN.out; omega) i (by omega)
        refine (Bld.writeString _ _ _ _ _ HF3.out (by have := HT2.out; omega) HB3.out.size).mono ?_
        rintro e w4 ⟨rfl, hf4, hb4⟩
        have HF4 : Hid (Bld.Is w.heap.size w.heap.size (rTo vs (i + 1)) w4) := by
          refine hidm ?_
          rw [rTo_succ vs i hiv, ← HVV.out]
          rw [HT.out, S_list] at hf4
          exact hf4
        have HB4 := hidm (HB3.out.trans hb4)
        have HA4 : Hid ((vs.take (i + 1)).all V.right = true) := by
          refine hidm ?_
          rw [List.take_succ_eq_append_getElem hiv, List.all_append, HA.out, ← HVV.out]
          simp [hr]
        clear hf4 hb4
        go_wp2_with fail
        go_roundw
        case rel => exact ⟨i + 1, by go_num, by omega, HA4, HF4, HB4⟩
        case measure => simp [intOf]; omega
end Cod
end Go.Proofs.Ytinnkdbojgoicaa
