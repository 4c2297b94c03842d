/- A light transaction that is right has a body of at most 100000 bytes. Condition: as each theorem says. -/
import Derived.Test.YtopmbhpjdmcabaaGn
namespace Go.Proofs.Ytopmbhpjdmcabaa
open Go.RowKit
namespace Frm
open Cod Sch
theorem v_len (v : V) (hw : v.wf) : v.bytes.length ≤ 11 + v.s.length := by
  unfold V.bytes
  split
  · rename_i hr
    have t1 := uB_ten v.s.length (by have := hw.s; omega)
    have t2 : (iB v.n).length ≤ 10 := uB_ten _ (zig_lt hw.n0 hw.n1)
    have t3 : (eB v.b).length = 8 := eTo_len _ _
    unfold V.rest tB
    split
    · simp; omega
    split
    · simp; omega
    split
    · simp; omega
    split
    · simp only [List.length_cons, List.length_append]; omega
    · simp; omega
  · simp
theorem flat_v (l : List V) (hw : ∀ v ∈ l, v.wf) : (l.flatMap V.bytes).length ≤ 11 * l.length + (l.map (fun v => v.s.length)).sum := by
  induction l with
  | nil => simp
  | cons a l ih =>
    have h1 := ih fun v hv => hw v (List.mem_cons_of_mem _ hv)
    have h2 := v_len a (hw a (List.mem_cons_self ..))
    simp only [List.flatMap_cons, List.length_append, List.length_cons, List.map_cons, List.sum_cons]
    omega
theorem rows_len (r : List V) (hw : ∀ v ∈ r, v.wf) (hn : r.length ≤ 300) : (rB r).length ≤ 10 + 11 * r.length + rs r 300 := by
  unfold rB rTo rs
  rw [List.take_of_length_le hn]
  split
  · have h1 := flat_v r hw
    have h2 := uB_ten r.length (by omega)
    rw [List.take_length, List.length_append]; omega
  · simp
theorem flat_c (l : List C) (h : ∀ c ∈ l, (colB c).length ≤ 30 + c.nm.length) : (l.flatMap colB).length ≤ 30 * l.length + (l.map (fun c => c.nm.length)).sum := by
  induction l with
  | nil => simp
  | cons a l ih =>
    have h1 := ih fun v hv => h v (List.mem_cons_of_mem _ hv)
    have h2 := h a (List.mem_cons_self ..)
    simp only [List.flatMap_cons, List.length_append, List.length_cons, List.map_cons, List.sum_cons]
    omega
theorem schema_len2 {s : T} (h : rightB s = true) : (bodyB s).length ≤ 510 + s.nm.length + ns s.cols 300 := by
  obtain ⟨hn, hc, k1, k8, _⟩ := head_parts (right_head h)
  have hcol : ∀ c ∈ s.cols, (colB c).length ≤ 30 + c.nm.length := fun c hc => by
    obtain ⟨h1, h2, h3⟩ := col_parts (right_mem h hc)
    have hn := name_len h1
    have e1 := uB_ten c.nm.length (by omega)
    have e2 := uB_ten c.k.toNat (by omega)
    have e3 := uB_ten (bitB c) (by unfold bitB; split <;> omega)
    unfold colB tB
    simp only [List.length_append]
    omega
  have h0 := flat_c s.cols hcol
  have e1 := uB_ten s.nm.length (by have := name_len hn; omega)
  have e2 := uB_ten s.keys.toNat (by omega)
  have e3 := uB_ten s.cols.length (by omega)
  have := name_len hn
  unfold bodyB tB ns
  rw [List.take_of_length_le (show s.cols.length ≤ 300 by omega)]
  simp only [List.length_append]
  omega
theorem ch_len2 {c : Ch} (h : chB c = true) (hw : c.wf) : (chBy c).length ≤ wt c + 530 := by
  have h0 := ch_op h
  have e9 := uB_ten c.op.toNat (by omega)
  have hb : (backB c).length ≤ wt c + 520 := by
    unfold backB wt fs
    rcases ch_cases h with ⟨h1, h2⟩ | ⟨h1, h2⟩
    · obtain ⟨hn, r1, r2, hr, a0, az, z1, _⟩ := row_parts h2
      rw [if_neg (by omega)]
      have e1 := uB_ten c.tb.length (by have := name_len hn; omega)
      have e2 := rows_len c.row hw.row (by omega)
      have e3 := uB_ten c.a.toNat (by omega)
      have e4 := uB_ten c.z.toNat (by omega)
      unfold tB
      simp only [List.length_append]
      omega
    · rw [if_pos h1]
      have e1 := schema_len2 (tab_parts h2).1
      have e2 := uB_ten (bodyB c.df).length (by have := schema_len (tab_parts h2).1; omega)
      unfold tB
      simp only [List.length_append]
      omega
  unfold chBy
  simp only [List.length_append]
  omega
theorem lit_len {x : X} (hl : litB x.l = true) (ht : txB x.tx = true) (hw : x.tx.wf) : (bodyT x.tx).length ≤ 100000 := by
  obtain ⟨s1, s2, t1, t2, hn, hc⟩ := tx_parts ht
  have hln : x.tx.chs.length = x.l.length := by unfold X.tx; simp
  have key : ∀ i, i ≤ x.l.length → (preT x.tx i).length ≤ 30 + i * 530 + ws x.l i := by
    intro i
    induction i with
    | zero =>
      intro _
      have e1 := uB_ten x.tx.seq.toNat (by omega)
      have e2 := uB_ten x.tx.tm.toNat (by omega)
      have e3 := uB_ten x.tx.chs.length (by omega)
      unfold preT
      simp only [List.length_append, List.take_zero, List.flatMap_nil, List.length_nil]
      omega
    | succ i ih =>
      intro hi
      have h1 := ih (by omega)
      have hii : i < x.tx.chs.length := by omega
      have hcc : x.tx.chs[i] = (x.l[i]'(by omega)).c := by simp [X.tx]
      have h2 := ch_len2 (hc _ (List.getElem_mem hii)) (hw _ (List.getElem_mem hii))
      rw [preT_succ hii, List.length_append, ws_succ (by omega)]
      rw [hcc] at h2 ⊢
      omega
  have h := key x.l.length (Nat.le_refl _)
  unfold litB at hl
  simp only [Bool.and_eq_true, decide_eq_true_eq] at hl
  unfold bodyT
  rw [hln]
  omega
theorem lit_none {x : X} (hl : litB x.l = true) (hi : InnX x) (he : encT x.tx = []) : txB x.tx = false := by
  cases ht : txB x.tx with
  | false => rfl
  | true =>
    have h1 := enc_nil he
    have h2 := lit_len hl ht ((lit_x hl hi).wf ht)
    unfold bodyR at h1
    rw [if_pos ht, if_pos h2] at h1
    exact absurd h1 (bodyT_ne _)
end Frm
end Go.Proofs.Ytopmbhpjdmcabaa
