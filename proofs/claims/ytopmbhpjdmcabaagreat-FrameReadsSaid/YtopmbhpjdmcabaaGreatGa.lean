/- Changes, transactions, frames: what is right, their bytes: plain functions and lemmas, of no program. No condition. -/
import Derived.Test.YtopmbhpjdmcabaaGreatQp
import Derived.Test.YtopmbhpjdmcabaaGreatJa
import Derived.Test.YtopmbhpjdmcabaaGreatKr
namespace Go.Proofs.YtopmbhpjdmcabaaGreat
open Go.RowKit
namespace Frm
open Cod Sch
structure Ch where
  op : Int
  tb : List UInt8
  row : List V
  a : Int
  z : Int
  df : T
structure Tx where
  seq : Int
  tm : Int
  chs : List Ch
noncomputable instance : DecidableEq V := fun a b => Classical.propDecidable (a = b)
noncomputable instance : DecidableEq Ch := fun a b => Classical.propDecidable (a = b)
noncomputable instance : DecidableEq Tx := fun a b => Classical.propDecidable (a = b)
def zT : T := ⟨[], [], 0⟩
def rowOk (r : List V) (m : Nat) : Bool := decide (1 ≤ r.length) && (decide (r.length ≤ m) && r.all V.right)
def spanOk (a z : Int) : Bool := decide (0 ≤ a) && (decide (a < z) && decide (z ≤ 1099511627776))
def rowCh (c : Ch) (m : Nat) : Bool := nameB c.tb && (rowOk c.row m && (spanOk c.a c.z && sameB c.df zT))
def tabCh (c : Ch) : Bool := rightB c.df && (decide (c.tb = c.df.nm) && (decide (c.row.length = 0) && (decide (c.a = 0) && decide (c.z = 0))))
def chB (c : Ch) : Bool := if c.op = 1 then rowCh c 16 else if c.op = 2 then rowCh c 8 else if c.op = 3 then tabCh c else false
def headT (t : Tx) : Bool := decide (1 ≤ t.seq) && (decide (t.seq ≤ 1099511627776) && (decide (0 ≤ t.tm) && (decide (t.tm < 1099511627776) && decide (t.chs.length ≤ 100))))
def txB (t : Tx) : Bool := headT t && t.chs.all chB
def backB (c : Ch) : List UInt8 := if c.op = 3 then tB (bodyB c.df) else tB c.tb ++ (rB c.row ++ (uB c.a.toNat ++ uB c.z.toNat))
def chBy (c : Ch) : List UInt8 := uB c.op.toNat ++ backB c
def preT (t : Tx) (i : Nat) : List UInt8 := uB t.seq.toNat ++ (uB t.tm.toNat ++ (uB t.chs.length ++ (t.chs.take i).flatMap chBy))
def bodyT (t : Tx) : List UInt8 := preT t t.chs.length
def bodyR (t : Tx) : List UInt8 := if txB t = true then (if (bodyT t).length ≤ 100000 then bodyT t else []) else []
theorem row_parts {c : Ch} {m : Nat} (h : rowCh c m = true) : nameB c.tb = true ∧ 1 ≤ c.row.length ∧ c.row.length ≤ m ∧ (∀ v ∈ c.row, v.right = true) ∧ 0 ≤ c.a ∧ c.a < c.z ∧ c.z ≤ 1099511627776 ∧ c.df = zT := by
  unfold rowCh rowOk spanOk sameB at h
  simp only [Bool.and_eq_true, decide_eq_true_eq, List.all_eq_true] at h
  exact ⟨h.1, h.2.1.1, h.2.1.2.1, h.2.1.2.2, h.2.2.1.1, h.2.2.1.2.1, h.2.2.1.2.2, h.2.2.2⟩
theorem tab_parts {c : Ch} (h : tabCh c = true) : rightB c.df = true ∧ c.tb = c.df.nm ∧ c.row = [] ∧ c.a = 0 ∧ c.z = 0 := by
  unfold tabCh at h
  simp only [Bool.and_eq_true, decide_eq_true_eq] at h
  exact ⟨h.1, h.2.1, List.eq_nil_of_length_eq_zero h.2.2.1, h.2.2.2.1, h.2.2.2.2⟩
theorem ch_cases {c : Ch} (h : chB c = true) : ((c.op = 1 ∨ c.op = 2) ∧ rowCh c 16 = true) ∨ (c.op = 3 ∧ tabCh c = true) := by
  unfold chB at h
  split at h
  · rename_i h1; exact .inl ⟨.inl h1, h⟩
  · split at h
    · rename_i h2
      refine .inl ⟨.inr h2, ?_⟩
      unfold rowCh rowOk at h ⊢
      simp only [Bool.and_eq_true, decide_eq_true_eq] at h ⊢
      exact ⟨h.1, ⟨h.2.1.1, by omega, h.2.1.2.2⟩, h.2.2⟩
    · split at h
      · rename_i h3; exact .inr ⟨h3, h⟩
      · cases h
theorem ch_op {c : Ch} (h : chB c = true) : 1 ≤ c.op ∧ c.op ≤ 3 := by
  rcases ch_cases h with ⟨h1, _⟩ | ⟨h1, _⟩ <;> omega
theorem tx_parts {t : Tx} (h : txB t = true) : 1 ≤ t.seq ∧ t.seq ≤ 1099511627776 ∧ 0 ≤ t.tm ∧ t.tm < 1099511627776 ∧ t.chs.length ≤ 100 ∧ ∀ c ∈ t.chs, chB c = true := by
  unfold txB headT at h
  simp only [Bool.and_eq_true, decide_eq_true_eq, List.all_eq_true] at h
  exact ⟨h.1.1, h.1.2.1, h.1.2.2.1, h.1.2.2.2.1, h.1.2.2.2.2, h.2⟩
theorem preT_succ {t : Tx} {i : Nat} (hi : i < t.chs.length) : preT t (i + 1) = preT t i ++ chBy t.chs[i] := by
  unfold preT
  rw [List.take_succ_eq_append_getElem hi, List.flatMap_append]
  simp
theorem uB_pos' (n : Nat) : 1 ≤ (uB n).length := uB_pos n
theorem bodyT_ne (t : Tx) : bodyT t ≠ [] := by
  intro h
  have := congrArg List.length h
  have h2 := uB_pos t.seq.toNat
  unfold bodyT preT at this
  simp only [List.length_append, List.length_nil] at this
  omega
theorem bodyR_ok {t : Tx} (h : bodyR t ≠ []) : txB t = true ∧ (bodyT t).length ≤ 100000 ∧ bodyR t = bodyT t := by
  unfold bodyR at h ⊢
  split at h
  · rename_i h1
    split at h
    · rename_i h2; rw [if_pos h1, if_pos h2]; exact ⟨h1, h2, rfl⟩
    · exact absurd rfl h
  · exact absurd rfl h
theorem bodyR_len (t : Tx) : (bodyR t).length ≤ 100000 := by
  unfold bodyR
  split
  · split
    · assumption
    · simp
  · simp
/-- The fields that come in are within their ranges. -/
structure Ch.wf (c : Ch) : Prop where
  row : ∀ v ∈ c.row, v.wf
  tb : c.tb.length ≤ 281474976710656
  rn : c.row.length ≤ 1000000
def Tx.wf (t : Tx) : Prop := ∀ c ∈ t.chs, c.wf
theorem schema_len {s : T} (h : rightB s = true) : (bodyB s).length ≤ 1054 := by
  obtain ⟨hn, hc, k1, k8, _⟩ := head_parts (right_head h)
  have hcol : ∀ c ∈ s.cols, (colB c).length ≤ 62 := fun c hc => by
    obtain ⟨h1, h2, h3⟩ := col_parts (right_mem h hc)
    have hn := name_len h1
    have e1 := uB_ten c.nm.length (by omega)
    have e2 := uB_ten c.k.toNat (by omega)
    have e3 := uB_ten (bitB c) (by unfold bitB; split <;> omega)
    unfold colB tB
    simp only [List.length_append]
    omega
  have hl : ∀ l : List C, (∀ c ∈ l, (colB c).length ≤ 62) → (l.flatMap colB).length ≤ l.length * 62 := fun l => by
    induction l with
    | nil => intro _; simp
    | cons a l ih =>
      intro h
      have h1 := ih fun c hc => h c (List.mem_cons_of_mem _ hc)
      have h2 := h a (List.mem_cons_self ..)
      simp only [List.flatMap_cons, List.length_append, List.length_cons]
      omega
  have h0 := hl s.cols hcol
  have e1 := uB_ten s.nm.length (by have := name_len hn; omega)
  have e2 := uB_ten s.keys.toNat (by omega)
  have e3 := uB_ten s.cols.length (by omega)
  have := name_len hn
  unfold bodyB tB
  simp only [List.length_append]
  omega
theorem row_len {r : List V} (hw : ∀ v ∈ r, v.wf) (h : r.length ≤ 16) : (rB r).length ≤ 65800 := by
  unfold rB
  split
  · have := rTo_len r hw (by omega) r.length (Nat.le_refl _); omega
  · simp
theorem back_len {c : Ch} (h : chB c = true) (hw : c.wf) : (backB c).length ≤ 66000 := by
  unfold backB
  rcases ch_cases h with ⟨h1, h2⟩ | ⟨h1, h2⟩
  · obtain ⟨hn, r1, r2, hr, a0, az, z1, _⟩ := row_parts h2
    rw [if_neg (by omega)]
    have e0 := name_len hn
    have e1 := uB_ten c.tb.length (by omega)
    have e2 := row_len hw.row r2
    have e3 := uB_ten c.a.toNat (by omega)
    have e4 := uB_ten c.z.toNat (by omega)
    unfold tB
    simp only [List.length_append]
    omega
  · rw [if_pos h1]
    have e1 := schema_len (tab_parts h2).1
    have e2 := uB_ten (bodyB c.df).length (by omega)
    unfold tB
    simp only [List.length_append]
    omega
theorem ch_len {c : Ch} (h : chB c = true) (hw : c.wf) : (chBy c).length ≤ 66010 := by
  have := back_len h hw
  have h1 := ch_op h
  have e2 := uB_ten c.op.toNat (by omega)
  unfold chBy
  simp only [List.length_append]
  omega
theorem preT_len {t : Tx} (h : txB t = true) (hw : t.wf) : ∀ i, i ≤ t.chs.length → (preT t i).length ≤ 30 + i * 66010 := by
  obtain ⟨s1, s2, t1, t2, hn, hc⟩ := tx_parts h
  intro i
  induction i with
  | zero =>
    intro _
    have e1 := uB_ten t.seq.toNat (by omega)
    have e2 := uB_ten t.tm.toNat (by omega)
    have e3 := uB_ten t.chs.length (by omega)
    unfold preT
    simp only [List.length_append, List.take_zero, List.flatMap_nil, List.length_nil]
    omega
  | succ i ih =>
    intro hi
    have h1 := ih (by omega)
    have h2 := ch_len (hc _ (List.getElem_mem (show i < t.chs.length by omega))) (hw _ (List.getElem_mem _))
    rw [preT_succ (by omega), List.length_append]
    omega
/-! frames -/
def four4 (n : Nat) : List UInt8 := [UInt8.ofNat (n / 16777216), UInt8.ofNat (n / 65536), UInt8.ofNat (n / 256), UInt8.ofNat n]
def num4 (l : List UInt8) : Nat := l.foldl (fun n c => n * 256 + c.toNat) 0
theorem num4_four4 (n : Nat) (h : n < 4294967296) : num4 (four4 n) = n := by
  unfold num4 four4
  simp only [List.foldl_cons, List.foldl_nil, UInt8.toNat_ofNat']
  omega
def encT (t : Tx) : List UInt8 := if bodyR t = [] then [] else four4 (bodyR t).length ++ Crc.put (bodyR t)
/-- The first frame: its body, its length, an error. -/
def nextB (s : List UInt8) : List UInt8 × Nat × Int :=
  if s.length < 4 then ([], 0, 8)
  else if 100000 < num4 (s.take 4) then ([], 0, 19)
  else if s.length < num4 (s.take 4) + 8 then ([], 0, 8)
  else if Crc.good ((s.drop 4).take (num4 (s.take 4) + 4)) = true then (Crc.took ((s.drop 4).take (num4 (s.take 4) + 4)), num4 (s.take 4) + 8, 0)
  else ([], 0, 9)
theorem next_ok {s : List UInt8} (h : (nextB s).2.2 = 0) : ∃ n, n = num4 (s.take 4) ∧ n ≤ 100000 ∧ n + 8 ≤ s.length ∧ Crc.good ((s.drop 4).take (n + 4)) = true ∧ nextB s = (Crc.took ((s.drop 4).take (n + 4)), n + 8, 0) := by
  unfold nextB at h ⊢
  split at h
  · cases h
  · rename_i h1
    split at h
    · cases h
    · rename_i h2
      split at h
      · cases h
      · rename_i h3
        split at h
        · rename_i h4
          refine ⟨_, rfl, by omega, by omega, h4, ?_⟩
          rw [if_neg h1, if_neg h2, if_neg h3, if_pos h4]
        · cases h
theorem next_err {s : List UInt8} (h : (nextB s).2.2 ≠ 0) : (nextB s).1 = [] ∧ (nextB s).2.1 = 0 := by
  unfold nextB at h ⊢
  split
  · exact ⟨rfl, rfl⟩
  · split
    · exact ⟨rfl, rfl⟩
    · split
      · exact ⟨rfl, rfl⟩
      · split
        · rename_i h1 h2 h3 h4
          rw [if_neg h1, if_neg h2, if_neg h3, if_pos h4] at h
          exact absurd rfl h
        · exact ⟨rfl, rfl⟩
theorem next_len {s : List UInt8} (h : (nextB s).2.2 = 0) : (nextB s).2.1 = (nextB s).1.length + 8 ∧ (nextB s).2.1 ≤ s.length ∧ (s.drop 4).take ((nextB s).2.1 - 8) = (nextB s).1 ∧ (nextB s).1.length ≤ 100000 := by
  obtain ⟨n, hn, hm, hl, hg, he⟩ := next_ok h
  have hlen : ((s.drop 4).take (n + 4)).length = n + 4 := by rw [List.length_take, List.length_drop]; omega
  have htk := (Crc.took_zero hg).1
  rw [he]
  simp only
  refine ⟨by rw [htk, hlen]; omega, hl, ?_, by rw [htk, hlen]; omega⟩
  unfold Crc.took
  rw [if_pos hg, hlen, List.take_take]
  congr 1
  omega
/-- A frame, whatever stands behind it. -/
theorem next_frame {b X : List UInt8} (h : b.length ≤ 100000) : nextB (four4 b.length ++ Crc.put b ++ X) = (b, b.length + 8, 0) := by
  have e1 : (four4 b.length ++ Crc.put b ++ X).take 4 = four4 b.length := by
    rw [List.append_assoc, List.take_append_of_le_length (Nat.le_refl 4)]; rfl
  have e2 : (four4 b.length ++ Crc.put b ++ X).drop 4 = Crc.put b ++ X := by
    rw [List.append_assoc]; rfl
  have hl : (four4 b.length ++ Crc.put b ++ X).length = b.length + 8 + X.length := by
    simp only [List.length_append, Crc.put_len]; show 4 + _ + _ = _; omega
  have e3 : (Crc.put b ++ X).take (b.length + 4) = Crc.put b := by
    rw [List.take_append_of_le_length (by rw [Crc.put_len]; omega), List.take_of_length_le (by rw [Crc.put_len]; omega)]
  unfold nextB
  rw [e1, e2, num4_four4 _ (by omega), hl, e3, if_neg (by omega), if_neg (by omega), if_neg (by omega), if_pos (Crc.good_put b), Crc.took_put]
/-- All frames. -/
def splitN : Nat → List UInt8 → List (List UInt8) × Nat × Int
  | 0, _ => ([], 0, 0)
  | k + 1, s => if s = [] then ([], 0, 0) else if (nextB s).2.2 = 0 then ((nextB s).1 :: (splitN k (s.drop (nextB s).2.1)).1, (nextB s).2.1 + (splitN k (s.drop (nextB s).2.1)).2.1, (splitN k (s.drop (nextB s).2.1)).2.2) else ([], 0, (nextB s).2.2)
def splitB (s : List UInt8) : List (List UInt8) × Nat × Int := splitN s.length s
theorem splitN_eq : ∀ (k m : Nat) (s : List UInt8), s.length ≤ k → s.length ≤ m → splitN k s = splitN m s := by
  intro k
  induction k with
  | zero =>
    intro m s h _
    have := List.eq_nil_of_length_eq_zero (Nat.le_zero.1 h)
    subst this
    cases m <;> rfl
  | succ k ih =>
    intro m s h h2
    cases m with
    | zero =>
      have := List.eq_nil_of_length_eq_zero (Nat.le_zero.1 h2)
      subst this; rfl
    | succ m =>
      unfold splitN
      by_cases hs : s = []
      · rw [if_pos hs, if_pos hs]
      · rw [if_neg hs, if_neg hs]
        by_cases h0 : (nextB s).2.2 = 0
        · have hn := (next_len h0).1
          rw [if_pos h0, if_pos h0, ih m (s.drop (nextB s).2.1) (by rw [List.length_drop]; omega) (by rw [List.length_drop]; omega)]
        · rw [if_neg h0, if_neg h0]
theorem split_nil : splitB [] = ([], 0, 0) := rfl
theorem split_bad {s : List UInt8} (hs : s ≠ []) (h0 : (nextB s).2.2 ≠ 0) : splitB s = ([], 0, (nextB s).2.2) := by
  have hl : 0 < s.length := List.length_pos_iff.2 hs
  obtain ⟨k, hk⟩ : ∃ k, s.length = k + 1 := ⟨s.length - 1, by omega⟩
  unfold splitB
  rw [hk]
  unfold splitN
  rw [if_neg hs, if_neg h0]
theorem split_step {s : List UInt8} (h0 : (nextB s).2.2 = 0) : splitB s = ((nextB s).1 :: (splitB (s.drop (nextB s).2.1)).1, (nextB s).2.1 + (splitB (s.drop (nextB s).2.1)).2.1, (splitB (s.drop (nextB s).2.1)).2.2) := by
  have hn := (next_len h0)
  have hs : s ≠ [] := by intro e; subst e; simp at hn; omega
  have hl : 0 < s.length := List.length_pos_iff.2 hs
  obtain ⟨k, hk⟩ : ∃ k, s.length = k + 1 := ⟨s.length - 1, by omega⟩
  have e : splitN k (s.drop (nextB s).2.1) = splitB (s.drop (nextB s).2.1) := splitN_eq _ _ _ (by rw [List.length_drop]; omega) (Nat.le_refl _)
  rw [← e]
  unfold splitB
  rw [hk]
  conv => lhs; unfold splitN
  rw [if_neg hs, if_pos h0]
theorem split_le (k : Nat) : ∀ s : List UInt8, s.length ≤ k → (splitB s).2.1 ≤ s.length := by
  induction k with
  | zero =>
    intro s h
    have := List.eq_nil_of_length_eq_zero (Nat.le_zero.1 h)
    subst this; exact Nat.le_refl _
  | succ k ih =>
    intro s h
    by_cases hs : s = []
    · subst hs; exact Nat.le_refl _
    · by_cases h0 : (nextB s).2.2 = 0
      · have hn := next_len h0
        rw [split_step h0]
        have := ih (s.drop (nextB s).2.1) (by rw [List.length_drop]; omega)
        rw [List.length_drop] at this
        show (nextB s).2.1 + _ ≤ _
        omega
      · rw [split_bad hs h0]; exact Nat.zero_le _
/-- A frame ahead of others. -/
theorem split_frame {b X : List UInt8} (h : b.length ≤ 100000) : splitB (four4 b.length ++ Crc.put b ++ X) = (b :: (splitB X).1, b.length + 8 + (splitB X).2.1, (splitB X).2.2) := by
  have e := next_frame (X := X) h
  have e2 : (four4 b.length ++ Crc.put b ++ X).drop (b.length + 8) = X := by
    have hl : (four4 b.length ++ Crc.put b).length = b.length + 8 := by
      simp only [List.length_append, Crc.put_len]; show 4 + _ = _; omega
    rw [← hl, List.drop_left]
  rw [split_step (by rw [e]), e]
  simp only [e2]
end Frm
end Go.Proofs.YtopmbhpjdmcabaaGreat
