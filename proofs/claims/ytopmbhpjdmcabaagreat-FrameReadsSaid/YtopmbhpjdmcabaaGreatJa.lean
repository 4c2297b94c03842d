/- Columns, schemas, what is right: plain functions and lemmas, of no program. No condition. -/
import Derived.Test.YtopmbhpjdmcabaaGreatCod
namespace Go.Proofs.YtopmbhpjdmcabaaGreat
namespace Sch
/-- A column, and a schema. -/
structure C where
  nm : List UInt8
  k : Int
  nd : Bool
deriving DecidableEq
structure T where
  nm : List UInt8
  cols : List C
  keys : Int
deriving DecidableEq
def ltr (c : UInt8) : Bool := decide (97 ≤ c.toNat) && decide (c.toNat ≤ 122) || c.toNat == 95
def dgt (c : UInt8) : Bool := decide (48 ≤ c.toNat) && decide (c.toNat ≤ 57)
def nmAt (l : List UInt8) (i : Nat) : Bool := match l[i]? with
  | none => true
  | some c => ltr c || (i != 0 && dgt c)
def nameB (l : List UInt8) : Bool := (List.range l.length).all (nmAt l) && (decide (1 ≤ l.length) && decide (l.length ≤ 32))
theorem name_no {l : List UInt8} {i : Nat} (hi : i < l.length) (h : nmAt l i = false) : nameB l = false := by
  unfold nameB
  rw [Bool.and_eq_false_iff]
  left
  rw [List.all_eq_false]
  exact ⟨i, List.mem_range.2 hi, by simp [h]⟩
theorem name_end {l : List UInt8} (h : ∀ j, j < l.length → nmAt l j = true) : nameB l = (decide (1 ≤ l.length) && decide (l.length ≤ 32)) := by
  unfold nameB
  have : (List.range l.length).all (nmAt l) = true := by
    rw [List.all_eq_true]; intro x hx; exact h x (List.mem_range.1 hx)
  rw [this, Bool.true_and]
theorem nmAt_at {l : List UInt8} {i : Nat} (hi : i < l.length) : nmAt l i = (ltr l[i] || (i != 0 && dgt l[i])) := by
  unfold nmAt; rw [List.getElem?_eq_getElem hi]
theorem name_len {l : List UInt8} (h : nameB l = true) : l.length ≤ 32 := by
  unfold nameB at h; simp only [Bool.and_eq_true, decide_eq_true_eq] at h; exact h.2.2
theorem name_pos {l : List UInt8} (h : nameB l = true) : 1 ≤ l.length := by
  unfold nameB at h; simp only [Bool.and_eq_true, decide_eq_true_eq] at h; exact h.2.1
def colIs (c : C) : Bool := nameB c.nm && (decide (1 ≤ c.k) && decide (c.k ≤ 5))
def hasB (l : List C) (n : List UInt8) : Bool := l.any (fun d => decide (d.nm = n))
def colAt (s : T) (i : Nat) : Bool := match s.cols[i]? with
  | none => true
  | some c => colIs c && (!hasB (s.cols.take i) c.nm && (decide (s.keys ≤ (i : Int)) || c.nd))
def headB (s : T) : Bool := nameB s.nm && (decide (s.cols.length ≤ 16) && (decide (1 ≤ s.keys) && (decide (s.keys ≤ 8) && decide (s.keys ≤ (s.cols.length : Int)))))
def rightB (s : T) : Bool := headB s && (List.range s.cols.length).all (colAt s)
theorem right_no_head {s : T} (h : headB s = false) : rightB s = false := by unfold rightB; rw [h]; rfl
theorem right_no {s : T} {i : Nat} (hi : i < s.cols.length) (h : colAt s i = false) : rightB s = false := by
  unfold rightB
  rw [Bool.and_eq_false_iff]
  right
  rw [List.all_eq_false]
  exact ⟨i, List.mem_range.2 hi, by simp [h]⟩
theorem right_yes {s : T} (hh : headB s = true) (h : ∀ j, j < s.cols.length → colAt s j = true) : rightB s = true := by
  unfold rightB
  have : (List.range s.cols.length).all (colAt s) = true := by
    rw [List.all_eq_true]; intro x hx; exact h x (List.mem_range.1 hx)
  rw [hh, this]; rfl
theorem colAt_at {s : T} {i : Nat} (hi : i < s.cols.length) : colAt s i = (colIs s.cols[i] && (!hasB (s.cols.take i) s.cols[i].nm && (decide (s.keys ≤ (i : Int)) || s.cols[i].nd))) := by
  unfold colAt; rw [List.getElem?_eq_getElem hi]
theorem right_head {s : T} (h : rightB s = true) : headB s = true := by
  unfold rightB at h; rw [Bool.and_eq_true] at h; exact h.1
theorem right_cols {s : T} (h : rightB s = true) {i : Nat} (hi : i < s.cols.length) : colAt s i = true := by
  unfold rightB at h; rw [Bool.and_eq_true, List.all_eq_true] at h; exact h.2 i (List.mem_range.2 hi)
theorem head_parts {s : T} (h : headB s = true) : nameB s.nm = true ∧ s.cols.length ≤ 16 ∧ 1 ≤ s.keys ∧ s.keys ≤ 8 ∧ s.keys ≤ (s.cols.length : Int) := by
  unfold headB at h; simp only [Bool.and_eq_true, decide_eq_true_eq] at h; exact h
theorem col_parts {c : C} (h : colIs c = true) : nameB c.nm = true ∧ 1 ≤ c.k ∧ c.k ≤ 5 := by
  unfold colIs at h; simp only [Bool.and_eq_true, decide_eq_true_eq] at h; exact h
theorem right_col {s : T} (h : rightB s = true) {i : Nat} (hi : i < s.cols.length) : colIs s.cols[i] = true ∧ hasB (s.cols.take i) s.cols[i].nm = false ∧ ((i : Int) < s.keys → s.cols[i].nd = true) := by
  have h1 := right_cols h hi
  rw [colAt_at hi] at h1
  simp only [Bool.and_eq_true, Bool.not_eq_true', Bool.or_eq_true, decide_eq_true_eq] at h1
  refine ⟨h1.1, h1.2.1, fun hk => ?_⟩
  rcases h1.2.2 with h2 | h2
  · omega
  · exact h2
theorem right_mem {s : T} (h : rightB s = true) {c : C} (hc : c ∈ s.cols) : colIs c = true := by
  obtain ⟨i, hi, rfl⟩ := List.getElem_of_mem hc
  exact (right_col h hi).1
/-! bytes -/
def bitB (c : C) : Nat := if c.nd then 1 else 0
def colB (c : C) : List UInt8 := Cod.tB c.nm ++ (Cod.uB c.k.toNat ++ Cod.uB (bitB c))
def bodyB (s : T) : List UInt8 := Cod.tB s.nm ++ (Cod.uB s.keys.toNat ++ (Cod.uB s.cols.length ++ s.cols.flatMap colB))
def encB (s : T) : List UInt8 := if rightB s then bodyB s else []
theorem uB_ne (n : Nat) : Cod.uB n ≠ [] := by
  intro h; have := Cod.uB_pos n; rw [h] at this; cases this
theorem body_ne (s : T) : bodyB s ≠ [] := by
  unfold bodyB Cod.tB
  intro h
  have := congrArg List.length h
  have h2 := Cod.uB_pos s.nm.length
  simp only [List.length_append, List.length_nil] at this; omega
/-- The answer to bytes: the right schema whose bytes they are, or none. -/
structure Ans (b : List UInt8) (o : Option T) : Prop where
  all : ∀ s, rightB s = true → bodyB s = b → o = some s
  some : ∀ s, o = some s → rightB s = true ∧ bodyB s = b
theorem Ans.one {b : List UInt8} {o o' : Option T} (h : Ans b o) (h' : Ans b o') : o = o' := by
  cases o with
  | none =>
    cases o' with
    | none => rfl
    | some s => have := h.all s (h'.some s rfl).1 (h'.some s rfl).2; cases this
  | some s => exact (h'.all s (h.some s rfl).1 (h.some s rfl).2).symm
/-! extends, same -/
def sameB (a b : T) : Bool := decide (a = b)
def extB (a b : T) : Bool := rightB a && (rightB b && (decide (a.cols.length ≤ b.cols.length) && (sameB a { b with cols := b.cols.take a.cols.length } && !(b.cols.drop a.cols.length).any (·.nd))))
end Sch
end Go.Proofs.YtopmbhpjdmcabaaGreat
