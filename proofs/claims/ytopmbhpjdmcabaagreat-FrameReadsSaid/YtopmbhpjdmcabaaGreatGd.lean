/- Whether a change may be, whether a transaction is right: package frame's. Conditions: the names of at most sixteen columns, a table's name, are at most 2^48 bytes; there are at most a million columns and values. -/
import Derived.Test.YtopmbhpjdmcabaaGreatGb
import Derived.Test.YtopmbhpjdmcabaaGreatJh
import Derived.Test.YtopmbhpjdmcabaaGreatMa
namespace Go.Proofs.YtopmbhpjdmcabaaGreat
open Go.RowKit
namespace Frm
open Cod Sch
theorem any_take' {α : Type} {cs : List α} {p : α → Bool} {i : Nat} (hi : i < cs.length) : (cs.take (i + 1)).any p = ((cs.take i).any p || p cs[i]) := by
  rw [List.take_succ_eq_append_getElem hi, List.any_append]; simp
theorem any_at' {α : Type} {cs : List α} {p : α → Bool} {i : Nat} (hi : i < cs.length) (h : p cs[i] = true) : cs.any p = true := List.any_eq_true.2 ⟨_, List.getElem_mem hi, h⟩
theorem all_not_any {α : Type} (cs : List α) (p : α → Bool) : cs.all p = !cs.any (fun x => !p x) := by
  induction cs with
  | nil => rfl
  | cons a l ih => simp only [List.all_cons, List.any_cons, ih]; cases p a <;> rfl
/-- What is asked of a change's fields. -/
structure ChLim (c : Ch) : Prop where
  tb : c.tb.length ≤ 281474976710656
  nm : c.df.nm.length ≤ 281474976710656
  cn : c.df.cols.length ≤ 16 → ∀ d ∈ c.df.cols, d.nm.length ≤ 281474976710656
  n : c.df.cols.length ≤ 1000000
  rn : c.row.length ≤ 1000000
/-- The box, and what was made since. -/
def BoxM (x : M) (w wr : World) : Prop := Below (w.heap.size + 1) (w.alloc (.cells #[.int .i64 x.c.op, .string (S x.c.tb), .slice x.ro x.c.row.length x.rc, .int .i64 x.c.a, .int .i64 x.c.z, .string (S x.c.df.nm), .slice x.qo x.c.df.cols.length x.qc, .int .i64 x.c.df.keys] 32)) wr
section
variable {x : M} {w wr w' : World}
theorem BoxM.start (x : M) (w : World) : BoxM x w (w.alloc (.cells #[.int .i64 x.c.op, .string (S x.c.tb), .slice x.ro x.c.row.length x.rc, .int .i64 x.c.a, .int .i64 x.c.z, .string (S x.c.df.nm), .slice x.qo x.c.df.cols.length x.qc, .int .i64 x.c.df.keys] 32)) := Below.refl _ _
theorem BoxM.size (h : BoxM x w wr) : w.heap.size + 1 ≤ wr.heap.size := by
  have := Below.size h
  simpa using this
theorem BoxM.below (h : BoxM x w wr) : Below w.heap.size w wr :=
  ((Below.refl _ _).alloc (Nat.le_refl w.heap.size) _).trans (Below.mono h (by simp))
theorem BoxM.then (h : BoxM x w wr) (hb : Below wr.heap.size wr w') : BoxM x w w' := Below.trans h (hb.mono h.size)
theorem BoxM.above (h : BoxM x w wr) {B : Nat} (hb : Below B wr w') (hB : w.heap.size + 1 ≤ B) : BoxM x w w' := Below.trans h (hb.mono hB)
theorem BoxM.blk (h : BoxM x w wr) : wr.heap[w.heap.size]? = some (.cells #[.int .i64 x.c.op, .string (S x.c.tb), .slice x.ro x.c.row.length x.rc, .int .i64 x.c.a, .int .i64 x.c.z, .string (S x.c.df.nm), .slice x.qo x.c.df.cols.length x.qc, .int .i64 x.c.df.keys] 32 (0, 0)) := by
  rw [h.block _ (Nat.lt_succ_self _)]; exact heap_alloc_new _ _
theorem BoxM.c0 (h : BoxM x w wr) : wr.cell? ⟨w.heap.size, 0, none⟩ = some (.int .i64 x.c.op) := by
  rw [Below.cell h (p := ⟨w.heap.size, 0, none⟩) (Nat.lt_succ_self _)]; simp [go_sem]
theorem BoxM.c1 (h : BoxM x w wr) : wr.cell? ⟨w.heap.size, 1, none⟩ = some (.string (S x.c.tb)) := by
  rw [Below.cell h (p := ⟨w.heap.size, 1, none⟩) (Nat.lt_succ_self _)]; simp [go_sem]
theorem BoxM.c2 (h : BoxM x w wr) : wr.cell? ⟨w.heap.size, 2, none⟩ = some (.slice x.ro x.c.row.length x.rc) := by
  rw [Below.cell h (p := ⟨w.heap.size, 2, none⟩) (Nat.lt_succ_self _)]; simp [go_sem]
theorem BoxM.c3 (h : BoxM x w wr) : wr.cell? ⟨w.heap.size, 3, none⟩ = some (.int .i64 x.c.a) := by
  rw [Below.cell h (p := ⟨w.heap.size, 3, none⟩) (Nat.lt_succ_self _)]; simp [go_sem]
theorem BoxM.c4 (h : BoxM x w wr) : wr.cell? ⟨w.heap.size, 4, none⟩ = some (.int .i64 x.c.z) := by
  rw [Below.cell h (p := ⟨w.heap.size, 4, none⟩) (Nat.lt_succ_self _)]; simp [go_sem]
theorem BoxM.c5 (h : BoxM x w wr) : wr.cell? ⟨w.heap.size, 5, none⟩ = some (.string (S x.c.df.nm)) := by
  rw [Below.cell h (p := ⟨w.heap.size, 5, none⟩) (Nat.lt_succ_self _)]; simp [go_sem]
theorem BoxM.c6 (h : BoxM x w wr) : wr.cell? ⟨w.heap.size, 6, none⟩ = some (.slice x.qo x.c.df.cols.length x.qc) := by
  rw [Below.cell h (p := ⟨w.heap.size, 6, none⟩) (Nat.lt_succ_self _)]; simp [go_sem]
theorem BoxM.c7 (h : BoxM x w wr) : wr.cell? ⟨w.heap.size, 7, none⟩ = some (.int .i64 x.c.df.keys) := by
  rw [Below.cell h (p := ⟨w.heap.size, 7, none⟩) (Nat.lt_succ_self _)]; simp [go_sem]
end
/-- The box, and what was made since. -/
def BoxX (x : X) (w wr : World) : Prop := Below (w.heap.size + 1) (w.alloc (.cells #[.int .i64 x.seq, .int .i64 x.tm, .slice x.co x.l.length x.cc] 24)) wr
section
variable {x : X} {w wr w' : World}
theorem BoxX.start (x : X) (w : World) : BoxX x w (w.alloc (.cells #[.int .i64 x.seq, .int .i64 x.tm, .slice x.co x.l.length x.cc] 24)) := Below.refl _ _
theorem BoxX.size (h : BoxX x w wr) : w.heap.size + 1 ≤ wr.heap.size := by
  have := Below.size h
  simpa using this
theorem BoxX.below (h : BoxX x w wr) : Below w.heap.size w wr :=
  ((Below.refl _ _).alloc (Nat.le_refl w.heap.size) _).trans (Below.mono h (by simp))
theorem BoxX.then (h : BoxX x w wr) (hb : Below wr.heap.size wr w') : BoxX x w w' := Below.trans h (hb.mono h.size)
theorem BoxX.above (h : BoxX x w wr) {B : Nat} (hb : Below B wr w') (hB : w.heap.size + 1 ≤ B) : BoxX x w w' := Below.trans h (hb.mono hB)
theorem BoxX.blk (h : BoxX x w wr) : wr.heap[w.heap.size]? = some (.cells #[.int .i64 x.seq, .int .i64 x.tm, .slice x.co x.l.length x.cc] 24 (0, 0)) := by
  rw [h.block _ (Nat.lt_succ_self _)]; exact heap_alloc_new _ _
theorem BoxX.c0 (h : BoxX x w wr) : wr.cell? ⟨w.heap.size, 0, none⟩ = some (.int .i64 x.seq) := by
  rw [Below.cell h (p := ⟨w.heap.size, 0, none⟩) (Nat.lt_succ_self _)]; simp [go_sem]
theorem BoxX.c1 (h : BoxX x w wr) : wr.cell? ⟨w.heap.size, 1, none⟩ = some (.int .i64 x.tm) := by
  rw [Below.cell h (p := ⟨w.heap.size, 1, none⟩) (Nat.lt_succ_self _)]; simp [go_sem]
theorem BoxX.c2 (h : BoxX x w wr) : wr.cell? ⟨w.heap.size, 2, none⟩ = some (.slice x.co x.l.length x.cc) := by
  rw [Below.cell h (p := ⟨w.heap.size, 2, none⟩) (Nat.lt_succ_self _)]; simp [go_sem]
end
def eqS (a z a' z' : Int) : Bool := a == a' && z == z'
theorem run_eqS (a z a' z' : Int) (w : World) : (binOp .eql 27 (.agg #[.int .i64 a, .int .i64 z]) (.agg #[.int .i64 a', .int .i64 z'])).run Tryz.prog w = .ok (.bool (eqS a z a' z')) w := by
  unfold eqS
  by_cases ha : a = a' <;> by_cases hz : z = z' <;> go_simp
theorem run_neS (a z a' z' : Int) (w : World) : (binOp .neq 27 (.agg #[.int .i64 a, .int .i64 z]) (.agg #[.int .i64 a', .int .i64 z'])).run Tryz.prog w = .ok (.bool (!eqS a z a' z')) w := by
  unfold eqS
  by_cases ha : a = a' <;> by_cases hz : z = z' <;> go_simp
attribute [go_sem ↓] run_eqS run_neS
set_option maxHeartbeats 4000000 in
set_option maxRecDepth 100000 in
theorem right_over (s : T) (h16 : 16 < s.cols.length) (hnm : s.nm.length ≤ 281474976710656) (hcl : s.cols.length ≤ 1000000) (ao : Option Addr) (cap : Nat) (w : World) :
    Calls Tryz.prog 28 #[.agg #[.string (S s.nm), .slice ao s.cols.length cap, .int .i64 s.keys]] w fun e w' => e = .returned (.bool false) ∧ Below w.heap.size w w' := by
  have N := fun (b : Bool) (hb : nameB s.nm = b) (w : World) => name_is (s := S s.nm) (b := b) hb (by rw [S_size]; exact hnm) w
  obtain ⟨n, hn⟩ : ∃ n, n = s.cols.length := ⟨_, rfl⟩
  rw [← hn] at h16 hcl ⊢
  rcases hb : nameB s.nm with _ | _
  · have N1 := N false hb
    clear hn hb N
    go_enter Tryz.func28, Tryz.ntmps28
    go_wp2_with (go_at_call 55; refine (N1 _).mono ?_; rintro e w1 ⟨rfl, hb1⟩)
    have HB := hidm (((Below.refl _ _).alloc (Nat.le_refl w.heap.size) _).trans (hb1.mono (by simp)))
    clear hb1 N1
    go_wp2_with fail
    go_ret
    exact ⟨rfl, HB.out⟩
  · have N1 := N true hb
    clear hn hb N
    go_enter Tryz.func28, Tryz.ntmps28
    go_wp2_with (go_at_call 55; refine (N1 _).mono ?_; rintro e w1 ⟨rfl, hb1⟩; obtain ⟨hc1, hf1⟩ := Val.bcell hb1)
    go_ret
    exact ⟨rfl, ((Below.refl _ _).alloc (Nat.le_refl w.heap.size) _).trans (hb1.mono (by simp))⟩
theorem sright_is {s : T} {b : Bool} (hb : rightB s = b) (hnm : s.nm.length ≤ 281474976710656) (hcl : s.cols.length ≤ 1000000) (hcn : s.cols.length ≤ 16 → ∀ d ∈ s.cols, d.nm.length ≤ 281474976710656) (ao : Option Addr) (cap : Nat) (w : World) (h : ColsAt s.cols (.slice ao s.cols.length cap) w) :
    Calls Tryz.prog 28 #[.agg #[.string (S s.nm), .slice ao s.cols.length cap, .int .i64 s.keys]] w fun e w' => e = .returned (.bool b) ∧ Below w.heap.size w w' := by
  rcases Nat.lt_or_ge 16 s.cols.length with h16 | h16
  · have : b = false := by
      rw [← hb]
      refine right_no_head ?_
      unfold headB
      rw [decide_eq_false (show ¬ s.cols.length ≤ 16 by omega)]
      simp
    rw [this]
    exact right_over s h16 hnm hcl ao cap w
  · subst hb
    exact right_any s ⟨hnm, hcn h16, hcl⟩ _ w h
set_option maxHeartbeats 4000000 in
set_option maxRecDepth 100000 in
theorem notright_is {v : V} {b : Bool} (h : (!v.right) = b) (w : World) :
    Calls Tryz.prog 83 #[.agg #[.int .i64 v.k, .int .i64 v.n, .int .u64 v.b, .string (S v.s)]] w fun e w' => e = .returned (.bool b) ∧ Below w.heap.size w w' := by
  obtain ⟨c, hc⟩ : ∃ c, v.right = c := ⟨_, rfl⟩
  rw [hc] at h
  have HC := hidm hc
  have HH := hidm h
  clear hc h
  go_enter Tryz.func83, Tryz.ntmps83
  go_wp2_with fail
  refine (vright_is HC.out _).mono ?_
  rintro e w1 ⟨rfl, hb1⟩
  have HB := hidm (((Below.refl _ _).alloc (Nat.le_refl w.heap.size) _).trans (hb1.mono (by simp)))
  clear hb1
  go_wp2_with fail
  go_ret
  exact ⟨Val.ret_bool HH.out, HB.out⟩
set_option maxHeartbeats 4000000 in
set_option maxRecDepth 100000 in
theorem idx_bad (cs : List V) (sl : Value) (w : World) (h : RowC cs sl w) :
    Calls Tryz.prog 107 #[sl, .func (.func 83) #[] #[]] w fun e w' => IdxP (cs.any (fun v => !v.right)) w e w' := by
  obtain ⟨ao, cap, rfl, hcl, hcm⟩ : ∃ ao cap, sl = .slice ao cs.length cap ∧ cs.length ≤ cap ∧ cap ≤ 9223372036854775807 := (by obtain ⟨a, c, h1, h2, h3, _⟩ := h.2; exact ⟨a, c, h1, h2, h3⟩)
  have H := hidm h
  clear h
  obtain ⟨n, hn⟩ : ∃ n, n = cs.length := ⟨_, rfl⟩
  obtain ⟨F, hF⟩ : ∃ F, F = cs.any (fun v => !v.right) := ⟨_, rfl⟩
  rw [← hF]
  rw [← hn] at hcl ⊢
  have HN := hidm hn
  have HF := hidm hF
  clear hn hF
  go_enter Tryz.func107, Tryz.ntmps107
  go_wp2_with fail
  go_loopw [8] (fun v wr => ∃ i : Nat, i ≤ n ∧ v = .int .i64 i ∧ Hid (Below w.heap.size w wr) ∧ Hid ((cs.take i).any (fun v => !v.right) = false)) (fun v _ => n - (intOf v).toNat)
  case atStart => exact ⟨0, by omega, rfl, hidm (Below.refl _ _), hidm (by simp)⟩
  case round =>
    obtain ⟨i, hi, rfl, HB, HP⟩ := hrel
    rcases Nat.lt_or_ge i n with hlt | hge
    · have hia : i < cs.length := by have := HN.out; omega
      obtain ⟨b1, o1, c1, he1, _, q0, q1, q2, q3⟩ := (H.out.later HB.out).1.at i hia
      simp only [Value.slice.injEq] at he1
      obtain ⟨rfl, _, rfl⟩ := he1
      obtain ⟨x, hx⟩ : ∃ x, x = cs[i] := ⟨_, rfl⟩
      rw [← hx] at q0 q1 q2 q3
      have HX := hidm hx
      clear hx
      rcases hp : (fun v => !v.right) x with _ | _
      · have HP2 := hidm (show (cs.take (i + 1)).any (fun v => !v.right) = false from by rw [any_take' hia, HP.out, ← HX.out, Bool.false_or]; exact hp)
        have HC := hidm hp
        clear hp
        go_wp2_with fail
        refine (notright_is HC.out _).mono ?_
        rintro e w1 ⟨rfl, hb1⟩
        have HB2 := hidm (HB.out.trans (hb1.mono HB.out.size))
        clear hb1
        go_wp2_with fail
        go_roundw
        case rel => exact ⟨i + 1, by omega, by go_num, HB2, HP2⟩
        case measure => simp [intOf]; omega
      · have HFt := hidm (show F = true from by rw [HF.out]; exact any_at' hia (by rw [← HX.out]; exact hp))
        have HC := hidm hp
        clear hp
        go_wp2_with fail
        refine (notright_is HC.out _).mono ?_
        rintro e w1 ⟨rfl, hb1⟩
        have HB2 := hidm (HB.out.trans (hb1.mono HB.out.size))
        clear hb1
        go_wp2_with fail
        go_ret
        exact ⟨_, rfl, by rw [HFt.out]; simp, HB2.out⟩
    · obtain rfl : i = n := by omega
      have HFf := hidm (show F = false from by rw [HF.out]; have := HP.out; rwa [HN.out, List.take_length] at this)
      go_wp2_with fail
      go_ret
      exact ⟨_, rfl, by rw [HFf.out]; rfl, HB.out⟩
theorem some_bad (cs : List V) (sl : Value) (w : World) (h : RowC cs sl w) :
    Calls Tryz.prog 82 #[sl, .func (.func 83) #[] #[]] w fun e w' => e = .returned (.bool (cs.any (fun v => !v.right))) ∧ Below w.heap.size w w' := by
  have I := idx_bad cs sl  w h
  obtain ⟨F, hF⟩ : ∃ F, F = cs.any (fun v => !v.right) := ⟨_, rfl⟩
  rw [← hF] at I ⊢
  obtain ⟨ao, cap, rfl, _, _⟩ : ∃ ao cap, sl = .slice ao cs.length cap ∧ cs.length ≤ cap ∧ cap ≤ 9223372036854775807 := (by obtain ⟨a, c, h1, h2, h3, _⟩ := h.2; exact ⟨a, c, h1, h2, h3⟩)
  clear hF h
  go_enter Tryz.func82, Tryz.ntmps82
  go_wp2_with fail
  refine I.mono ?_
  rintro e w1 ⟨r, rfl, hr, hb⟩
  have HB := hidm hb
  have HR := hidm hr
  clear hb hr I
  go_wp2_with fail
  go_ret
  exact ⟨Val.ret_bool (by rw [← HR.out]), HB.out⟩
theorem some_bad_is {r : List V} {b : Bool} (hb : r.any (fun v => !v.right) = b) (sl : Value) (w : World) (h : RowC r sl w) :
    Calls Tryz.prog 82 #[sl, .func (.func 83) #[] #[]] w fun e w' => e = .returned (.bool b) ∧ Below w.heap.size w w' := hb ▸ some_bad r sl w h
set_option maxHeartbeats 4000000 in
set_option maxRecDepth 100000 in
theorem isrow_is {r : List V} {m : Nat} {b : Bool} (hb : rowOk r m = b) (ro : Option Addr) (rc : Nat) (hrn : r.length ≤ 1000000) (w : World) (h : RowC r (.slice ro r.length rc) w) :
    Calls Tryz.prog 56 #[.slice ro r.length rc, .int .i64 m] w fun e w' => e = .returned (.bool b) ∧ Below w.heap.size w w' := by
  obtain ⟨x, hx⟩ : ∃ x, r.any (fun v => !v.right) = x := ⟨_, rfl⟩
  have I := fun w' (hb : Below w.heap.size w w') => some_bad_is hx _ w' (h.later hb)
  have hall : r.all V.right = !x := by rw [all_not_any, hx]
  unfold rowOk at hb
  rw [hall] at hb
  clear hx hall h
  obtain ⟨n, hn⟩ : ∃ n, n = r.length := ⟨_, rfl⟩
  rw [← hn] at hb hrn I ⊢
  have II := hidm I
  clear I hn
  rcases Nat.lt_or_ge n 1 with h1 | h1
  · have hf : b = false := by rw [← hb, decide_eq_false (by omega)]; rfl
    subst hf
    clear hb
    go_enter Tryz.func56, Tryz.ntmps56
    go_wp2_with fail
    go_ret
    exact ⟨rfl, Below.refl _ _⟩
  · rcases Nat.lt_or_ge m n with h2 | h2
    · have hf : b = false := by rw [← hb, decide_eq_false (show ¬ n ≤ m by omega)]; simp
      subst hf
      clear hb
      go_enter Tryz.func56, Tryz.ntmps56
      go_wp2_with fail
      go_ret
      exact ⟨rfl, Below.refl _ _⟩
    · have hf : b = !x := by rw [← hb, decide_eq_true h1, decide_eq_true h2]; rfl
      subst hf
      clear hb
      go_enter Tryz.func56, Tryz.ntmps56
      go_wp2_with fail
      refine (II.out _ (Below.refl _ _)).mono ?_
      rintro e w1 ⟨rfl, hb1⟩
      have HB := hidm hb1
      clear hb1
      go_wp2_with fail
      go_ret
      exact ⟨rfl, HB.out⟩
theorem isvalid_any (a z : Int) (w : World) :
    Calls Tryz.prog 57 #[.agg #[.int .i64 a, .int .i64 z]] w fun e w' => e = .returned (.bool (spanOk a z)) ∧ Below w.heap.size w w' := by
  unfold spanOk
  go_enter Tryz.func57, Tryz.ntmps57
  go_wp2_with fail
  all_goals
    go_ret
    refine ⟨Val.ret_bool ?_, (Below.refl _ _).alloc (Nat.le_refl _) _⟩
    simp_all
    try omega
theorem isvalid_is {a z : Int} {b : Bool} (hb : spanOk a z = b) (w : World) :
    Calls Tryz.prog 57 #[.agg #[.int .i64 a, .int .i64 z]] w fun e w' => e = .returned (.bool b) ∧ Below w.heap.size w w' := hb ▸ isvalid_any a z w
theorem ssame_is {a b : T} {x : Bool} (hx : sameB a b = x) (sa sb : Value) (ha : a.cols.length ≤ 1000000) (hb : b.cols.length ≤ 1000000) (w : World) (h1 : ColsAt a.cols sa w) (h2 : ColsAt b.cols sb w) :
    Calls Tryz.prog 58 #[.agg #[.string (S a.nm), sa, .int .i64 a.keys], .agg #[.string (S b.nm), sb, .int .i64 b.keys]] w fun e w' => e = .returned (.bool x) ∧ Below w.heap.size w w' := hx ▸ same_any a b sa sb ha hb w h1 h2
set_option maxHeartbeats 4000000 in
set_option maxRecDepth 100000 in
theorem crow_is {x : M} {m : Nat} {b : Bool} (hb : rowCh x.c m = b) (hl : ChLim x.c) (w : World) (hin : x.In w) :
    Calls Tryz.prog 27 #[.agg #[.int .i64 x.c.op, .string (S x.c.tb), .slice x.ro x.c.row.length x.rc, .int .i64 x.c.a, .int .i64 x.c.z, .string (S x.c.df.nm), .slice x.qo x.c.df.cols.length x.qc, .int .i64 x.c.df.keys], .int .i64 m] w fun e w' => e = .returned (.bool b) ∧ Below w.heap.size w w' := by
  have HIN := hidm hin
  have HL := hidm hl
  have HS0 := hidm (BoxM.start x w)
  obtain ⟨p, hp⟩ : ∃ p, nameB x.c.tb = p := ⟨_, rfl⟩
  obtain ⟨q, hq⟩ : ∃ p, rowOk x.c.row m = p := ⟨_, rfl⟩
  obtain ⟨r, hr⟩ : ∃ p, spanOk x.c.a x.c.z = p := ⟨_, rfl⟩
  obtain ⟨s, hs⟩ : ∃ p, sameB x.c.df zT = p := ⟨_, rfl⟩
  unfold rowCh at hb
  rw [hp, hq, hr, hs] at hb
  have HP := hidm hp
  have HQ := hidm hq
  have HR := hidm hr
  have HS := hidm hs
  clear hp hq hr hs hin hl
  have N := hidm (fun w => name_is (s := S x.c.tb) (b := p) HP.out (by rw [S_size]; exact HL.out.tb) w)
  cases p
  · subst hb
    go_enter Tryz.func27, Tryz.ntmps27
    go_wp2_with fail
    refine (N.out _).mono ?_
    rintro e w1 ⟨rfl, hb1⟩
    have HS1 := hidm (HS0.out.then hb1)
    clear hb1
    go_wp2_with fail
    go_ret
    exact ⟨rfl, HS1.out.below⟩
  · cases q
    · subst hb
      go_enter Tryz.func27, Tryz.ntmps27
      go_wp2_with fail
      refine (N.out _).mono ?_
      rintro e w1 ⟨rfl, hb1⟩
      have HS1 := hidm (HS0.out.then hb1)
      clear hb1
      have c2 := HS1.out.c2
      go_wp2_with fail
      refine (isrow_is HQ.out _ _ HL.out.rn _ (HIN.out.r.later HS1.out.below)).mono ?_
      rintro e w2 ⟨rfl, hb1⟩
      have HS2 := hidm (HS1.out.then hb1)
      clear hb1 c2
      go_wp2_with fail
      go_ret
      exact ⟨rfl, HS2.out.below⟩
    · cases r
      · subst hb
        go_enter Tryz.func27, Tryz.ntmps27
        go_wp2_with fail
        refine (N.out _).mono ?_
        rintro e w1 ⟨rfl, hb1⟩
        have HS1 := hidm (HS0.out.then hb1)
        clear hb1
        have c2 := HS1.out.c2
        go_wp2_with fail
        refine (isrow_is HQ.out _ _ HL.out.rn _ (HIN.out.r.later HS1.out.below)).mono ?_
        rintro e w2 ⟨rfl, hb1⟩
        have HS2 := hidm (HS1.out.then hb1)
        clear hb1 c2
        have c3 := HS2.out.c3
        have c4 := HS2.out.c4
        go_wp2_with fail
        refine (isvalid_is HR.out _).mono ?_
        rintro e w3 ⟨rfl, hb1⟩
        have HS3 := hidm (HS2.out.then hb1)
        clear hb1 c3 c4
        go_wp2_with fail
        go_ret
        exact ⟨rfl, HS3.out.below⟩
      · cases s
        · subst hb
          go_enter Tryz.func27, Tryz.ntmps27
          go_wp2_with fail
          refine (N.out _).mono ?_
          rintro e w1 ⟨rfl, hb1⟩
          have HS1 := hidm (HS0.out.then hb1)
          clear hb1
          have c2 := HS1.out.c2
          go_wp2_with fail
          refine (isrow_is HQ.out _ _ HL.out.rn _ (HIN.out.r.later HS1.out.below)).mono ?_
          rintro e w2 ⟨rfl, hb1⟩
          have HS2 := hidm (HS1.out.then hb1)
          clear hb1 c2
          have c3 := HS2.out.c3
          have c4 := HS2.out.c4
          go_wp2_with fail
          refine (isvalid_is HR.out _).mono ?_
          rintro e w3 ⟨rfl, hb1⟩
          have HS3 := hidm (HS2.out.then hb1)
          clear hb1 c3 c4
          have c5 := HS3.out.c5
          have c6 := HS3.out.c6
          have c7 := HS3.out.c7
          go_wp2_with fail
          refine (ssame_is (b := zT) HS.out _ _ HL.out.n (by decide) _ (HIN.out.q.later HS3.out.below) (ColsAt.nil _)).mono ?_
          rintro e w4 ⟨rfl, hb1⟩
          have HS4 := hidm (HS3.out.then hb1)
          clear hb1 c5 c6 c7
          go_wp2_with fail
          go_ret
          exact ⟨rfl, HS4.out.below⟩
        · subst hb
          go_enter Tryz.func27, Tryz.ntmps27
          go_wp2_with fail
          refine (N.out _).mono ?_
          rintro e w1 ⟨rfl, hb1⟩
          have HS1 := hidm (HS0.out.then hb1)
          clear hb1
          have c2 := HS1.out.c2
          go_wp2_with fail
          refine (isrow_is HQ.out _ _ HL.out.rn _ (HIN.out.r.later HS1.out.below)).mono ?_
          rintro e w2 ⟨rfl, hb1⟩
          have HS2 := hidm (HS1.out.then hb1)
          clear hb1 c2
          have c3 := HS2.out.c3
          have c4 := HS2.out.c4
          go_wp2_with fail
          refine (isvalid_is HR.out _).mono ?_
          rintro e w3 ⟨rfl, hb1⟩
          have HS3 := hidm (HS2.out.then hb1)
          clear hb1 c3 c4
          have c5 := HS3.out.c5
          have c6 := HS3.out.c6
          have c7 := HS3.out.c7
          go_wp2_with fail
          refine (ssame_is (b := zT) HS.out _ _ HL.out.n (by decide) _ (HIN.out.q.later HS3.out.below) (ColsAt.nil _)).mono ?_
          rintro e w4 ⟨rfl, hb1⟩
          have HS4 := hidm (HS3.out.then hb1)
          clear hb1 c5 c6 c7
          go_wp2_with fail
          go_ret
          exact ⟨rfl, HS4.out.below⟩
set_option maxHeartbeats 4000000 in
set_option maxRecDepth 100000 in
theorem change_is {x : M} {b : Bool} (hb : chB x.c = b) (hl : ChLim x.c) (w : World) (hin : x.In w) :
    Calls Tryz.prog 9 #[.agg #[.int .i64 x.c.op, .string (S x.c.tb), .slice x.ro x.c.row.length x.rc, .int .i64 x.c.a, .int .i64 x.c.z, .string (S x.c.df.nm), .slice x.qo x.c.df.cols.length x.qc, .int .i64 x.c.df.keys]] w fun e w' => e = .returned (.bool b) ∧ Below w.heap.size w w' := by
  have HIN := hidm hin
  have HL := hidm hl
  have HS0 := hidm (BoxM.start x w)
  unfold chB at hb
  clear hin hl
  by_cases h1 : x.c.op = 1
  · have f1 : (x.c.op == 1) = true := by simpa using h1
    rw [if_pos h1] at hb
    have HB := hidm hb
    clear hb h1
    go_enter Tryz.func9, Tryz.ntmps9
    go_wp2_with fail
    refine (crow_is (m := 16) HB.out HL.out _ (HIN.out.later HS0.out.below)).mono ?_
    rintro e w1 ⟨rfl, hb1⟩
    have HS1 := hidm (HS0.out.then hb1)
    clear hb1
    go_wp2_with fail
    go_ret
    exact ⟨rfl, HS1.out.below⟩
  · have f1 : (x.c.op == 1) = false := by simpa using h1
    by_cases h2 : x.c.op = 2
    · have f2 : (x.c.op == 2) = true := by simpa using h2
      rw [if_neg h1, if_pos h2] at hb
      have HB := hidm hb
      clear hb h1 h2
      go_enter Tryz.func9, Tryz.ntmps9
      go_wp2_with fail
      refine (crow_is (m := 8) HB.out HL.out _ (HIN.out.later HS0.out.below)).mono ?_
      rintro e w1 ⟨rfl, hb1⟩
      have HS1 := hidm (HS0.out.then hb1)
      clear hb1
      go_wp2_with fail
      go_ret
      exact ⟨rfl, HS1.out.below⟩
    · have f2 : (x.c.op == 2) = false := by simpa using h2
      by_cases h3 : x.c.op = 3
      · have f3 : (x.c.op == 3) = true := by simpa using h3
        rw [if_neg h1, if_neg h2, if_pos h3] at hb
        unfold tabCh at hb
        obtain ⟨p, hp⟩ : ∃ p, rightB x.c.df = p := ⟨_, rfl⟩
        obtain ⟨q, hq⟩ : ∃ p, (x.c.tb == x.c.df.nm) = p := ⟨_, rfl⟩
        obtain ⟨r, hr⟩ : ∃ p, ((x.c.row.length : Int) == 0) = p := ⟨_, rfl⟩
        obtain ⟨s, hs⟩ : ∃ p, eqS x.c.a x.c.z 0 0 = p := ⟨_, rfl⟩
        have e1 : decide (x.c.tb = x.c.df.nm) = q := by rw [← hq, Bool.eq_iff_iff]; simp
        have e2 : decide (x.c.row.length = 0) = r := by rw [← hr, Bool.eq_iff_iff]; simp
        have e3 : (decide (x.c.a = 0) && decide (x.c.z = 0)) = s := by rw [← hs, Bool.eq_iff_iff]; unfold eqS; simp
        rw [hp, e1, e2, e3] at hb
        have HP := hidm hp
        clear hp h1 h2 h3 e1 e2 e3
        subst hb
        have C := fun w1 (hw : Below w.heap.size w w1) => sright_is HP.out HL.out.nm HL.out.n HL.out.cn _ _ w1 (HIN.out.q.later hw)
        have CC := hidm C
        clear C
        cases p
        · go_enter Tryz.func9, Tryz.ntmps9
          go_wp2_with fail
          refine (CC.out _ HS0.out.below).mono ?_
          rintro e w1 ⟨rfl, hb1⟩
          have HS1 := hidm (HS0.out.then hb1)
          clear hb1
          go_wp2_with fail
          go_ret
          exact ⟨rfl, HS1.out.below⟩
        · cases q
          rotate_left
          cases r
          rotate_left
          all_goals
            go_enter Tryz.func9, Tryz.ntmps9
            go_wp2_with fail
            refine (CC.out _ HS0.out.below).mono ?_
            rintro e w1 ⟨rfl, hb1⟩
            have HS1 := hidm (HS0.out.then hb1)
            clear hb1
            have c1 := HS1.out.c1
            have c2 := HS1.out.c2
            have c3 := HS1.out.c3
            have c4 := HS1.out.c4
            have c5 := HS1.out.c5
            go_wp2_with fail
            go_ret
            exact ⟨Val.ret_bool (by simp), HS1.out.below⟩
      · have f3 : (x.c.op == 3) = false := by simpa using h3
        rw [if_neg h1, if_neg h2, if_neg h3] at hb
        subst hb
        clear h1 h2 h3
        go_enter Tryz.func9, Tryz.ntmps9
        go_wp2_with fail
        go_ret
        exact ⟨rfl, HS0.out.below⟩
set_option maxHeartbeats 4000000 in
set_option maxRecDepth 100000 in
theorem notchange_is {x : M} {b : Bool} (h : (!chB x.c) = b) (hl : ChLim x.c) (w : World) (hin : x.In w) :
    Calls Tryz.prog 26 #[.agg #[.int .i64 x.c.op, .string (S x.c.tb), .slice x.ro x.c.row.length x.rc, .int .i64 x.c.a, .int .i64 x.c.z, .string (S x.c.df.nm), .slice x.qo x.c.df.cols.length x.qc, .int .i64 x.c.df.keys]] w fun e w' => e = .returned (.bool b) ∧ Below w.heap.size w w' := by
  obtain ⟨c, hc⟩ : ∃ c, chB x.c = c := ⟨_, rfl⟩
  rw [hc] at h
  have HC := hidm hc
  have HH := hidm h
  have HIN := hidm hin
  have HL := hidm hl
  have HS0 := hidm (BoxM.start x w)
  clear hc h hin hl
  go_enter Tryz.func26, Tryz.ntmps26
  go_wp2_with fail
  refine (change_is HC.out HL.out _ (HIN.out.later HS0.out.below)).mono ?_
  rintro e w1 ⟨rfl, hb1⟩
  have HS1 := hidm (HS0.out.then hb1)
  clear hb1
  go_wp2_with fail
  go_ret
  exact ⟨Val.ret_bool HH.out, HS1.out.below⟩
set_option maxHeartbeats 4000000 in
set_option maxRecDepth 100000 in
theorem idx_odd (cs : List M) (sl : Value) (hlm : ∀ x ∈ cs, ChLim x.c) (w : World) (h : MsAt cs sl w) :
    Calls Tryz.prog 54 #[sl, .func (.func 26) #[] #[]] w fun e w' => IdxP (cs.any (fun x => !chB x.c)) w e w' := by
  obtain ⟨ao, cap, rfl, hcl, hcm⟩ : ∃ ao cap, sl = .slice ao cs.length cap ∧ cs.length ≤ cap ∧ cap ≤ 9223372036854775807 := h.form
  have H := hidm h
  have HLM := hidm hlm
  clear hlm
  clear h
  obtain ⟨n, hn⟩ : ∃ n, n = cs.length := ⟨_, rfl⟩
  obtain ⟨F, hF⟩ : ∃ F, F = cs.any (fun x => !chB x.c) := ⟨_, rfl⟩
  rw [← hF]
  rw [← hn] at hcl ⊢
  have HN := hidm hn
  have HF := hidm hF
  clear hn hF
  go_enter Tryz.func54, Tryz.ntmps54
  go_wp2_with fail
  go_loopw [8] (fun v wr => ∃ i : Nat, i ≤ n ∧ v = .int .i64 i ∧ Hid (Below w.heap.size w wr) ∧ Hid ((cs.take i).any (fun x => !chB x.c) = false)) (fun v _ => n - (intOf v).toNat)
  case atStart => exact ⟨0, by omega, rfl, hidm (Below.refl _ _), hidm (by simp)⟩
  case round =>
    obtain ⟨i, hi, rfl, HB, HP⟩ := hrel
    rcases Nat.lt_or_ge i n with hlt | hge
    · have hia : i < cs.length := by have := HN.out; omega
      obtain ⟨b1, o1, c1, he1, _, q0, q1, q2, q3, q4, q5, q6, q7⟩ := (H.out.later HB.out).at i hia
      simp only [Value.slice.injEq] at he1
      obtain ⟨rfl, _, rfl⟩ := he1
      have hin := (H.out.later HB.out).in i hia
      obtain ⟨x, hx⟩ : ∃ x, x = cs[i] := ⟨_, rfl⟩
      rw [← hx] at q0 q1 q2 q3 q4 q5 q6 q7
      have HX := hidm hx
      clear hx
      rcases hp : (fun x => !chB x.c) x with _ | _
      · have HP2 := hidm (show (cs.take (i + 1)).any (fun x => !chB x.c) = false from by rw [any_take' hia, HP.out, ← HX.out, Bool.false_or]; exact hp)
        have HC := hidm hp
        clear hp
        go_wp2_with fail
        refine (notchange_is HC.out (by rw [HX.out]; exact HLM.out _ (List.getElem_mem _)) _ (by rw [HX.out]; exact hin)).mono ?_
        rintro e w1 ⟨rfl, hb1⟩
        have HB2 := hidm (HB.out.trans (hb1.mono HB.out.size))
        clear hb1
        go_wp2_with fail
        go_roundw
        case rel => exact ⟨i + 1, by omega, by go_num, HB2, HP2⟩
        case measure => simp [intOf]; omega
      · have HFt := hidm (show F = true from by rw [HF.out]; exact any_at' hia (by rw [← HX.out]; exact hp))
        have HC := hidm hp
        clear hp
        go_wp2_with fail
        refine (notchange_is HC.out (by rw [HX.out]; exact HLM.out _ (List.getElem_mem _)) _ (by rw [HX.out]; exact hin)).mono ?_
        rintro e w1 ⟨rfl, hb1⟩
        have HB2 := hidm (HB.out.trans (hb1.mono HB.out.size))
        clear hb1
        go_wp2_with fail
        go_ret
        exact ⟨_, rfl, by rw [HFt.out]; simp, HB2.out⟩
    · obtain rfl : i = n := by omega
      have HFf := hidm (show F = false from by rw [HF.out]; have := HP.out; rwa [HN.out, List.take_length] at this)
      go_wp2_with fail
      go_ret
      exact ⟨_, rfl, by rw [HFf.out]; rfl, HB.out⟩
theorem some_odd (cs : List M) (sl : Value) (hlm : ∀ x ∈ cs, ChLim x.c) (w : World) (h : MsAt cs sl w) :
    Calls Tryz.prog 25 #[sl, .func (.func 26) #[] #[]] w fun e w' => e = .returned (.bool (cs.any (fun x => !chB x.c))) ∧ Below w.heap.size w w' := by
  have I := idx_odd cs sl hlm w h
  obtain ⟨F, hF⟩ : ∃ F, F = cs.any (fun x => !chB x.c) := ⟨_, rfl⟩
  rw [← hF] at I ⊢
  obtain ⟨ao, cap, rfl, _, _⟩ : ∃ ao cap, sl = .slice ao cs.length cap ∧ cs.length ≤ cap ∧ cap ≤ 9223372036854775807 := h.form
  clear hF h
  go_enter Tryz.func25, Tryz.ntmps25
  go_wp2_with fail
  refine I.mono ?_
  rintro e w1 ⟨r, rfl, hr, hb⟩
  have HB := hidm hb
  have HR := hidm hr
  clear hb hr I
  go_wp2_with fail
  go_ret
  exact ⟨Val.ret_bool (by rw [← HR.out]), HB.out⟩
set_option maxHeartbeats 4000000 in
set_option maxRecDepth 100000 in
theorem some_odd_is {l : List M} {b : Bool} (hb : l.any (fun x => !chB x.c) = b) (sl : Value) (hlm : ∀ x ∈ l, ChLim x.c) (w : World) (h : MsAt l sl w) :
    Calls Tryz.prog 25 #[sl, .func (.func 26) #[] #[]] w fun e w' => e = .returned (.bool b) ∧ Below w.heap.size w w' := hb ▸ some_odd l sl hlm w h
theorem txright_is {x : X} {b : Bool} (hb : txB x.tx = b) (hln : x.l.length ≤ 1000000) (hl : ∀ c ∈ x.l, ChLim c.c) (w : World) (hin : x.In w) :
    Calls Tryz.prog 7 #[.agg #[.int .i64 x.seq, .int .i64 x.tm, .slice x.co x.l.length x.cc]] w fun e w' => e = .returned (.bool b) ∧ Below w.heap.size w w' := by
  have HIN := hidm hin
  have HL := hidm hl
  have HS0 := hidm (BoxX.start x w)
  obtain ⟨p, hp⟩ : ∃ p, x.l.any (fun x => !chB x.c) = p := ⟨_, rfl⟩
  have C := hidm (fun w1 (hw : Below w.heap.size w w1) => some_odd_is hp (.slice x.co x.l.length x.cc) HL.out w1 (hin.later hw))
  have hall : x.tx.chs.all chB = !p := by
    show (x.l.map M.c).all chB = !p
    rw [all_not_any, List.any_map, ← hp]
    rfl
  have hhd : headT x.tx = (decide (1 ≤ x.seq) && (decide (x.seq ≤ 1099511627776) && (decide (0 ≤ x.tm) && (decide (x.tm < 1099511627776) && decide (x.l.length ≤ 100))))) := by
    unfold headT X.tx
    simp only [List.length_map]
  unfold txB at hb
  rw [hall, hhd] at hb
  clear hall hhd hp hin hl
  obtain ⟨n, hn⟩ : ∃ n, n = x.l.length := ⟨_, rfl⟩
  rw [← hn] at hb C HS0 hln ⊢
  obtain ⟨sq, hsq⟩ : ∃ n, n = x.seq := ⟨_, rfl⟩
  obtain ⟨tm, htm⟩ : ∃ n, n = x.tm := ⟨_, rfl⟩
  rw [← hsq, ← htm] at hb
  by_cases hg : 1 ≤ sq ∧ sq ≤ 1099511627776 ∧ 0 ≤ tm ∧ tm < 1099511627776 ∧ n ≤ 100
  · obtain ⟨g1, g2, g3, g4, g5⟩ := hg
    have hbb : b = !p := by
      rw [← hb, decide_eq_true g1, decide_eq_true g2, decide_eq_true g3, decide_eq_true g4, decide_eq_true g5]; rfl
    subst hbb
    have f1 : ¬ sq < 1 := by omega
    have f2 : ¬ 1099511627776 < sq := by omega
    have f3 : ¬ tm < 0 := by omega
    have f4 : ¬ 1099511627776 ≤ tm := by omega
    rw [hsq] at f1 f2
    rw [htm] at f3 f4
    clear hb hn hsq htm g1 g2 g3 g4
    go_enter Tryz.func7, Tryz.ntmps7
    go_wp2_with fail
    refine (C.out _ ((Below.refl _ _).alloc (Nat.le_refl _) _)).mono ?_
    rintro e w1 ⟨rfl, hb1⟩
    have HB := hidm (((Below.refl _ _).alloc (Nat.le_refl w.heap.size) _).trans (hb1.mono (by simp)))
    clear hb1
    go_wp2_with fail
    go_ret
    exact ⟨rfl, HB.out⟩
  · have hbb : b = false := by
      rw [← hb, Bool.and_eq_false_iff]; left
      rw [Bool.eq_false_iff]; intro hh; simp only [Bool.and_eq_true, decide_eq_true_eq] at hh
      exact hg hh
    subst hbb
    have hcase : sq < 1 ∨ (1 ≤ sq ∧ 1099511627776 < sq) ∨ (1 ≤ sq ∧ sq ≤ 1099511627776 ∧ tm < 0) ∨ (1 ≤ sq ∧ sq ≤ 1099511627776 ∧ 0 ≤ tm ∧ 1099511627776 ≤ tm) ∨ (1 ≤ sq ∧ sq ≤ 1099511627776 ∧ 0 ≤ tm ∧ tm < 1099511627776 ∧ 100 < n) := by omega
    rw [← hsq, ← htm]
    clear hb hg hsq htm hn C
    rcases hcase with h1 | ⟨h1, h2⟩ | ⟨h1, h2, h3⟩ | ⟨h1, h2, h3, h4⟩ | ⟨h1, h2, h3, h4, h5⟩
    all_goals
      go_enter Tryz.func7, Tryz.ntmps7
      go_wp2_with fail
      go_ret
      exact ⟨rfl, (Below.refl _ _).alloc (Nat.le_refl _) _⟩
end Frm
end Go.Proofs.YtopmbhpjdmcabaaGreat
