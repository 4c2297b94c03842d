/- A reader's calls: what reads from the place on; a panic of the parts within is recovered, and becomes the reader's error. Conditions: the pointer is to a reader; the part's own contract. -/
import Derived.Test.YtinnkdbojgoicaaCx
namespace Go.Proofs.Ytinnkdbojgoicaa
open Go.RowKit
namespace Cod
/-- What a call of a reader comes to: the answer, and the place behind; or an error, the zero z, and the place where it began. -/
def Call {α : Type} (r : Nat) (s : ByteArray) (p : Int) (w : World) (V : α → Value → World → Prop) (z : Value) : Except Nat (α × List UInt8) → Ending → World → Prop
  | .ok (a, t), en, w' => ∃ v, en = .returned v ∧ V a v w' ∧ Rdr r s (s.size - t.length : Nat) 0 w' ∧ But r w w'
  | .error x, en, w' => en = .returned z ∧ Rdr r s p x w' ∧ But r w w'

theorem wp_act {P : Program} {c : Code} {Q : Exit → Act → World → Prop} {a a' : Act} {w : World} (h : a = a') (g : c.wp P Q a' w) : c.wp P Q a w := h ▸ g
theorem run_assert_hit (v : Value) (w : World) : (Instr.typeAssert (.iface 38 v) 20 38 true).run Try.prog w = .ok (.tuple #[v, .bool true]) w := by rfl
theorem run_assert_nil (w : World) : (Instr.typeAssert .nilIface 20 38 true).run Try.prog w = .ok (.tuple #[.int .i64 0, .bool false]) w := by rfl

set_option maxHeartbeats 800000 in
set_option maxRecDepth 100000 in
theorem catch_pan_u (b c r : Nat) (s : ByteArray) (p q x : Int) (w : World) (hb : w.heap[b]? = some (.cells #[.int .i64 p] 3 (0, 0))) (hc : w.heap[c]? = some (.cells #[.pointer (some ⟨r, 0, none⟩)] 24 (0, 0))) (hr : Rdr r s q 0 w) :
    CallsD Try.prog 67 #[.pointer (some ⟨b, 0, none⟩), .pointer (some ⟨c, 0, none⟩)] (.panicking (pan x)) w fun e u' w' =>
      e = .returned (.tuple #[]) ∧ u' = .panicking [{ v := .iface 38 (.int .i64 x), recovered := true }] ∧ w' = (w.setCell ⟨r, 1, none⟩ (.int .i64 p)).setCell ⟨r, 2, none⟩ (.int .i64 x) := by
  have q0 := cell_of_one hb
  have q1 := cell_of_one hc
  have q2 := hr.z1
  have q3 : (w.setCell ⟨r, 1, none⟩ (.int .i64 p)).frozen? ⟨r, 2, none⟩ = false := (hr.set1 p).z2
  have q4 := hr.c1
  have q5 : (w.setCell ⟨r, 1, none⟩ (.int .i64 p)).cell? ⟨r, 2, none⟩ = some (.int .i64 0) := (hr.set1 p).c2
  refine callsD_of_wpS Try.func67 rfl fun c₀ cs hu => ?_
  simp only [pan] at hu
  apply wpS_seq
  apply wpS_region
  simp [wpOpsS, go_sem, recoverD, hu, run_assert_hit, Try.ntmps67, Exit.thenS]
  refine wpS_of_wp (wp_mono (Q := fun e a' w' => e = Exit.normal ∧ a'.defers = [] ∧ w' = (w.setCell ⟨r, 1, none⟩ (.int .i64 p)).setCell ⟨r, 2, none⟩ (.int .i64 x)) ?_ ?_)
  · refine wp_act (a' := { tmps := #[.pointer (some ⟨b, 0, none⟩), .pointer (some ⟨c, 0, none⟩), .int .i64 x, .bool true, .tuple #[.int .i64 x, .bool true], .iface 38 (.int .i64 x), .tuple #[.int .i64 x, .bool true], .int .i64 x, .bool true, undef, undef, undef, undef, undef, undef, undef, undef, undef], defers := [] }) (congrArg (fun t => ({ tmps := t, defers := [] } : Act)) (Array.toList_inj.1 (by simp [List.replicate]))) ?_
    go_wp2
  · rintro e a' w' ⟨rfl, hd, rfl⟩
    exact ⟨hd, _, rfl, _, results_none rfl _ _ _, rfl, rfl, rfl⟩
set_option maxHeartbeats 800000 in
set_option maxRecDepth 100000 in
theorem catch_idle_u (b c : Nat) (w : World) :
    CallsD Try.prog 67 #[.pointer (some ⟨b, 0, none⟩), .pointer (some ⟨c, 0, none⟩)] .returning w fun e u' w' => e = .returned (.tuple #[]) ∧ u' = .returning ∧ w' = w := by
  refine callsD_of_wpS Try.func67 rfl fun c₀ cs hu => ?_
  apply wpS_seq
  apply wpS_region
  simp [wpOpsS, go_sem, recoverD, hu, run_assert_nil, Try.ntmps67, Exit.thenS]
  apply wpS_seq
  apply wpS_region
  simp [wpOpsS, go_sem, Exit.thenS]
  refine wpS_cond (t := false) (by simp [Act.eval, Array.replicate]) ?_
  simp only [Bool.false_eq_true, if_false]
  refine wpS_of_wp (wp_skip ?_)
  cases c₀
  simp_all [bodyPostS, results, Try.results67]
set_option maxHeartbeats 800000 in
set_option maxRecDepth 100000 in
theorem read_u_open (r : Nat) (s : ByteArray) (p : Nat) (w : World) (h : Rdr r s p 0 w) {α : Type} (V : α → Value → World → Prop) (R : Except Nat (α × List UInt8))
    (hc : ∀ w1, Rdr r s p 0 w1 → Calls Try.prog 43 #[.pointer (some ⟨r, 0, none⟩)] w1 fun en w' => Part r s 0 w1 V R en w') :
    Calls Try.prog 42 #[.pointer (some ⟨r, 0, none⟩), .func (.func 43) #[] #[]] w fun en w' => Call r s p w V (.int .u64 0) R en w' := by
  have hmf : ∀ (fn : Fn) (first cap : Array Value) (w : World), (Instr.makeFunc fn first cap).run Try.prog w = .ok (.func fn first cap) w := fun _ _ _ _ => rfl
  have HR := hidm h
  go_enter_defers Try.func42, Try.ntmps42
  go_wp2_with fail
  have h1 := (HR.out.past (.cells #[.pointer (some ⟨r, 0, none⟩)] 24)).c1
  refine (err_any r s p 0 _ (HR.out.past _)).mono ?_
  rintro en w1 ⟨rfl, rfl⟩
  go_wp2_with fail
  have HA := hidm ((HR.out.past (.cells #[.pointer (some ⟨r, 0, none⟩)] 24)).past (.cells #[.int .i64 p] 3))
  refine (hc _ HA.out).mono ?_
  have HBo : Hid (But r w ((w.alloc (.cells #[.pointer (some ⟨r, 0, none⟩)] 24)).alloc (.cells #[.int .i64 p] 3))) := hidm (((But.refl r w).alloc _).alloc _)
  have hrlt := h.lt
  have hb0 : ((w.alloc (.cells #[.pointer (some ⟨r, 0, none⟩)] 24)).alloc (.cells #[.int .i64 p] 3)).heap[w.heap.size]? = some (.cells #[.pointer (some ⟨r, 0, none⟩)] 24 (0, 0)) := below_keeps ((Below.refl _ _).alloc (Nat.le_refl _) _) (heap_alloc_new _ _)
  have hb1 : ((w.alloc (.cells #[.pointer (some ⟨r, 0, none⟩)] 24)).alloc (.cells #[.int .i64 p] 3)).heap[w.heap.size + 1]? = some (.cells #[.int .i64 p] 3 (0, 0)) := by
    have := heap_alloc_new (w.alloc (.cells #[.pointer (some ⟨r, 0, none⟩)] 24)) (.cells #[.int .i64 p] 3)
    simpa using this
  have HB0 := hidm hb0
  have HB1 := hidm hb1
  clear hb0 hb1 h1
  cases R with
  | ok at' =>
    obtain ⟨a, t⟩ := at'
    rintro en w1 ⟨v, rfl, hv, hr1, hbt⟩
    have HV := hidm hv
    have HR1 := hidm hr1
    have HT := hidm (HBo.out.trans hbt)
    clear hv hr1 hbt
    go_wp2_with fail
    refine leaves_cons (f := 67) (args := #[.pointer (some ⟨w.heap.size + 1, 0, none⟩), .pointer (some ⟨w.heap.size, 0, none⟩)]) (by simp) (by simp [go_sem]) ?_
    refine (catch_idle_u _ _ _).mono ?_
    rintro e u' w'' ⟨rfl, rfl, rfl⟩
    exact ⟨_, results_tmp rfl _ _ _, v, rfl, HV.out, HR1.out, HT.out⟩
  | error x =>
    rintro en w1 ⟨q, rfl, hr1, hbt⟩
    have HR1 := hidm hr1
    have HT := hidm (HBo.out.trans hbt)
    have HC0 := hidm (hbt.keeps (by omega) HB0.out)
    have HC1 := hidm (hbt.keeps (by omega) HB1.out)
    clear hr1 hbt
    go_wp2_with fail
    refine leaves_cons (f := 67) (args := #[.pointer (some ⟨w.heap.size + 1, 0, none⟩), .pointer (some ⟨w.heap.size, 0, none⟩)]) (by simp) (by simp [go_sem]) ?_
    refine (catch_pan_u _ _ r s p q x _ HC1.out HC0.out HR1.out).mono ?_
    rintro e u' w'' ⟨rfl, rfl, rfl⟩
    refine ⟨_, results_tmp rfl _ _ _, rfl, (HR1.out.set1 p).set2 x, (HT.out.set _ _).set _ _⟩
set_option maxHeartbeats 800000 in
set_option maxRecDepth 100000 in
theorem read_u_shut (r : Nat) (s : ByteArray) (p e : Int) (he : (e != 0) = true) (f : Value) (w : World) (h : Rdr r s p e w) :
    Calls Try.prog 42 #[.pointer (some ⟨r, 0, none⟩), f] w fun en w' => en = .returned (.int .u64 0) ∧ Below w.heap.size w w' := by
  have HR := hidm h
  go_enter_defers Try.func42, Try.ntmps42
  go_wp2_with fail
  refine (err_any r s p e _ (HR.out.past _)).mono ?_
  rintro en w1 ⟨rfl, rfl⟩
  go_wp2_with fail
  exact ⟨_, results_tmp rfl _ _ _, rfl, (Below.refl _ _).alloc (Nat.le_refl _) _⟩
set_option maxHeartbeats 800000 in
set_option maxRecDepth 100000 in
theorem read_u_nil (f : Value) (w : World) :
    Calls Try.prog 42 #[.pointer none, f] w fun en w' => en = .returned (.int .u64 0) ∧ Below w.heap.size w w' := by
  go_enter_defers Try.func42, Try.ntmps42
  go_wp2_with fail
  refine (err_nil _).mono ?_
  rintro en w1 ⟨rfl, rfl⟩
  go_wp2_with fail
  exact ⟨_, results_tmp rfl _ _ _, rfl, (Below.refl _ _).alloc (Nat.le_refl _) _⟩
/-! the method -/
theorem m_u_open (r : Nat) (s : ByteArray) (p : Nat) (w : World) (h : Rdr r s p 0 w) {α : Type} (V : α → Value → World → Prop) (R : Except Nat (α × List UInt8))
    (hc : ∀ w1, Rdr r s p 0 w1 → Calls Try.prog 43 #[.pointer (some ⟨r, 0, none⟩)] w1 fun en w' => Part r s 0 w1 V R en w') :
    Calls Try.prog 13 #[.pointer (some ⟨r, 0, none⟩)] w fun en w' => Call r s p w V (.int .u64 0) R en w' := by
  have HR := read_u_open r s p w h V R hc
  go_enter Try.func13, Try.ntmps13
  go_wp2_with fail
  refine HR.mono ?_
  cases R with
  | ok at' =>
    rintro en w1 ⟨v, rfl, hv⟩
    have HV := hidm hv
    clear hv
    go_wp2_with fail
    go_ret
    exact ⟨v, rfl, HV.out⟩
  | error x =>
    rintro en w1 ⟨rfl, hv⟩
    have HV := hidm hv
    clear hv
    go_wp2_with fail
    go_ret
    exact ⟨rfl, HV.out⟩
theorem m_u_shut (r : Nat) (s : ByteArray) (p e : Int) (he : (e != 0) = true) (w : World) (h : Rdr r s p e w) :
    Calls Try.prog 13 #[.pointer (some ⟨r, 0, none⟩)] w fun en w' => en = .returned (.int .u64 0) ∧ Below w.heap.size w w' := by
  go_enter Try.func13, Try.ntmps13
  go_wp2_with fail
  refine (read_u_shut r s p e he _ w h).mono ?_
  rintro en w1 ⟨rfl, hb⟩
  go_wp2_with fail
  go_ret
  exact ⟨rfl, hb⟩
theorem m_u_nil (w : World) :
    Calls Try.prog 13 #[.pointer none] w fun en w' => en = .returned (.int .u64 0) ∧ Below w.heap.size w w' := by
  go_enter Try.func13, Try.ntmps13
  go_wp2_with fail
  refine (read_u_nil _ w).mono ?_
  rintro en w1 ⟨rfl, hb⟩
  go_wp2_with fail
  go_ret
  exact ⟨rfl, hb⟩

set_option maxHeartbeats 800000 in
set_option maxRecDepth 100000 in
theorem catch_pan_i (b c r : Nat) (s : ByteArray) (p q x : Int) (w : World) (hb : w.heap[b]? = some (.cells #[.int .i64 p] 3 (0, 0))) (hc : w.heap[c]? = some (.cells #[.pointer (some ⟨r, 0, none⟩)] 24 (0, 0))) (hr : Rdr r s q 0 w) :
    CallsD Try.prog 70 #[.pointer (some ⟨b, 0, none⟩), .pointer (some ⟨c, 0, none⟩)] (.panicking (pan x)) w fun e u' w' =>
      e = .returned (.tuple #[]) ∧ u' = .panicking [{ v := .iface 38 (.int .i64 x), recovered := true }] ∧ w' = (w.setCell ⟨r, 1, none⟩ (.int .i64 p)).setCell ⟨r, 2, none⟩ (.int .i64 x) := by
  have q0 := cell_of_one hb
  have q1 := cell_of_one hc
  have q2 := hr.z1
  have q3 : (w.setCell ⟨r, 1, none⟩ (.int .i64 p)).frozen? ⟨r, 2, none⟩ = false := (hr.set1 p).z2
  have q4 := hr.c1
  have q5 : (w.setCell ⟨r, 1, none⟩ (.int .i64 p)).cell? ⟨r, 2, none⟩ = some (.int .i64 0) := (hr.set1 p).c2
  refine callsD_of_wpS Try.func70 rfl fun c₀ cs hu => ?_
  simp only [pan] at hu
  apply wpS_seq
  apply wpS_region
  simp [wpOpsS, go_sem, recoverD, hu, run_assert_hit, Try.ntmps70, Exit.thenS]
  refine wpS_of_wp (wp_mono (Q := fun e a' w' => e = Exit.normal ∧ a'.defers = [] ∧ w' = (w.setCell ⟨r, 1, none⟩ (.int .i64 p)).setCell ⟨r, 2, none⟩ (.int .i64 x)) ?_ ?_)
  · refine wp_act (a' := { tmps := #[.pointer (some ⟨b, 0, none⟩), .pointer (some ⟨c, 0, none⟩), .int .i64 x, .bool true, .tuple #[.int .i64 x, .bool true], .iface 38 (.int .i64 x), .tuple #[.int .i64 x, .bool true], .int .i64 x, .bool true, undef, undef, undef, undef, undef, undef, undef, undef, undef], defers := [] }) (congrArg (fun t => ({ tmps := t, defers := [] } : Act)) (Array.toList_inj.1 (by simp [List.replicate]))) ?_
    go_wp2
  · rintro e a' w' ⟨rfl, hd, rfl⟩
    exact ⟨hd, _, rfl, _, results_none rfl _ _ _, rfl, rfl, rfl⟩
set_option maxHeartbeats 800000 in
set_option maxRecDepth 100000 in
theorem catch_idle_i (b c : Nat) (w : World) :
    CallsD Try.prog 70 #[.pointer (some ⟨b, 0, none⟩), .pointer (some ⟨c, 0, none⟩)] .returning w fun e u' w' => e = .returned (.tuple #[]) ∧ u' = .returning ∧ w' = w := by
  refine callsD_of_wpS Try.func70 rfl fun c₀ cs hu => ?_
  apply wpS_seq
  apply wpS_region
  simp [wpOpsS, go_sem, recoverD, hu, run_assert_nil, Try.ntmps70, Exit.thenS]
  apply wpS_seq
  apply wpS_region
  simp [wpOpsS, go_sem, Exit.thenS]
  refine wpS_cond (t := false) (by simp [Act.eval, Array.replicate]) ?_
  simp only [Bool.false_eq_true, if_false]
  refine wpS_of_wp (wp_skip ?_)
  cases c₀
  simp_all [bodyPostS, results, Try.results70]
set_option maxHeartbeats 800000 in
set_option maxRecDepth 100000 in
theorem read_i_open (r : Nat) (s : ByteArray) (p : Nat) (w : World) (h : Rdr r s p 0 w) {α : Type} (V : α → Value → World → Prop) (R : Except Nat (α × List UInt8))
    (hc : ∀ w1, Rdr r s p 0 w1 → Calls Try.prog 47 #[.pointer (some ⟨r, 0, none⟩)] w1 fun en w' => Part r s 0 w1 V R en w') :
    Calls Try.prog 46 #[.pointer (some ⟨r, 0, none⟩), .func (.func 47) #[] #[]] w fun en w' => Call r s p w V (.int .i64 0) R en w' := by
  have hmf : ∀ (fn : Fn) (first cap : Array Value) (w : World), (Instr.makeFunc fn first cap).run Try.prog w = .ok (.func fn first cap) w := fun _ _ _ _ => rfl
  have HR := hidm h
  go_enter_defers Try.func46, Try.ntmps46
  go_wp2_with fail
  have h1 := (HR.out.past (.cells #[.pointer (some ⟨r, 0, none⟩)] 24)).c1
  refine (err_any r s p 0 _ (HR.out.past _)).mono ?_
  rintro en w1 ⟨rfl, rfl⟩
  go_wp2_with fail
  have HA := hidm ((HR.out.past (.cells #[.pointer (some ⟨r, 0, none⟩)] 24)).past (.cells #[.int .i64 p] 3))
  refine (hc _ HA.out).mono ?_
  have HBo : Hid (But r w ((w.alloc (.cells #[.pointer (some ⟨r, 0, none⟩)] 24)).alloc (.cells #[.int .i64 p] 3))) := hidm (((But.refl r w).alloc _).alloc _)
  have hrlt := h.lt
  have hb0 : ((w.alloc (.cells #[.pointer (some ⟨r, 0, none⟩)] 24)).alloc (.cells #[.int .i64 p] 3)).heap[w.heap.size]? = some (.cells #[.pointer (some ⟨r, 0, none⟩)] 24 (0, 0)) := below_keeps ((Below.refl _ _).alloc (Nat.le_refl _) _) (heap_alloc_new _ _)
  have hb1 : ((w.alloc (.cells #[.pointer (some ⟨r, 0, none⟩)] 24)).alloc (.cells #[.int .i64 p] 3)).heap[w.heap.size + 1]? = some (.cells #[.int .i64 p] 3 (0, 0)) := by
    have := heap_alloc_new (w.alloc (.cells #[.pointer (some ⟨r, 0, none⟩)] 24)) (.cells #[.int .i64 p] 3)
    simpa using this
  have HB0 := hidm hb0
  have HB1 := hidm hb1
  clear hb0 hb1 h1
  cases R with
  | ok at' =>
    obtain ⟨a, t⟩ := at'
    rintro en w1 ⟨v, rfl, hv, hr1, hbt⟩
    have HV := hidm hv
    have HR1 := hidm hr1
    have HT := hidm (HBo.out.trans hbt)
    clear hv hr1 hbt
    go_wp2_with fail
    refine leaves_cons (f := 70) (args := #[.pointer (some ⟨w.heap.size + 1, 0, none⟩), .pointer (some ⟨w.heap.size, 0, none⟩)]) (by simp) (by simp [go_sem]) ?_
    refine (catch_idle_i _ _ _).mono ?_
    rintro e u' w'' ⟨rfl, rfl, rfl⟩
    exact ⟨_, results_tmp rfl _ _ _, v, rfl, HV.out, HR1.out, HT.out⟩
  | error x =>
    rintro en w1 ⟨q, rfl, hr1, hbt⟩
    have HR1 := hidm hr1
    have HT := hidm (HBo.out.trans hbt)
    have HC0 := hidm (hbt.keeps (by omega) HB0.out)
    have HC1 := hidm (hbt.keeps (by omega) HB1.out)
    clear hr1 hbt
    go_wp2_with fail
    refine leaves_cons (f := 70) (args := #[.pointer (some ⟨w.heap.size + 1, 0, none⟩), .pointer (some ⟨w.heap.size, 0, none⟩)]) (by simp) (by simp [go_sem]) ?_
    refine (catch_pan_i _ _ r s p q x _ HC1.out HC0.out HR1.out).mono ?_
    rintro e u' w'' ⟨rfl, rfl, rfl⟩
    refine ⟨_, results_tmp rfl _ _ _, rfl, (HR1.out.set1 p).set2 x, (HT.out.set _ _).set _ _⟩
set_option maxHeartbeats 800000 in
set_option maxRecDepth 100000 in
theorem read_i_shut (r : Nat) (s : ByteArray) (p e : Int) (he : (e != 0) = true) (f : Value) (w : World) (h : Rdr r s p e w) :
    Calls Try.prog 46 #[.pointer (some ⟨r, 0, none⟩), f] w fun en w' => en = .returned (.int .i64 0) ∧ Below w.heap.size w w' := by
  have HR := hidm h
  go_enter_defers Try.func46, Try.ntmps46
  go_wp2_with fail
  refine (err_any r s p e _ (HR.out.past _)).mono ?_
  rintro en w1 ⟨rfl, rfl⟩
  go_wp2_with fail
  exact ⟨_, results_tmp rfl _ _ _, rfl, (Below.refl _ _).alloc (Nat.le_refl _) _⟩
set_option maxHeartbeats 800000 in
set_option maxRecDepth 100000 in
theorem read_i_nil (f : Value) (w : World) :
    Calls Try.prog 46 #[.pointer none, f] w fun en w' => en = .returned (.int .i64 0) ∧ Below w.heap.size w w' := by
  go_enter_defers Try.func46, Try.ntmps46
  go_wp2_with fail
  refine (err_nil _).mono ?_
  rintro en w1 ⟨rfl, rfl⟩
  go_wp2_with fail
  exact ⟨_, results_tmp rfl _ _ _, rfl, (Below.refl _ _).alloc (Nat.le_refl _) _⟩
/-! the method -/
theorem m_i_open (r : Nat) (s : ByteArray) (p : Nat) (w : World) (h : Rdr r s p 0 w) {α : Type} (V : α → Value → World → Prop) (R : Except Nat (α × List UInt8))
    (hc : ∀ w1, Rdr r s p 0 w1 → Calls Try.prog 47 #[.pointer (some ⟨r, 0, none⟩)] w1 fun en w' => Part r s 0 w1 V R en w') :
    Calls Try.prog 15 #[.pointer (some ⟨r, 0, none⟩)] w fun en w' => Call r s p w V (.int .i64 0) R en w' := by
  have HR := read_i_open r s p w h V R hc
  go_enter Try.func15, Try.ntmps15
  go_wp2_with fail
  refine HR.mono ?_
  cases R with
  | ok at' =>
    rintro en w1 ⟨v, rfl, hv⟩
    have HV := hidm hv
    clear hv
    go_wp2_with fail
    go_ret
    exact ⟨v, rfl, HV.out⟩
  | error x =>
    rintro en w1 ⟨rfl, hv⟩
    have HV := hidm hv
    clear hv
    go_wp2_with fail
    go_ret
    exact ⟨rfl, HV.out⟩
theorem m_i_shut (r : Nat) (s : ByteArray) (p e : Int) (he : (e != 0) = true) (w : World) (h : Rdr r s p e w) :
    Calls Try.prog 15 #[.pointer (some ⟨r, 0, none⟩)] w fun en w' => en = .returned (.int .i64 0) ∧ Below w.heap.size w w' := by
  go_enter Try.func15, Try.ntmps15
  go_wp2_with fail
  refine (read_i_shut r s p e he _ w h).mono ?_
  rintro en w1 ⟨rfl, hb⟩
  go_wp2_with fail
  go_ret
  exact ⟨rfl, hb⟩
theorem m_i_nil (w : World) :
    Calls Try.prog 15 #[.pointer none] w fun en w' => en = .returned (.int .i64 0) ∧ Below w.heap.size w w' := by
  go_enter Try.func15, Try.ntmps15
  go_wp2_with fail
  refine (read_i_nil _ w).mono ?_
  rintro en w1 ⟨rfl, hb⟩
  go_wp2_with fail
  go_ret
  exact ⟨rfl, hb⟩

set_option maxHeartbeats 800000 in
set_option maxRecDepth 100000 in
theorem catch_pan_t (b c r : Nat) (s : ByteArray) (p q x : Int) (w : World) (hb : w.heap[b]? = some (.cells #[.int .i64 p] 3 (0, 0))) (hc : w.heap[c]? = some (.cells #[.pointer (some ⟨r, 0, none⟩)] 24 (0, 0))) (hr : Rdr r s q 0 w) :
    CallsD Try.prog 71 #[.pointer (some ⟨b, 0, none⟩), .pointer (some ⟨c, 0, none⟩)] (.panicking (pan x)) w fun e u' w' =>
      e = .returned (.tuple #[]) ∧ u' = .panicking [{ v := .iface 38 (.int .i64 x), recovered := true }] ∧ w' = (w.setCell ⟨r, 1, none⟩ (.int .i64 p)).setCell ⟨r, 2, none⟩ (.int .i64 x) := by
  have q0 := cell_of_one hb
  have q1 := cell_of_one hc
  have q2 := hr.z1
  have q3 : (w.setCell ⟨r, 1, none⟩ (.int .i64 p)).frozen? ⟨r, 2, none⟩ = false := (hr.set1 p).z2
  have q4 := hr.c1
  have q5 : (w.setCell ⟨r, 1, none⟩ (.int .i64 p)).cell? ⟨r, 2, none⟩ = some (.int .i64 0) := (hr.set1 p).c2
  refine callsD_of_wpS Try.func71 rfl fun c₀ cs hu => ?_
  simp only [pan] at hu
  apply wpS_seq
  apply wpS_region
  simp [wpOpsS, go_sem, recoverD, hu, run_assert_hit, Try.ntmps71, Exit.thenS]
  refine wpS_of_wp (wp_mono (Q := fun e a' w' => e = Exit.normal ∧ a'.defers = [] ∧ w' = (w.setCell ⟨r, 1, none⟩ (.int .i64 p)).setCell ⟨r, 2, none⟩ (.int .i64 x)) ?_ ?_)
  · refine wp_act (a' := { tmps := #[.pointer (some ⟨b, 0, none⟩), .pointer (some ⟨c, 0, none⟩), .int .i64 x, .bool true, .tuple #[.int .i64 x, .bool true], .iface 38 (.int .i64 x), .tuple #[.int .i64 x, .bool true], .int .i64 x, .bool true, undef, undef, undef, undef, undef, undef, undef, undef, undef], defers := [] }) (congrArg (fun t => ({ tmps := t, defers := [] } : Act)) (Array.toList_inj.1 (by simp [List.replicate]))) ?_
    go_wp2
  · rintro e a' w' ⟨rfl, hd, rfl⟩
    exact ⟨hd, _, rfl, _, results_none rfl _ _ _, rfl, rfl, rfl⟩
set_option maxHeartbeats 800000 in
set_option maxRecDepth 100000 in
theorem catch_idle_t (b c : Nat) (w : World) :
    CallsD Try.prog 71 #[.pointer (some ⟨b, 0, none⟩), .pointer (some ⟨c, 0, none⟩)] .returning w fun e u' w' => e = .returned (.tuple #[]) ∧ u' = .returning ∧ w' = w := by
  refine callsD_of_wpS Try.func71 rfl fun c₀ cs hu => ?_
  apply wpS_seq
  apply wpS_region
  simp [wpOpsS, go_sem, recoverD, hu, run_assert_nil, Try.ntmps71, Exit.thenS]
  apply wpS_seq
  apply wpS_region
  simp [wpOpsS, go_sem, Exit.thenS]
  refine wpS_cond (t := false) (by simp [Act.eval, Array.replicate]) ?_
  simp only [Bool.false_eq_true, if_false]
  refine wpS_of_wp (wp_skip ?_)
  cases c₀
  simp_all [bodyPostS, results, Try.results71]
set_option maxHeartbeats 800000 in
set_option maxRecDepth 100000 in
theorem read_t_open (r : Nat) (s : ByteArray) (p : Nat) (w : World) (h : Rdr r s p 0 w) {α : Type} (V : α → Value → World → Prop) (R : Except Nat (α × List UInt8))
    (hc : ∀ w1, Rdr r s p 0 w1 → Calls Try.prog 50 #[.pointer (some ⟨r, 0, none⟩)] w1 fun en w' => Part r s 0 w1 V R en w') :
    Calls Try.prog 49 #[.pointer (some ⟨r, 0, none⟩), .func (.func 50) #[] #[]] w fun en w' => Call r s p w V (.string ⟨#[]⟩) R en w' := by
  have hmf : ∀ (fn : Fn) (first cap : Array Value) (w : World), (Instr.makeFunc fn first cap).run Try.prog w = .ok (.func fn first cap) w := fun _ _ _ _ => rfl
  have HR := hidm h
  go_enter_defers Try.func49, Try.ntmps49
  go_wp2_with fail
  have h1 := (HR.out.past (.cells #[.pointer (some ⟨r, 0, none⟩)] 24)).c1
  refine (err_any r s p 0 _ (HR.out.past _)).mono ?_
  rintro en w1 ⟨rfl, rfl⟩
  go_wp2_with fail
  have HA := hidm ((HR.out.past (.cells #[.pointer (some ⟨r, 0, none⟩)] 24)).past (.cells #[.int .i64 p] 3))
  refine (hc _ HA.out).mono ?_
  have HBo : Hid (But r w ((w.alloc (.cells #[.pointer (some ⟨r, 0, none⟩)] 24)).alloc (.cells #[.int .i64 p] 3))) := hidm (((But.refl r w).alloc _).alloc _)
  have hrlt := h.lt
  have hb0 : ((w.alloc (.cells #[.pointer (some ⟨r, 0, none⟩)] 24)).alloc (.cells #[.int .i64 p] 3)).heap[w.heap.size]? = some (.cells #[.pointer (some ⟨r, 0, none⟩)] 24 (0, 0)) := below_keeps ((Below.refl _ _).alloc (Nat.le_refl _) _) (heap_alloc_new _ _)
  have hb1 : ((w.alloc (.cells #[.pointer (some ⟨r, 0, none⟩)] 24)).alloc (.cells #[.int .i64 p] 3)).heap[w.heap.size + 1]? = some (.cells #[.int .i64 p] 3 (0, 0)) := by
    have := heap_alloc_new (w.alloc (.cells #[.pointer (some ⟨r, 0, none⟩)] 24)) (.cells #[.int .i64 p] 3)
    simpa using this
  have HB0 := hidm hb0
  have HB1 := hidm hb1
  clear hb0 hb1 h1
  cases R with
  | ok at' =>
    obtain ⟨a, t⟩ := at'
    rintro en w1 ⟨v, rfl, hv, hr1, hbt⟩
    have HV := hidm hv
    have HR1 := hidm hr1
    have HT := hidm (HBo.out.trans hbt)
    clear hv hr1 hbt
    go_wp2_with fail
    refine leaves_cons (f := 71) (args := #[.pointer (some ⟨w.heap.size + 1, 0, none⟩), .pointer (some ⟨w.heap.size, 0, none⟩)]) (by simp) (by simp [go_sem]) ?_
    refine (catch_idle_t _ _ _).mono ?_
    rintro e u' w'' ⟨rfl, rfl, rfl⟩
    exact ⟨_, results_tmp rfl _ _ _, v, rfl, HV.out, HR1.out, HT.out⟩
  | error x =>
    rintro en w1 ⟨q, rfl, hr1, hbt⟩
    have HR1 := hidm hr1
    have HT := hidm (HBo.out.trans hbt)
    have HC0 := hidm (hbt.keeps (by omega) HB0.out)
    have HC1 := hidm (hbt.keeps (by omega) HB1.out)
    clear hr1 hbt
    go_wp2_with fail
    refine leaves_cons (f := 71) (args := #[.pointer (some ⟨w.heap.size + 1, 0, none⟩), .pointer (some ⟨w.heap.size, 0, none⟩)]) (by simp) (by simp [go_sem]) ?_
    refine (catch_pan_t _ _ r s p q x _ HC1.out HC0.out HR1.out).mono ?_
    rintro e u' w'' ⟨rfl, rfl, rfl⟩
    refine ⟨_, results_tmp rfl _ _ _, rfl, (HR1.out.set1 p).set2 x, (HT.out.set _ _).set _ _⟩
set_option maxHeartbeats 800000 in
set_option maxRecDepth 100000 in
theorem read_t_shut (r : Nat) (s : ByteArray) (p e : Int) (he : (e != 0) = true) (f : Value) (w : World) (h : Rdr r s p e w) :
    Calls Try.prog 49 #[.pointer (some ⟨r, 0, none⟩), f] w fun en w' => en = .returned (.string ⟨#[]⟩) ∧ Below w.heap.size w w' := by
  have HR := hidm h
  go_enter_defers Try.func49, Try.ntmps49
  go_wp2_with fail
  refine (err_any r s p e _ (HR.out.past _)).mono ?_
  rintro en w1 ⟨rfl, rfl⟩
  go_wp2_with fail
  exact ⟨_, results_tmp rfl _ _ _, rfl, (Below.refl _ _).alloc (Nat.le_refl _) _⟩
set_option maxHeartbeats 800000 in
set_option maxRecDepth 100000 in
theorem read_t_nil (f : Value) (w : World) :
    Calls Try.prog 49 #[.pointer none, f] w fun en w' => en = .returned (.string ⟨#[]⟩) ∧ Below w.heap.size w w' := by
  go_enter_defers Try.func49, Try.ntmps49
  go_wp2_with fail
  refine (err_nil _).mono ?_
  rintro en w1 ⟨rfl, rfl⟩
  go_wp2_with fail
  exact ⟨_, results_tmp rfl _ _ _, rfl, (Below.refl _ _).alloc (Nat.le_refl _) _⟩
/-! the method -/
theorem m_t_open (r : Nat) (s : ByteArray) (p : Nat) (w : World) (h : Rdr r s p 0 w) {α : Type} (V : α → Value → World → Prop) (R : Except Nat (α × List UInt8))
    (hc : ∀ w1, Rdr r s p 0 w1 → Calls Try.prog 50 #[.pointer (some ⟨r, 0, none⟩)] w1 fun en w' => Part r s 0 w1 V R en w') :
    Calls Try.prog 17 #[.pointer (some ⟨r, 0, none⟩)] w fun en w' => Call r s p w V (.string ⟨#[]⟩) R en w' := by
  have HR := read_t_open r s p w h V R hc
  go_enter Try.func17, Try.ntmps17
  go_wp2_with fail
  refine HR.mono ?_
  cases R with
  | ok at' =>
    rintro en w1 ⟨v, rfl, hv⟩
    have HV := hidm hv
    clear hv
    go_wp2_with fail
    go_ret
    exact ⟨v, rfl, HV.out⟩
  | error x =>
    rintro en w1 ⟨rfl, hv⟩
    have HV := hidm hv
    clear hv
    go_wp2_with fail
    go_ret
    exact ⟨rfl, HV.out⟩
theorem m_t_shut (r : Nat) (s : ByteArray) (p e : Int) (he : (e != 0) = true) (w : World) (h : Rdr r s p e w) :
    Calls Try.prog 17 #[.pointer (some ⟨r, 0, none⟩)] w fun en w' => en = .returned (.string ⟨#[]⟩) ∧ Below w.heap.size w w' := by
  go_enter Try.func17, Try.ntmps17
  go_wp2_with fail
  refine (read_t_shut r s p e he _ w h).mono ?_
  rintro en w1 ⟨rfl, hb⟩
  go_wp2_with fail
  go_ret
  exact ⟨rfl, hb⟩
theorem m_t_nil (w : World) :
    Calls Try.prog 17 #[.pointer none] w fun en w' => en = .returned (.string ⟨#[]⟩) ∧ Below w.heap.size w w' := by
  go_enter Try.func17, Try.ntmps17
  go_wp2_with fail
  refine (read_t_nil _ w).mono ?_
  rintro en w1 ⟨rfl, hb⟩
  go_wp2_with fail
  go_ret
  exact ⟨rfl, hb⟩

set_option maxHeartbeats 800000 in
set_option maxRecDepth 100000 in
theorem catch_pan_v (b c r : Nat) (s : ByteArray) (p q x : Int) (w : World) (hb : w.heap[b]? = some (.cells #[.int .i64 p] 3 (0, 0))) (hc : w.heap[c]? = some (.cells #[.pointer (some ⟨r, 0, none⟩)] 24 (0, 0))) (hr : Rdr r s q 0 w) :
    CallsD Try.prog 73 #[.pointer (some ⟨b, 0, none⟩), .pointer (some ⟨c, 0, none⟩)] (.panicking (pan x)) w fun e u' w' =>
      e = .returned (.tuple #[]) ∧ u' = .panicking [{ v := .iface 38 (.int .i64 x), recovered := true }] ∧ w' = (w.setCell ⟨r, 1, none⟩ (.int .i64 p)).setCell ⟨r, 2, none⟩ (.int .i64 x) := by
  have q0 := cell_of_one hb
  have q1 := cell_of_one hc
  have q2 := hr.z1
  have q3 : (w.setCell ⟨r, 1, none⟩ (.int .i64 p)).frozen? ⟨r, 2, none⟩ = false := (hr.set1 p).z2
  have q4 := hr.c1
  have q5 : (w.setCell ⟨r, 1, none⟩ (.int .i64 p)).cell? ⟨r, 2, none⟩ = some (.int .i64 0) := (hr.set1 p).c2
  refine callsD_of_wpS Try.func73 rfl fun c₀ cs hu => ?_
  simp only [pan] at hu
  apply wpS_seq
  apply wpS_region
  simp [wpOpsS, go_sem, recoverD, hu, run_assert_hit, Try.ntmps73, Exit.thenS]
  refine wpS_of_wp (wp_mono (Q := fun e a' w' => e = Exit.normal ∧ a'.defers = [] ∧ w' = (w.setCell ⟨r, 1, none⟩ (.int .i64 p)).setCell ⟨r, 2, none⟩ (.int .i64 x)) ?_ ?_)
  · refine wp_act (a' := { tmps := #[.pointer (some ⟨b, 0, none⟩), .pointer (some ⟨c, 0, none⟩), .int .i64 x, .bool true, .tuple #[.int .i64 x, .bool true], .iface 38 (.int .i64 x), .tuple #[.int .i64 x, .bool true], .int .i64 x, .bool true, undef, undef, undef, undef, undef, undef, undef, undef, undef], defers := [] }) (congrArg (fun t => ({ tmps := t, defers := [] } : Act)) (Array.toList_inj.1 (by simp [List.replicate]))) ?_
    go_wp2
  · rintro e a' w' ⟨rfl, hd, rfl⟩
    exact ⟨hd, _, rfl, _, results_none rfl _ _ _, rfl, rfl, rfl⟩
set_option maxHeartbeats 800000 in
set_option maxRecDepth 100000 in
theorem catch_idle_v (b c : Nat) (w : World) :
    CallsD Try.prog 73 #[.pointer (some ⟨b, 0, none⟩), .pointer (some ⟨c, 0, none⟩)] .returning w fun e u' w' => e = .returned (.tuple #[]) ∧ u' = .returning ∧ w' = w := by
  refine callsD_of_wpS Try.func73 rfl fun c₀ cs hu => ?_
  apply wpS_seq
  apply wpS_region
  simp [wpOpsS, go_sem, recoverD, hu, run_assert_nil, Try.ntmps73, Exit.thenS]
  apply wpS_seq
  apply wpS_region
  simp [wpOpsS, go_sem, Exit.thenS]
  refine wpS_cond (t := false) (by simp [Act.eval, Array.replicate]) ?_
  simp only [Bool.false_eq_true, if_false]
  refine wpS_of_wp (wp_skip ?_)
  cases c₀
  simp_all [bodyPostS, results, Try.results73]
set_option maxHeartbeats 2000000 in
set_option maxRecDepth 100000 in
theorem read_v_open (r : Nat) (s : ByteArray) (p : Nat) (w : World) (h : Rdr r s p 0 w) (R : Except Nat (V × List UInt8))
    (hc : ∀ w1, Rdr r s p 0 w1 → Calls Try.prog 54 #[.pointer (some ⟨r, 0, none⟩)] w1 fun en w' => Part r s 0 w1 VVal R en w') :
    Calls Try.prog 53 #[.pointer (some ⟨r, 0, none⟩), .func (.func 54) #[] #[]] w fun en w' => Call r s p w VVal (.agg #[.int .i64 0, .int .i64 0, .int .u64 0, .string ⟨#[]⟩]) R en w' := by
  have hmf : ∀ (fn : Fn) (first cap : Array Value) (w : World), (Instr.makeFunc fn first cap).run Try.prog w = .ok (.func fn first cap) w := fun _ _ _ _ => rfl
  have hrlt := h.lt
  obtain ⟨w0, hw0⟩ : ∃ w0, w0 = (w.alloc (.cells #[.pointer (some ⟨r, 0, none⟩)] 24)).alloc (.cells #[.int .i64 0, .int .i64 0, .int .u64 0, .string ⟨#[]⟩] 33) := ⟨_, rfl⟩
  have hr0 : Rdr r s p 0 w0 := by rw [hw0]; exact (h.past _).past _
  have hb0 : But r w w0 := by rw [hw0]; exact ((But.refl r w).alloc _).alloc _
  have hp0 : w0.heap[w.heap.size]? = some (.cells #[.pointer (some ⟨r, 0, none⟩)] 24 (0, 0)) := by rw [hw0]; exact below_keeps ((Below.refl _ _).alloc (Nat.le_refl _) _) (heap_alloc_new _ _)
  have hv0 : Vb (w.heap.size + 1) 0 0 0 ⟨#[]⟩ w0 := by
    rw [hw0]
    have := Vb.new (w.alloc (.cells #[.pointer (some ⟨r, 0, none⟩)] 24)) 0 0 0 ⟨#[]⟩
    simpa using this
  have hz0 : w0.heap.size = w.heap.size + 2 := by rw [hw0]; simp
  have HR := hidm hr0
  have HB0 := hidm hb0
  have HP0 := hidm hp0
  have HV0 := hidm hv0
  have HW0 := hidm hw0
  clear hr0 hb0 hp0 hv0 h
  have h1 := HR.out.c1
  have k1 := cell_of_one HP0.out
  go_enter_defers Try.func53, Try.ntmps53
  go_wp2_with fail
  rw [← HW0.out]
  clear hw0
  refine (err_any r s p 0 w0 HR.out).mono ?_
  rintro en w1 ⟨rfl, rfl⟩
  go_wp2_with fail
  have HA := hidm (HR.out.past (.cells #[.int .i64 p] 3))
  refine (hc _ HA.out).mono ?_
  have HBo := hidm (HB0.out.alloc (.cells #[.int .i64 p] 3))
  have HC := hidm (below_keeps ((Below.refl _ _).alloc (Nat.le_refl _) (.cells #[.int .i64 p] 3)) HP0.out)
  have HV := hidm (HV0.out.past (.cells #[.int .i64 p] 3))
  have HI : Hid ((w0.alloc (.cells #[.int .i64 p] 3)).heap[w.heap.size + 2]? = some (.cells #[.int .i64 p] 3 (0, 0))) := by
    have := heap_alloc_new w0 (.cells #[.int .i64 p] 3)
    rw [hz0] at this
    exact hidm this
  clear h1 k1
  cases R with
  | ok at' =>
    obtain ⟨x, t⟩ := at'
    rintro en w2 ⟨_, rfl, rfl, hr1, hbt⟩
    have HR1 := hidm hr1
    have HT := hidm (HBo.out.trans hbt)
    have HV1 := hidm (HV.out.but (by omega) hbt)
    clear hr1 hbt
    have a0 := HV1.out.c0
    have a1 := HV1.out.c1
    have a2 := HV1.out.c2
    have a3 := HV1.out.c3
    have az := HV1.out.z
    have HP := hidm (put4_vb (k := x.k) (n := x.n) (x := x.b) (t := S x.s) HV1.out)
    simp only [V.agg]
    go_wp2_with fail
    refine leaves_cons (f := 73) (args := #[.pointer (some ⟨w.heap.size + 2, 0, none⟩), .pointer (some ⟨w.heap.size, 0, none⟩)]) (by simp) (by simp [go_sem]) ?_
    refine (catch_idle_v _ _ _).mono ?_
    rintro e u' w'' ⟨rfl, rfl, hw⟩
    have hw2 : w'' = put4 w2 (w.heap.size + 1) (.int .i64 x.k) (.int .i64 x.n) (.int .u64 x.b) (.string (S x.s)) := hw
    clear hw
    subst hw2
    have p0 := HP.out.c0
    have p1 := HP.out.c1
    have p2 := HP.out.c2
    have p3 := HP.out.c3
    exact ⟨.agg #[.int .i64 x.k, .int .i64 x.n, .int .u64 x.b, .string (S x.s)], by simp [results, Try.results53, go_sem, p0, p1, p2, p3], _, rfl, rfl, put4_rdr HR1.out (by omega), put4_but HT.out (by omega)⟩
  | error x =>
    rintro en w2 ⟨q, rfl, hr1, hbt⟩
    have HR1 := hidm hr1
    have HT := hidm (HBo.out.trans hbt)
    have HC0 := hidm (hbt.keeps (by omega) HC.out)
    have HI0 := hidm (hbt.keeps (by omega) HI.out)
    have HV1 := hidm (HV.out.but (by omega) hbt)
    clear hr1 hbt
    go_wp2_with fail
    refine leaves_cons (f := 73) (args := #[.pointer (some ⟨w.heap.size + 2, 0, none⟩), .pointer (some ⟨w.heap.size, 0, none⟩)]) (by simp) (by simp [go_sem]) ?_
    refine (catch_pan_v _ _ r s p q x _ HI0.out HC0.out HR1.out).mono ?_
    rintro e u' w'' ⟨rfl, rfl, rfl⟩
    have HV2 := (HV1.out.other (a := ⟨r, 1, none⟩) (show w.heap.size + 1 ≠ r by omega) (.int .i64 p)).other (a := ⟨r, 2, none⟩) (show w.heap.size + 1 ≠ r by omega) (.int .i64 x)
    have p0 := HV2.c0
    have p1 := HV2.c1
    have p2 := HV2.c2
    have p3 := HV2.c3
    exact ⟨.agg #[.int .i64 0, .int .i64 0, .int .u64 0, .string ⟨#[]⟩], by simp [results, Try.results53, go_sem, p0, p1, p2, p3], rfl, (HR1.out.set1 p).set2 x, (HT.out.set _ _).set _ _⟩
set_option maxHeartbeats 800000 in
set_option maxRecDepth 100000 in
theorem read_v_shut (r : Nat) (s : ByteArray) (p e : Int) (he : (e != 0) = true) (f : Value) (w : World) (h : Rdr r s p e w) :
    Calls Try.prog 53 #[.pointer (some ⟨r, 0, none⟩), f] w fun en w' => en = .returned (.agg #[.int .i64 0, .int .i64 0, .int .u64 0, .string ⟨#[]⟩]) ∧ Below w.heap.size w w' := by
  have HR := hidm h
  have hV := Vb.new (w.alloc (.cells #[.pointer (some ⟨r, 0, none⟩)] 24)) 0 0 0 ⟨#[]⟩
  have hsz : (w.alloc (.cells #[.pointer (some ⟨r, 0, none⟩)] 24)).heap.size = w.heap.size + 1 := by simp
  rw [hsz] at hV
  have HV := hidm hV
  clear hV hsz
  go_enter_defers Try.func53, Try.ntmps53
  go_wp2_with fail
  refine (err_any r s p e _ ((HR.out.past _).past _)).mono ?_
  rintro en w1 ⟨rfl, rfl⟩
  have a0 := HV.out.c0
  have a1 := HV.out.c1
  have a2 := HV.out.c2
  have a3 := HV.out.c3
  have az := HV.out.z
  go_wp2_with fail
  have p0 := HV.out.c0
  have p1 := HV.out.c1
  have p2 := HV.out.c2
  have p3 := HV.out.c3
  exact ⟨.agg #[.int .i64 0, .int .i64 0, .int .u64 0, .string ⟨#[]⟩], by simp [results, Try.results53, go_sem, p0, p1, p2, p3], rfl, ((Below.refl _ _).alloc (Nat.le_refl _) _).alloc (by simp) _⟩
set_option maxHeartbeats 800000 in
set_option maxRecDepth 100000 in
theorem read_v_nil (f : Value) (w : World) :
    Calls Try.prog 53 #[.pointer none, f] w fun en w' => en = .returned (.agg #[.int .i64 0, .int .i64 0, .int .u64 0, .string ⟨#[]⟩]) ∧ Below w.heap.size w w' := by
  have hV := Vb.new (w.alloc (.cells #[.pointer none] 24)) 0 0 0 ⟨#[]⟩
  have hsz : (w.alloc (.cells #[.pointer none] 24)).heap.size = w.heap.size + 1 := by simp
  rw [hsz] at hV
  have HV := hidm hV
  clear hV hsz
  go_enter_defers Try.func53, Try.ntmps53
  go_wp2_with fail
  refine (err_nil _).mono ?_
  rintro en w1 ⟨rfl, rfl⟩
  have a0 := HV.out.c0
  have a1 := HV.out.c1
  have a2 := HV.out.c2
  have a3 := HV.out.c3
  have az := HV.out.z
  go_wp2_with fail
  have p0 := HV.out.c0
  have p1 := HV.out.c1
  have p2 := HV.out.c2
  have p3 := HV.out.c3
  exact ⟨.agg #[.int .i64 0, .int .i64 0, .int .u64 0, .string ⟨#[]⟩], by simp [results, Try.results53, go_sem, p0, p1, p2, p3], rfl, ((Below.refl _ _).alloc (Nat.le_refl _) _).alloc (by simp) _⟩
/-! the method -/
theorem m_v_open (r : Nat) (s : ByteArray) (p : Nat) (w : World) (h : Rdr r s p 0 w) (R : Except Nat (V × List UInt8))
    (hc : ∀ w1, Rdr r s p 0 w1 → Calls Try.prog 54 #[.pointer (some ⟨r, 0, none⟩)] w1 fun en w' => Part r s 0 w1 VVal R en w') :
    Calls Try.prog 19 #[.pointer (some ⟨r, 0, none⟩)] w fun en w' => Call r s p w VVal (.agg #[.int .i64 0, .int .i64 0, .int .u64 0, .string ⟨#[]⟩]) R en w' := by
  have HV := hidm (Vb.new w 0 0 0 ⟨#[]⟩)
  have hrlt := h.lt
  have hsz : (w.alloc (.cells #[.int .i64 0, .int .i64 0, .int .u64 0, .string ⟨#[]⟩] 33)).heap.size = w.heap.size + 1 := by simp
  have HR := read_v_open r s p _ (h.past (.cells #[.int .i64 0, .int .i64 0, .int .u64 0, .string ⟨#[]⟩] 33)) R hc
  have HB := hidm ((But.refl r w).alloc (.cells #[.int .i64 0, .int .i64 0, .int .u64 0, .string ⟨#[]⟩] 33))
  clear hsz
  go_enter Try.func19, Try.ntmps19
  go_wp2_with fail
  refine HR.mono ?_
  cases R with
  | ok at' =>
    obtain ⟨x, t⟩ := at'
    rintro en w1 ⟨_, rfl, rfl, hr1, hb1⟩
    have HV1 := hidm (HV.out.but (by omega) hb1)
    have HR1 := hidm hr1
    have HT := hidm (HB.out.trans hb1)
    clear hr1 hb1
    have a0 := HV1.out.c0
    have a1 := HV1.out.c1
    have a2 := HV1.out.c2
    have a3 := HV1.out.c3
    have az := HV1.out.z
    have HP := hidm (put4_vb (k := x.k) (n := x.n) (x := x.b) (t := S x.s) HV1.out)
    simp only [V.agg]
    go_wp2_with fail
    have p0 := HP.out.c0
    have p1 := HP.out.c1
    have p2 := HP.out.c2
    have p3 := HP.out.c3
    show bodyPost _ _ _ _ _ (put4 w1 w.heap.size (.int .i64 x.k) (.int .i64 x.n) (.int .u64 x.b) (.string (S x.s)))
    exact bodyPost_ret (v := .agg #[.int .i64 x.k, .int .i64 x.n, .int .u64 x.b, .string (S x.s)]) (by simp [results, Try.results19, go_sem, p0, p1, p2, p3]) rfl ⟨_, rfl, rfl, put4_rdr HR1.out (by omega), put4_but HT.out (by omega)⟩
  | error x =>
    rintro en w1 ⟨rfl, hr1, hb1⟩
    have HV1 := hidm (HV.out.but (by omega) hb1)
    have HR1 := hidm hr1
    have HT := hidm (HB.out.trans hb1)
    clear hr1 hb1
    have a0 := HV1.out.c0
    have a1 := HV1.out.c1
    have a2 := HV1.out.c2
    have a3 := HV1.out.c3
    have az := HV1.out.z
    have HP := hidm (put4_vb (k := 0) (n := 0) (x := 0) (t := ⟨#[]⟩) HV1.out)
    go_wp2_with fail
    have p0 := HP.out.c0
    have p1 := HP.out.c1
    have p2 := HP.out.c2
    have p3 := HP.out.c3
    show bodyPost _ _ _ _ _ (put4 w1 w.heap.size (.int .i64 0) (.int .i64 0) (.int .u64 0) (.string ⟨#[]⟩))
    exact bodyPost_ret (v := .agg #[.int .i64 0, .int .i64 0, .int .u64 0, .string ⟨#[]⟩]) (by simp [results, Try.results19, go_sem, p0, p1, p2, p3]) rfl ⟨rfl, put4_rdr HR1.out (by omega), put4_but HT.out (by omega)⟩
theorem m_v_shut (r : Nat) (s : ByteArray) (p e : Int) (he : (e != 0) = true) (w : World) (h : Rdr r s p e w) :
    Calls Try.prog 19 #[.pointer (some ⟨r, 0, none⟩)] w fun en w' => en = .returned (.agg #[.int .i64 0, .int .i64 0, .int .u64 0, .string ⟨#[]⟩]) ∧ Below w.heap.size w w' := by
  have HV := hidm (Vb.new w 0 0 0 ⟨#[]⟩)
  have HB := hidm ((Below.refl w.heap.size w).alloc (Nat.le_refl _) (.cells #[.int .i64 0, .int .i64 0, .int .u64 0, .string ⟨#[]⟩] 33))
  have hc := read_v_shut r s p e he (.func (.func 54) #[] #[]) _ (h.past (.cells #[.int .i64 0, .int .i64 0, .int .u64 0, .string ⟨#[]⟩] 33))
  go_enter Try.func19, Try.ntmps19
  go_wp2_with fail
  refine hc.mono ?_
  rintro en w1 ⟨rfl, hb1⟩
  have HV1 := hidm (HV.out.later hb1)
  have HB1 := hidm (HB.out.trans (hb1.mono (by simp)))
  clear hb1
  have a0 := HV1.out.c0
  have a1 := HV1.out.c1
  have a2 := HV1.out.c2
  have a3 := HV1.out.c3
  have az := HV1.out.z
  have HP := hidm (put4_vb (k := 0) (n := 0) (x := 0) (t := ⟨#[]⟩) HV1.out)
  go_wp2_with fail
  have p0 := HP.out.c0
  have p1 := HP.out.c1
  have p2 := HP.out.c2
  have p3 := HP.out.c3
  show bodyPost _ _ _ _ _ (put4 w1 w.heap.size (.int .i64 0) (.int .i64 0) (.int .u64 0) (.string ⟨#[]⟩))
  exact bodyPost_ret (v := .agg #[.int .i64 0, .int .i64 0, .int .u64 0, .string ⟨#[]⟩]) (by simp [results, Try.results19, go_sem, p0, p1, p2, p3]) rfl ⟨rfl, put4_below _ _ _ _ _ (Nat.le_refl _) HB1.out⟩
theorem m_v_nil (w : World) :
    Calls Try.prog 19 #[.pointer none] w fun en w' => en = .returned (.agg #[.int .i64 0, .int .i64 0, .int .u64 0, .string ⟨#[]⟩]) ∧ Below w.heap.size w w' := by
  have HV := hidm (Vb.new w 0 0 0 ⟨#[]⟩)
  have HB := hidm ((Below.refl w.heap.size w).alloc (Nat.le_refl _) (.cells #[.int .i64 0, .int .i64 0, .int .u64 0, .string ⟨#[]⟩] 33))
  have hc := read_v_nil (.func (.func 54) #[] #[]) (w.alloc (.cells #[.int .i64 0, .int .i64 0, .int .u64 0, .string ⟨#[]⟩] 33))
  go_enter Try.func19, Try.ntmps19
  go_wp2_with fail
  refine hc.mono ?_
  rintro en w1 ⟨rfl, hb1⟩
  have HV1 := hidm (HV.out.later hb1)
  have HB1 := hidm (HB.out.trans (hb1.mono (by simp)))
  clear hb1
  have a0 := HV1.out.c0
  have a1 := HV1.out.c1
  have a2 := HV1.out.c2
  have a3 := HV1.out.c3
  have az := HV1.out.z
  have HP := hidm (put4_vb (k := 0) (n := 0) (x := 0) (t := ⟨#[]⟩) HV1.out)
  go_wp2_with fail
  have p0 := HP.out.c0
  have p1 := HP.out.c1
  have p2 := HP.out.c2
  have p3 := HP.out.c3
  show bodyPost _ _ _ _ _ (put4 w1 w.heap.size (.int .i64 0) (.int .i64 0) (.int .u64 0) (.string ⟨#[]⟩))
  exact bodyPost_ret (v := .agg #[.int .i64 0, .int .i64 0, .int .u64 0, .string ⟨#[]⟩]) (by simp [results, Try.results19, go_sem, p0, p1, p2, p3]) rfl ⟨rfl, put4_below _ _ _ _ _ (Nat.le_refl _) HB1.out⟩

set_option maxHeartbeats 800000 in
set_option maxRecDepth 100000 in
theorem catch_pan_l (b c r : Nat) (s : ByteArray) (p q x : Int) (w : World) (hb : w.heap[b]? = some (.cells #[.int .i64 p] 3 (0, 0))) (hc : w.heap[c]? = some (.cells #[.pointer (some ⟨r, 0, none⟩)] 24 (0, 0))) (hr : Rdr r s q 0 w) :
    CallsD Try.prog 76 #[.pointer (some ⟨b, 0, none⟩), .pointer (some ⟨c, 0, none⟩)] (.panicking (pan x)) w fun e u' w' =>
      e = .returned (.tuple #[]) ∧ u' = .panicking [{ v := .iface 38 (.int .i64 x), recovered := true }] ∧ w' = (w.setCell ⟨r, 1, none⟩ (.int .i64 p)).setCell ⟨r, 2, none⟩ (.int .i64 x) := by
  have q0 := cell_of_one hb
  have q1 := cell_of_one hc
  have q2 := hr.z1
  have q3 : (w.setCell ⟨r, 1, none⟩ (.int .i64 p)).frozen? ⟨r, 2, none⟩ = false := (hr.set1 p).z2
  have q4 := hr.c1
  have q5 : (w.setCell ⟨r, 1, none⟩ (.int .i64 p)).cell? ⟨r, 2, none⟩ = some (.int .i64 0) := (hr.set1 p).c2
  refine callsD_of_wpS Try.func76 rfl fun c₀ cs hu => ?_
  simp only [pan] at hu
  apply wpS_seq
  apply wpS_region
  simp [wpOpsS, go_sem, recoverD, hu, run_assert_hit, Try.ntmps76, Exit.thenS]
  refine wpS_of_wp (wp_mono (Q := fun e a' w' => e = Exit.normal ∧ a'.defers = [] ∧ w' = (w.setCell ⟨r, 1, none⟩ (.int .i64 p)).setCell ⟨r, 2, none⟩ (.int .i64 x)) ?_ ?_)
  · refine wp_act (a' := { tmps := #[.pointer (some ⟨b, 0, none⟩), .pointer (some ⟨c, 0, none⟩), .int .i64 x, .bool true, .tuple #[.int .i64 x, .bool true], .iface 38 (.int .i64 x), .tuple #[.int .i64 x, .bool true], .int .i64 x, .bool true, undef, undef, undef, undef, undef, undef, undef, undef, undef], defers := [] }) (congrArg (fun t => ({ tmps := t, defers := [] } : Act)) (Array.toList_inj.1 (by simp [List.replicate]))) ?_
    go_wp2
  · rintro e a' w' ⟨rfl, hd, rfl⟩
    exact ⟨hd, _, rfl, _, results_none rfl _ _ _, rfl, rfl, rfl⟩
set_option maxHeartbeats 800000 in
set_option maxRecDepth 100000 in
theorem catch_idle_l (b c : Nat) (w : World) :
    CallsD Try.prog 76 #[.pointer (some ⟨b, 0, none⟩), .pointer (some ⟨c, 0, none⟩)] .returning w fun e u' w' => e = .returned (.tuple #[]) ∧ u' = .returning ∧ w' = w := by
  refine callsD_of_wpS Try.func76 rfl fun c₀ cs hu => ?_
  apply wpS_seq
  apply wpS_region
  simp [wpOpsS, go_sem, recoverD, hu, run_assert_nil, Try.ntmps76, Exit.thenS]
  apply wpS_seq
  apply wpS_region
  simp [wpOpsS, go_sem, Exit.thenS]
  refine wpS_cond (t := false) (by simp [Act.eval, Array.replicate]) ?_
  simp only [Bool.false_eq_true, if_false]
  refine wpS_of_wp (wp_skip ?_)
  cases c₀
  simp_all [bodyPostS, results, Try.results76]
set_option maxHeartbeats 800000 in
set_option maxRecDepth 100000 in
theorem read_l_open (r : Nat) (s : ByteArray) (p : Nat) (w : World) (h : Rdr r s p 0 w) {α : Type} (V : α → Value → World → Prop) (R : Except Nat (α × List UInt8))
    (hc : ∀ w1, Rdr r s p 0 w1 → Calls Try.prog 57 #[.pointer (some ⟨r, 0, none⟩)] w1 fun en w' => Part r s 0 w1 V R en w') :
    Calls Try.prog 56 #[.pointer (some ⟨r, 0, none⟩), .func (.func 57) #[] #[]] w fun en w' => Call r s p w V (.slice none 0 0) R en w' := by
  have hmf : ∀ (fn : Fn) (first cap : Array Value) (w : World), (Instr.makeFunc fn first cap).run Try.prog w = .ok (.func fn first cap) w := fun _ _ _ _ => rfl
  have HR := hidm h
  go_enter_defers Try.func56, Try.ntmps56
  go_wp2_with fail
  have h1 := (HR.out.past (.cells #[.pointer (some ⟨r, 0, none⟩)] 24)).c1
  refine (err_any r s p 0 _ (HR.out.past _)).mono ?_
  rintro en w1 ⟨rfl, rfl⟩
  go_wp2_with fail
  have HA := hidm ((HR.out.past (.cells #[.pointer (some ⟨r, 0, none⟩)] 24)).past (.cells #[.int .i64 p] 3))
  refine (hc _ HA.out).mono ?_
  have HBo : Hid (But r w ((w.alloc (.cells #[.pointer (some ⟨r, 0, none⟩)] 24)).alloc (.cells #[.int .i64 p] 3))) := hidm (((But.refl r w).alloc _).alloc _)
  have hrlt := h.lt
  have hb0 : ((w.alloc (.cells #[.pointer (some ⟨r, 0, none⟩)] 24)).alloc (.cells #[.int .i64 p] 3)).heap[w.heap.size]? = some (.cells #[.pointer (some ⟨r, 0, none⟩)] 24 (0, 0)) := below_keeps ((Below.refl _ _).alloc (Nat.le_refl _) _) (heap_alloc_new _ _)
  have hb1 : ((w.alloc (.cells #[.pointer (some ⟨r, 0, none⟩)] 24)).alloc (.cells #[.int .i64 p] 3)).heap[w.heap.size + 1]? = some (.cells #[.int .i64 p] 3 (0, 0)) := by
    have := heap_alloc_new (w.alloc (.cells #[.pointer (some ⟨r, 0, none⟩)] 24)) (.cells #[.int .i64 p] 3)
    simpa using this
  have HB0 := hidm hb0
  have HB1 := hidm hb1
  clear hb0 hb1 h1
  cases R with
  | ok at' =>
    obtain ⟨a, t⟩ := at'
    rintro en w1 ⟨v, rfl, hv, hr1, hbt⟩
    have HV := hidm hv
    have HR1 := hidm hr1
    have HT := hidm (HBo.out.trans hbt)
    clear hv hr1 hbt
    go_wp2_with fail
    refine leaves_cons (f := 76) (args := #[.pointer (some ⟨w.heap.size + 1, 0, none⟩), .pointer (some ⟨w.heap.size, 0, none⟩)]) (by simp) (by simp [go_sem]) ?_
    refine (catch_idle_l _ _ _).mono ?_
    rintro e u' w'' ⟨rfl, rfl, rfl⟩
    exact ⟨_, results_tmp rfl _ _ _, v, rfl, HV.out, HR1.out, HT.out⟩
  | error x =>
    rintro en w1 ⟨q, rfl, hr1, hbt⟩
    have HR1 := hidm hr1
    have HT := hidm (HBo.out.trans hbt)
    have HC0 := hidm (hbt.keeps (by omega) HB0.out)
    have HC1 := hidm (hbt.keeps (by omega) HB1.out)
    clear hr1 hbt
    go_wp2_with fail
    refine leaves_cons (f := 76) (args := #[.pointer (some ⟨w.heap.size + 1, 0, none⟩), .pointer (some ⟨w.heap.size, 0, none⟩)]) (by simp) (by simp [go_sem]) ?_
    refine (catch_pan_l _ _ r s p q x _ HC1.out HC0.out HR1.out).mono ?_
    rintro e u' w'' ⟨rfl, rfl, rfl⟩
    refine ⟨_, results_tmp rfl _ _ _, rfl, (HR1.out.set1 p).set2 x, (HT.out.set _ _).set _ _⟩
set_option maxHeartbeats 800000 in
set_option maxRecDepth 100000 in
theorem read_l_shut (r : Nat) (s : ByteArray) (p e : Int) (he : (e != 0) = true) (f : Value) (w : World) (h : Rdr r s p e w) :
    Calls Try.prog 56 #[.pointer (some ⟨r, 0, none⟩), f] w fun en w' => en = .returned (.slice none 0 0) ∧ Below w.heap.size w w' := by
  have HR := hidm h
  go_enter_defers Try.func56, Try.ntmps56
  go_wp2_with fail
  refine (err_any r s p e _ (HR.out.past _)).mono ?_
  rintro en w1 ⟨rfl, rfl⟩
  go_wp2_with fail
  exact ⟨_, results_tmp rfl _ _ _, rfl, (Below.refl _ _).alloc (Nat.le_refl _) _⟩
set_option maxHeartbeats 800000 in
set_option maxRecDepth 100000 in
theorem read_l_nil (f : Value) (w : World) :
    Calls Try.prog 56 #[.pointer none, f] w fun en w' => en = .returned (.slice none 0 0) ∧ Below w.heap.size w w' := by
  go_enter_defers Try.func56, Try.ntmps56
  go_wp2_with fail
  refine (err_nil _).mono ?_
  rintro en w1 ⟨rfl, rfl⟩
  go_wp2_with fail
  exact ⟨_, results_tmp rfl _ _ _, rfl, (Below.refl _ _).alloc (Nat.le_refl _) _⟩
/-! the method -/
theorem m_l_open (r : Nat) (s : ByteArray) (p : Nat) (w : World) (h : Rdr r s p 0 w) {α : Type} (V : α → Value → World → Prop) (R : Except Nat (α × List UInt8))
    (hc : ∀ w1, Rdr r s p 0 w1 → Calls Try.prog 57 #[.pointer (some ⟨r, 0, none⟩)] w1 fun en w' => Part r s 0 w1 V R en w') :
    Calls Try.prog 22 #[.pointer (some ⟨r, 0, none⟩)] w fun en w' => Call r s p w V (.slice none 0 0) R en w' := by
  have HR := read_l_open r s p w h V R hc
  go_enter Try.func22, Try.ntmps22
  go_wp2_with fail
  refine HR.mono ?_
  cases R with
  | ok at' =>
    rintro en w1 ⟨v, rfl, hv⟩
    have HV := hidm hv
    clear hv
    go_wp2_with fail
    go_ret
    exact ⟨v, rfl, HV.out⟩
  | error x =>
    rintro en w1 ⟨rfl, hv⟩
    have HV := hidm hv
    clear hv
    go_wp2_with fail
    go_ret
    exact ⟨rfl, HV.out⟩
theorem m_l_shut (r : Nat) (s : ByteArray) (p e : Int) (he : (e != 0) = true) (w : World) (h : Rdr r s p e w) :
    Calls Try.prog 22 #[.pointer (some ⟨r, 0, none⟩)] w fun en w' => en = .returned (.slice none 0 0) ∧ Below w.heap.size w w' := by
  go_enter Try.func22, Try.ntmps22
  go_wp2_with fail
  refine (read_l_shut r s p e he _ w h).mono ?_
  rintro en w1 ⟨rfl, hb⟩
  go_wp2_with fail
  go_ret
  exact ⟨rfl, hb⟩
theorem m_l_nil (w : World) :
    Calls Try.prog 22 #[.pointer none] w fun en w' => en = .returned (.slice none 0 0) ∧ Below w.heap.size w w' := by
  go_enter Try.func22, Try.ntmps22
  go_wp2_with fail
  refine (read_l_nil _ w).mono ?_
  rintro en w1 ⟨rfl, hb⟩
  go_wp2_with fail
  go_ret
  exact ⟨rfl, hb⟩
end Cod
end Go.Proofs.Ytinnkdbojgoicaa
