/- Readers of a number: New, Uint, as a caller meets them. Conditions: as each theorem says. -/
import Derived.Test.YtmccnlffikegfaaGreatDoorZCrto
import Derived.Test.YtmccnlffikegfaaGreatDoorZKrto
import Derived.Laws.DeepNot64
namespace Go.Proofs.YtmccnlffikegfaaGreatDoor
open Go.RowKit
namespace Cod
theorem len_eq (s : ByteArray) : s.data.toList.length = s.size := Array.length_toList
/-- A rest of the bytes, by its length. -/
theorem clone_any (s : ByteArray) (w : World) (hs : s.size ≤ 281474976710656) :
    Calls Tryz.prog 93 #[.string s] w fun e w' => e = .returned (.string s) ∧ Below w.heap.size w w' := by
  go_enter Tryz.func93, Tryz.ntmps93
  go_wp2_with fail
  refine (Tryz.stringslite_Clone s w hs).mono ?_
  rintro e w' ⟨rfl, hb⟩
  go_wp2_with fail
  go_ret
  exact ⟨rfl, hb⟩
theorem new_any (s : ByteArray) (w : World) (hs : s.size ≤ 281474976710656) :
    Calls Tryz.prog 94 #[.string s] w fun e w' => ∃ r, w.heap.size ≤ r ∧ e = .returned (.pointer (some ⟨r, 0, none⟩)) ∧ Rdr r s 0 0 w' ∧ Below w.heap.size w w' := by
  go_enter Tryz.func94, Tryz.ntmps94
  go_wp2_with fail
  refine (clone_any s w hs).mono ?_
  rintro e w1 ⟨rfl, hb⟩
  have HB := hidm hb
  have hsz := hb.size
  clear hb
  go_wp2_with fail
  go_ret
  exact ⟨_, hsz, rfl, Rdr.new _ _ _ _, HB.out.alloc hsz _⟩
/-- What a call of a reader comes to: the answer, and the place behind; or an error, the zero z, and the place where it began. -/
def Call {α : Type} (r : Nat) (s : ByteArray) (p : Int) (w : World) (V : α → Value → World → Prop) (z : Value) : Except Nat (α × List UInt8) → Ending → World → Prop
  | .ok (a, t), en, w' => ∃ v, en = .returned v ∧ V a v w' ∧ Rdr r s (s.size - t.length : Nat) 0 w' ∧ But r w w'
  | .error x, en, w' => en = .returned z ∧ Rdr r s p x w' ∧ But r w w'

theorem wp_act {P : Program} {c : Code} {Q : Exit → Act → World → Prop} {a a' : Act} {w : World} (h : a = a') (g : c.wp P Q a' w) : c.wp P Q a w := h ▸ g
set_option maxRecDepth 100000 in
theorem run_assert_hit (v : Value) (w : World) : (Instr.typeAssert (.iface 31 v) 20 31 true).run Tryz.prog w = .ok (.tuple #[v, .bool true]) w := by rfl
set_option maxRecDepth 100000 in
theorem run_assert_nil (w : World) : (Instr.typeAssert .nilIface 20 31 true).run Tryz.prog w = .ok (.tuple #[.int .i64 0, .bool false]) w := by rfl

set_option maxHeartbeats 800000 in
set_option maxRecDepth 100000 in
theorem catch_pan_u (b c r : Nat) (s : ByteArray) (p q x : Int) (w : World) (hb : w.heap[b]? = some (.cells #[.int .i64 p] 3 (0, 0))) (hc : w.heap[c]? = some (.cells #[.pointer (some ⟨r, 0, none⟩)] 145 (0, 0))) (hr : Rdr r s q 0 w) :
    CallsD Tryz.prog 134 #[.pointer (some ⟨b, 0, none⟩), .pointer (some ⟨c, 0, none⟩)] (.panicking (pan x)) w fun e u' w' =>
      e = .returned (.tuple #[]) ∧ u' = .panicking [{ v := .iface 31 (.int .i64 x), recovered := true }] ∧ w' = (w.setCell ⟨r, 1, none⟩ (.int .i64 p)).setCell ⟨r, 2, none⟩ (.int .i64 x) := by
  have q0 := cell_of_one hb
  have q1 := cell_of_one hc
  have q2 := hr.z1
  have q3 : (w.setCell ⟨r, 1, none⟩ (.int .i64 p)).frozen? ⟨r, 2, none⟩ = false := (hr.set1 p).z2
  have q4 := hr.c1
  have q5 : (w.setCell ⟨r, 1, none⟩ (.int .i64 p)).cell? ⟨r, 2, none⟩ = some (.int .i64 0) := (hr.set1 p).c2
  refine callsD_of_wpS Tryz.func134 rfl fun c₀ cs hu => ?_
  simp only [pan] at hu
  apply wpS_seq
  apply wpS_region
  simp [wpOpsS, go_sem, recoverD, hu, run_assert_hit, Tryz.ntmps134, Exit.thenS]
  refine wpS_of_wp (wp_mono (Q := fun e a' w' => e = Exit.normal ∧ a'.defers = [] ∧ w' = (w.setCell ⟨r, 1, none⟩ (.int .i64 p)).setCell ⟨r, 2, none⟩ (.int .i64 x)) ?_ ?_)
  · refine wp_act (a' := { tmps := #[.pointer (some ⟨b, 0, none⟩), .pointer (some ⟨c, 0, none⟩), .int .i64 x, .bool true, .tuple #[.int .i64 x, .bool true], .iface 31 (.int .i64 x), .tuple #[.int .i64 x, .bool true], .int .i64 x, .bool true, undef, undef, undef, undef, undef, undef, undef, undef, undef], defers := [] }) (congrArg (fun t => ({ tmps := t, defers := [] } : Act)) (Array.toList_inj.1 (by simp [List.replicate]))) ?_
    go_wp2
  · rintro e a' w' ⟨rfl, hd, rfl⟩
    exact ⟨hd, _, rfl, _, results_none rfl _ _ _, rfl, rfl, rfl⟩
set_option maxHeartbeats 800000 in
set_option maxRecDepth 100000 in
theorem catch_idle_u (b c : Nat) (w : World) :
    CallsD Tryz.prog 134 #[.pointer (some ⟨b, 0, none⟩), .pointer (some ⟨c, 0, none⟩)] .returning w fun e u' w' => e = .returned (.tuple #[]) ∧ u' = .returning ∧ w' = w := by
  refine callsD_of_wpS Tryz.func134 rfl fun c₀ cs hu => ?_
  apply wpS_seq
  apply wpS_region
  simp [wpOpsS, go_sem, recoverD, hu, run_assert_nil, Tryz.ntmps134, Exit.thenS]
  apply wpS_seq
  apply wpS_region
  simp [wpOpsS, go_sem, Exit.thenS]
  refine wpS_cond (t := false) (by simp [Act.eval, Array.replicate]) ?_
  simp only [Bool.false_eq_true, if_false]
  refine wpS_of_wp (wp_skip ?_)
  cases c₀
  simp_all [bodyPostS, results, Tryz.results134]
set_option maxHeartbeats 800000 in
set_option maxRecDepth 100000 in
theorem read_u_open (r : Nat) (s : ByteArray) (p : Nat) (w : World) (h : Rdr r s p 0 w) {α : Type} (V : α → Value → World → Prop) (R : Except Nat (α × List UInt8))
    (hc : ∀ w1, Rdr r s p 0 w1 → Calls Tryz.prog 119 #[.pointer (some ⟨r, 0, none⟩)] w1 fun en w' => Part r s 0 w1 V R en w') :
    Calls Tryz.prog 118 #[.pointer (some ⟨r, 0, none⟩), .func (.func 119) #[] #[]] w fun en w' => Call r s p w V (.int .u64 0) R en w' := by
  have hmf : ∀ (fn : Fn) (first cap : Array Value) (w : World), (Instr.makeFunc fn first cap).run Tryz.prog w = .ok (.func fn first cap) w := fun _ _ _ _ => rfl
  have HR := hidm h
  go_enter_defers Tryz.func118, Tryz.ntmps118
  go_wp2_with fail
  have h1 := (HR.out.past (.cells #[.pointer (some ⟨r, 0, none⟩)] 145)).c1
  refine (err_any r s p 0 _ (HR.out.past _)).mono ?_
  rintro en w1 ⟨rfl, rfl⟩
  go_wp2_with fail
  have HA := hidm ((HR.out.past (.cells #[.pointer (some ⟨r, 0, none⟩)] 145)).past (.cells #[.int .i64 p] 3))
  refine (hc _ HA.out).mono ?_
  have HBo : Hid (But r w ((w.alloc (.cells #[.pointer (some ⟨r, 0, none⟩)] 145)).alloc (.cells #[.int .i64 p] 3))) := hidm (((But.refl r w).alloc _).alloc _)
  have hrlt := h.lt
  have hb0 : ((w.alloc (.cells #[.pointer (some ⟨r, 0, none⟩)] 145)).alloc (.cells #[.int .i64 p] 3)).heap[w.heap.size]? = some (.cells #[.pointer (some ⟨r, 0, none⟩)] 145 (0, 0)) := below_keeps ((Below.refl _ _).alloc (Nat.le_refl _) _) (heap_alloc_new _ _)
  have hb1 : ((w.alloc (.cells #[.pointer (some ⟨r, 0, none⟩)] 145)).alloc (.cells #[.int .i64 p] 3)).heap[w.heap.size + 1]? = some (.cells #[.int .i64 p] 3 (0, 0)) := by
    have := heap_alloc_new (w.alloc (.cells #[.pointer (some ⟨r, 0, none⟩)] 145)) (.cells #[.int .i64 p] 3)
    simpa using this
  have HB0 := hidm hb0
  have HB1 := hidm hb1
  clear hb0 hb1 h1
  cases R with
  | ok at' =>
    obtain ⟨a, t⟩ := at'
    rintro en w1 ⟨v, rfl, hv, hr1, hbt⟩
    have HV := hidm hv
    have HR1 := hidm hr1
    have HT := hidm (HBo.out.trans hbt)
    clear hv hr1 hbt
    go_wp2_with fail
    refine leaves_cons (f := 134) (args := #[.pointer (some ⟨w.heap.size + 1, 0, none⟩), .pointer (some ⟨w.heap.size, 0, none⟩)]) (by simp) (by simp [go_sem]) ?_
    refine (catch_idle_u _ _ _).mono ?_
    rintro e u' w'' ⟨rfl, rfl, rfl⟩
    exact ⟨_, results_tmp rfl _ _ _, v, rfl, HV.out, HR1.out, HT.out⟩
  | error x =>
    rintro en w1 ⟨q, rfl, hr1, hbt⟩
    have HR1 := hidm hr1
    have HT := hidm (HBo.out.trans hbt)
    have HC0 := hidm (hbt.keeps (by omega) HB0.out)
    have HC1 := hidm (hbt.keeps (by omega) HB1.out)
    clear hr1 hbt
    go_wp2_with fail
    refine leaves_cons (f := 134) (args := #[.pointer (some ⟨w.heap.size + 1, 0, none⟩), .pointer (some ⟨w.heap.size, 0, none⟩)]) (by simp) (by simp [go_sem]) ?_
    refine (catch_pan_u _ _ r s p q x _ HC1.out HC0.out HR1.out).mono ?_
    rintro e u' w'' ⟨rfl, rfl, rfl⟩
    refine ⟨_, results_tmp rfl _ _ _, rfl, (HR1.out.set1 p).set2 x, (HT.out.set _ _).set _ _⟩
set_option maxHeartbeats 800000 in
set_option maxRecDepth 100000 in
theorem read_u_shut (r : Nat) (s : ByteArray) (p e : Int) (he : (e != 0) = true) (f : Value) (w : World) (h : Rdr r s p e w) :
    Calls Tryz.prog 118 #[.pointer (some ⟨r, 0, none⟩), f] w fun en w' => en = .returned (.int .u64 0) ∧ Below w.heap.size w w' := by
  have HR := hidm h
  go_enter_defers Tryz.func118, Tryz.ntmps118
  go_wp2_with fail
  refine (err_any r s p e _ (HR.out.past _)).mono ?_
  rintro en w1 ⟨rfl, rfl⟩
  go_wp2_with fail
  exact ⟨_, results_tmp rfl _ _ _, rfl, (Below.refl _ _).alloc (Nat.le_refl _) _⟩
set_option maxHeartbeats 800000 in
set_option maxRecDepth 100000 in
theorem read_u_nil (f : Value) (w : World) :
    Calls Tryz.prog 118 #[.pointer none, f] w fun en w' => en = .returned (.int .u64 0) ∧ Below w.heap.size w w' := by
  go_enter_defers Tryz.func118, Tryz.ntmps118
  go_wp2_with fail
  refine (err_nil _).mono ?_
  rintro en w1 ⟨rfl, rfl⟩
  go_wp2_with fail
  exact ⟨_, results_tmp rfl _ _ _, rfl, (Below.refl _ _).alloc (Nat.le_refl _) _⟩
/-! the method -/
theorem m_u_open (r : Nat) (s : ByteArray) (p : Nat) (w : World) (h : Rdr r s p 0 w) {α : Type} (V : α → Value → World → Prop) (R : Except Nat (α × List UInt8))
    (hc : ∀ w1, Rdr r s p 0 w1 → Calls Tryz.prog 119 #[.pointer (some ⟨r, 0, none⟩)] w1 fun en w' => Part r s 0 w1 V R en w') :
    Calls Tryz.prog 95 #[.pointer (some ⟨r, 0, none⟩)] w fun en w' => Call r s p w V (.int .u64 0) R en w' := by
  have HR := read_u_open r s p w h V R hc
  go_enter Tryz.func95, Tryz.ntmps95
  go_wp2_with fail
  refine HR.mono ?_
  cases R with
  | ok at' =>
    rintro en w1 ⟨v, rfl, hv⟩
    have HV := hidm hv
    clear hv
    go_wp2_with fail
    go_ret
    exact ⟨v, rfl, HV.out⟩
  | error x =>
    rintro en w1 ⟨rfl, hv⟩
    have HV := hidm hv
    clear hv
    go_wp2_with fail
    go_ret
    exact ⟨rfl, HV.out⟩
theorem m_u_shut (r : Nat) (s : ByteArray) (p e : Int) (he : (e != 0) = true) (w : World) (h : Rdr r s p e w) :
    Calls Tryz.prog 95 #[.pointer (some ⟨r, 0, none⟩)] w fun en w' => en = .returned (.int .u64 0) ∧ Below w.heap.size w w' := by
  go_enter Tryz.func95, Tryz.ntmps95
  go_wp2_with fail
  refine (read_u_shut r s p e he _ w h).mono ?_
  rintro en w1 ⟨rfl, hb⟩
  go_wp2_with fail
  go_ret
  exact ⟨rfl, hb⟩
theorem m_u_nil (w : World) :
    Calls Tryz.prog 95 #[.pointer none] w fun en w' => en = .returned (.int .u64 0) ∧ Below w.heap.size w w' := by
  go_enter Tryz.func95, Tryz.ntmps95
  go_wp2_with fail
  refine (read_u_nil _ w).mono ?_
  rintro en w1 ⟨rfl, hb⟩
  go_wp2_with fail
  go_ret
  exact ⟨rfl, hb⟩

end Cod
end Go.Proofs.YtmccnlffikegfaaGreatDoor
