/- Package code's Text: its bytes; a reader's Uint and Text in any state. Conditions: as each theorem says. -/
import Derived.Test.YtmccnlffikegfaaGreatDoorZWq
import Derived.Test.YtmccnlffikegfaaGreatDoorZCrto
import Derived.Laws.BitsAllLaws
import Derived.Laws.DeepNot64
import Derived.Test.YtmccnlffikegfaaGreatDoorRows
import Derived.Shelf.Strings.BuilderK
import Derived.Test.YtmccnlffikegfaaGreatDoorZKrto
import Derived.WalkKit
import Derived.WalkSpells
import Derived.WalkLawsBesides
namespace Go.Proofs.YtmccnlffikegfaaGreatDoor
open Go.RowKit
namespace Cod
theorem S_tB (t : ByteArray) : S (uB t.size) ++ t = S (tB t.data.toList) := by
  have : t.size = t.data.toList.length := (Array.length_toList).symm
  conv => lhs; rhs; rw [← S_of t]
  rw [S_append]; unfold tB; rw [this]
theorem text_any (t : ByteArray) (ht : t.size ≤ 9223372036854775700) (w : World) :
    Calls Tryz.prog 75 #[.string t] w fun e w' => e = .returned (.string (S (tB t.data.toList))) ∧ Below w.heap.size w w' := by
  have hl := uB_ten t.size (by omega)
  have hn : ¬ 9223372036854775807 < (uB t.size).length + t.size := by omega
  go_enter Tryz.func75, Tryz.ntmps75
  go_wp2_with fail
  refine (uint_any t.size (by omega) _).mono ?_
  rintro e w' ⟨rfl, hb⟩
  go_wp2_with fail
  go_ret
  exact ⟨congrArg (fun x => Ending.returned (.string x)) (S_tB t), hb⟩
/-- A rest of the bytes, by its length. -/
theorem rest_at {s : ByteArray} {p : Nat} {pre t : List UInt8} (h : s.data.toList.drop p = pre ++ t) : s.data.toList.drop (s.size - t.length) = t ∧ s.size - t.length ≤ s.size ∧ t.length ≤ s.size := by
  have h1 : t <:+ s.data.toList := (List.suffix_append pre t).trans (h ▸ List.drop_suffix p _)
  have h2 := h1.length_le
  rw [len_eq] at h2
  obtain ⟨q, hq⟩ := h1
  refine ⟨?_, Nat.sub_le _ _, h2⟩
  have h3 : q.length = s.size - t.length := by
    have := congrArg List.length hq
    rw [len_eq, List.length_append] at this
    exact Nat.eq_sub_of_add_eq this
  rw [← h3, ← hq, List.drop_left]
def VStr (l : List UInt8) (v : Value) (_ : World) : Prop := v = .string (S l)
def lenR (most : Nat) : Except Nat (Nat × List UInt8) → Except Nat (Nat × List UInt8)
  | .ok (n, t) => if most < n then .error 19 else .ok (n, t)
  | .error x => .error x
def len (most : Nat) (l : List UInt8) : Except Nat (Nat × List UInt8) := lenR most (num 0 0 l)
def txtR : Except Nat (Nat × List UInt8) → Except Nat (List UInt8 × List UInt8)
  | .ok (n, t) => if t.length < n then .error 8 else .ok (t.take n, t.drop n)
  | .error x => .error x
def txt (most : Nat) (l : List UInt8) : Except Nat (List UInt8 × List UInt8) := txtR (len most l)
set_option maxHeartbeats 1000000 in
theorem length_any (r : Nat) (s : ByteArray) (p : Nat) (e : Int) (most : Nat) (hm : most ≤ 9223372036854775807) (w : World) (h : Rdr r s p e w) (hp : p ≤ s.size) (hs : s.size ≤ 281474976710656) :
    Calls Tryz.prog 137 #[.pointer (some ⟨r, 0, none⟩), .int .i64 most] w fun en w' => Part r s e w (fun n v _ => v = .int .i64 (n : Nat)) (len most (s.data.toList.drop p)) en w' := by
  have hn := number_any r s p e w h hp (by omega)
  obtain ⟨R, hR⟩ : ∃ R, R = num 0 0 (s.data.toList.drop p) := ⟨_, rfl⟩
  unfold len
  rw [← hR] at hn ⊢
  have HR := hidm hR
  clear hR
  go_enter Tryz.func137, Tryz.ntmps137
  go_wp2_with fail
  refine hn.mono ?_
  cases R with
  | error x =>
    rintro en w1 ⟨q, rfl, hv⟩
    have HV := hidm hv
    clear hv
    go_wp2_with fail
    exact ⟨rfl, q, rfl, HV.out⟩
  | ok at' =>
    obtain ⟨n, t⟩ := at'
    rintro en w1 ⟨v, rfl, rfl, hv⟩
    have HV := hidm hv
    have hb := (read_ok HR.out.symm).2
    clear hv
    rcases Nat.lt_or_ge most n with h2 | h2
    · have h3 : (most : Int) < n := by omega
      have H4 := hidm (if_pos h2 : (if most < n then (.error 19 : Except Nat (Nat × List UInt8)) else .ok (n, t)) = .error 19)
      go_wp2_with fail
      refine ⟨rfl, ?_⟩
      simp only [lenR]
      rw [H4.out]
      exact ⟨_, rfl, HV.out⟩
    · have h3 : ¬ (most : Int) < n := by omega
      have H4 := hidm (if_neg (by omega) : (if most < n then (.error 19 : Except Nat (Nat × List UInt8)) else .ok (n, t)) = .ok (n, t))
      go_wp2_with fail
      go_ret
      simp only [lenR]
      rw [H4.out]
      exact ⟨_, rfl, rfl, HV.out⟩
theorem len_ok {m : Nat} {l t : List UInt8} {n : Nat} (h : len m l = .ok (n, t)) : num 0 0 l = .ok (n, t) ∧ n ≤ m := by
  unfold len lenR at h
  split at h
  · rename_i n' t' hn
    split at h
    · cases h
    · simp only [Except.ok.injEq, Prod.mk.injEq] at h
      obtain ⟨rfl, rfl⟩ := h
      exact ⟨hn, by omega⟩
  · cases h
theorem cut_size (s : ByteArray) (a b : Nat) : (s.extract a b).size = min b s.size - a := by simp [ByteArray.size_extract]
theorem cut_bytes (s : ByteArray) (q n : Nat) : s.extract q (q + n) = S ((s.data.toList.drop q).take n) := by
  apply ByteArray.ext
  rw [ByteArray.data_extract]
  apply Array.toList_inj.1
  simp only [Array.toList_extract, List.extract]
  rw [show q + n - q = n by omega]
set_option maxHeartbeats 2000000 in
set_option maxRecDepth 100000 in
theorem text_part (r : Nat) (s : ByteArray) (p : Nat) (e : Int) (most : Nat) (hm : most ≤ 9223372036854775807) (w : World) (h : Rdr r s p e w) (hp : p ≤ s.size) (hs : s.size ≤ 281474976710656) :
    Calls Tryz.prog 122 #[.pointer (some ⟨r, 0, none⟩), .int .i64 most] w fun en w' => Part r s e w VStr (txt most (s.data.toList.drop p)) en w' := by
  have hn := length_any r s p e most hm w h hp hs
  obtain ⟨R, hR⟩ : ∃ R, R = len most (s.data.toList.drop p) := ⟨_, rfl⟩
  unfold txt
  rw [← hR] at hn ⊢
  have HR := hidm hR
  clear hR
  go_enter Tryz.func122, Tryz.ntmps122
  go_wp2_with fail
  refine hn.mono ?_
  cases R with
  | error x =>
    rintro en w1 ⟨q, rfl, hv⟩
    have HV := hidm hv
    clear hv
    go_wp2_with fail
    exact ⟨rfl, q, rfl, HV.out⟩
  | ok at' =>
    obtain ⟨n, t⟩ := at'
    rintro en w1 ⟨v, rfl, rfl, hv, hbt⟩
    have hlen := (len_ok HR.out.symm)
    have hrest := rest_at (read_ok hlen.1).1
    obtain ⟨q, hq⟩ : ∃ q, q = s.size - t.length := ⟨_, rfl⟩
    rw [← hq] at hrest hv
    have htq : s.size - q = t.length := by have := hrest.2.2; omega
    have HV := hidm hv
    have HT := hidm hbt
    have HH := hidm hrest
    have hl := left_any r s q e w1 HV.out hrest.2.1 (by omega)
    rw [htq] at hl
    have hn9 : n ≤ 9223372036854775807 := by have := hlen.2; omega
    have hq9 : q ≤ s.size := hrest.2.1
    have HQ := hidm hq
    have HTQ := hidm htq
    clear hv hbt hrest hlen hq htq
    go_wp2_with fail
    refine hl.mono ?_
    rintro en w2 ⟨rfl, hb2⟩
    have HV2 := hidm (HV.out.later hb2)
    have HT2 := hidm (HT.out.trans (.of hb2))
    clear hb2
    rcases Nat.lt_or_ge t.length n with h2 | h2
    · have h3 : (t.length : Int) < n := by omega
      have H4 := hidm (if_pos h2 : (if t.length < n then (.error 8 : Except Nat (List UInt8 × List UInt8)) else .ok (t.take n, t.drop n)) = .error 8)
      go_wp2_with fail
      refine ⟨rfl, ?_⟩
      simp only [txtR]
      rw [H4.out]
      exact ⟨_, rfl, HV2.out, HT2.out⟩
    · have h3 : ¬ (t.length : Int) < n := by omega
      have H4 := hidm (if_neg (by omega) : (if t.length < n then (.error 8 : Except Nat (List UInt8 × List UInt8)) else .ok (t.take n, t.drop n)) = .ok (t.take n, t.drop n))
      have k1 := HV2.out.c1
      have z1 := HV2.out.z1
      have hqn : q + n ≤ s.size := by have := HTQ.out; omega
      go_wp2_with fail
      have hw : Rdr r s ((q : Int) + n) e (w2.setCell ⟨r, 1, none⟩ (.int .i64 ((q : Int) + n))) := HV2.out.set1 _
      have hbw : But r w (w2.setCell ⟨r, 1, none⟩ (.int .i64 ((q : Int) + n))) := HT2.out.set _ _
      have HW := hidm (And.intro hw hbw)
      clear hw hbw k1 z1
      have b1 : (q : Int) ≤ (q : Int) + n := by omega
      have b2 : (q : Int) + n ≤ (s.size : Int) := by omega
      go_region_held3 (fun w' => w'.cell? ⟨r, 0, none⟩ = some (.string s) ∧ w'.cell? ⟨r, 1, none⟩ = some (.int .i64 ((q : Int) + n)) ∧ Hid (Rdr r s ((q : Int) + n) e w' ∧ But r w w'))
        (first | (exact rs_step (by assumption) hb) | (exact rs_of HW.out.1 HW.out.2) | (exact rs_of (HW.out.1.later (below_drewN (Below.refl _ _) 1)) (HW.out.2.drew)) | go_keep)
        (first | (go_at_call 93; (with_reducible refine (clone_any _ _ (by rw [cut_size]; omega)).mono ?_); rintro e w' ⟨rfl, hb⟩))
      rename_i hS
      have HS := hidm hS.2.2.out
      clear hS
      go_wp2_with fail
      go_ret
      simp only [txtR]
      rw [H4.out]
      refine ⟨_, rfl, congrArg Value.string ?_, ?_, HS.out.2⟩
      · rw [show ((q : Int) + (n : Int)).toNat = q + n by omega, cut_bytes, HH.out.1]
      · have e1 : s.size - (t.drop n).length = q + n := by rw [List.length_drop]; have := HTQ.out; omega
        rw [e1]
        exact HS.out.1
theorem text_any_part (r : Nat) (s : ByteArray) (p : Nat) (e : Int) (w : World) (h : Rdr r s p e w) (hp : p ≤ s.size) (hs : s.size ≤ 281474976710656) :
    Calls Tryz.prog 121 #[.pointer (some ⟨r, 0, none⟩)] w fun en w' => Part r s e w VStr (txt 1000000 (s.data.toList.drop p)) en w' := by
  have hn := text_part r s p e 1000000 (by omega) w h hp hs
  obtain ⟨R, hR⟩ : ∃ R, R = txt 1000000 (s.data.toList.drop p) := ⟨_, rfl⟩
  rw [← hR] at hn ⊢
  clear hR
  go_enter Tryz.func121, Tryz.ntmps121
  go_wp2_with fail
  refine hn.mono ?_
  cases R with
  | error x =>
    rintro en w1 ⟨q, rfl, hv⟩
    have HV := hidm hv
    clear hv
    go_wp2_with fail
    exact ⟨rfl, q, rfl, HV.out⟩
  | ok at' =>
    obtain ⟨n, t⟩ := at'
    rintro en w1 ⟨v, rfl, rfl, hv⟩
    have HV := hidm hv
    clear hv
    go_wp2_with fail
    go_ret
    exact ⟨_, rfl, rfl, HV.out⟩
set_option maxHeartbeats 800000 in
set_option maxRecDepth 100000 in
theorem catch_pan_t (b c r : Nat) (s : ByteArray) (p q x : Int) (w : World) (hb : w.heap[b]? = some (.cells #[.int .i64 p] 3 (0, 0))) (hc : w.heap[c]? = some (.cells #[.pointer (some ⟨r, 0, none⟩)] 145 (0, 0))) (hr : Rdr r s q 0 w) :
    CallsD Tryz.prog 136 #[.pointer (some ⟨b, 0, none⟩), .pointer (some ⟨c, 0, none⟩)] (.panicking (pan x)) w fun e u' w' =>
      e = .returned (.tuple #[]) ∧ u' = .panicking [{ v := .iface 31 (.int .i64 x), recovered := true }] ∧ w' = (w.setCell ⟨r, 1, none⟩ (.int .i64 p)).setCell ⟨r, 2, none⟩ (.int .i64 x) := by
  have q0 := cell_of_one hb
  have q1 := cell_of_one hc
  have q2 := hr.z1
  have q3 : (w.setCell ⟨r, 1, none⟩ (.int .i64 p)).frozen? ⟨r, 2, none⟩ = false := (hr.set1 p).z2
  have q4 := hr.c1
  have q5 : (w.setCell ⟨r, 1, none⟩ (.int .i64 p)).cell? ⟨r, 2, none⟩ = some (.int .i64 0) := (hr.set1 p).c2
  refine callsD_of_wpS Tryz.func136 rfl fun c₀ cs hu => ?_
  simp only [pan] at hu
  apply wpS_seq
  apply wpS_region
  simp [wpOpsS, go_sem, recoverD, hu, run_assert_hit, Tryz.ntmps136, Exit.thenS]
  refine wpS_of_wp (wp_mono (Q := fun e a' w' => e = Exit.normal ∧ a'.defers = [] ∧ w' = (w.setCell ⟨r, 1, none⟩ (.int .i64 p)).setCell ⟨r, 2, none⟩ (.int .i64 x)) ?_ ?_)
  · refine wp_act (a' := { tmps := #[.pointer (some ⟨b, 0, none⟩), .pointer (some ⟨c, 0, none⟩), .int .i64 x, .bool true, .tuple #[.int .i64 x, .bool true], .iface 31 (.int .i64 x), .tuple #[.int .i64 x, .bool true], .int .i64 x, .bool true, undef, undef, undef, undef, undef, undef, undef, undef, undef], defers := [] }) (congrArg (fun t => ({ tmps := t, defers := [] } : Act)) (Array.toList_inj.1 (by simp [List.replicate]))) ?_
    go_wp2
  · rintro e a' w' ⟨rfl, hd, rfl⟩
    exact ⟨hd, _, rfl, _, results_none rfl _ _ _, rfl, rfl, rfl⟩
set_option maxHeartbeats 800000 in
set_option maxRecDepth 100000 in
theorem catch_idle_t (b c : Nat) (w : World) :
    CallsD Tryz.prog 136 #[.pointer (some ⟨b, 0, none⟩), .pointer (some ⟨c, 0, none⟩)] .returning w fun e u' w' => e = .returned (.tuple #[]) ∧ u' = .returning ∧ w' = w := by
  refine callsD_of_wpS Tryz.func136 rfl fun c₀ cs hu => ?_
  apply wpS_seq
  apply wpS_region
  simp [wpOpsS, go_sem, recoverD, hu, run_assert_nil, Tryz.ntmps136, Exit.thenS]
  apply wpS_seq
  apply wpS_region
  simp [wpOpsS, go_sem, Exit.thenS]
  refine wpS_cond (t := false) (by simp [Act.eval, Array.replicate]) ?_
  simp only [Bool.false_eq_true, if_false]
  refine wpS_of_wp (wp_skip ?_)
  cases c₀
  simp_all [bodyPostS, results, Tryz.results136]
set_option maxHeartbeats 800000 in
set_option maxRecDepth 100000 in
theorem read_t_open (r : Nat) (s : ByteArray) (p : Nat) (w : World) (h : Rdr r s p 0 w) {α : Type} (V : α → Value → World → Prop) (R : Except Nat (α × List UInt8))
    (hc : ∀ w1, Rdr r s p 0 w1 → Calls Tryz.prog 121 #[.pointer (some ⟨r, 0, none⟩)] w1 fun en w' => Part r s 0 w1 V R en w') :
    Calls Tryz.prog 120 #[.pointer (some ⟨r, 0, none⟩), .func (.func 121) #[] #[]] w fun en w' => Call r s p w V (.string ⟨#[]⟩) R en w' := by
  have hmf : ∀ (fn : Fn) (first cap : Array Value) (w : World), (Instr.makeFunc fn first cap).run Tryz.prog w = .ok (.func fn first cap) w := fun _ _ _ _ => rfl
  have HR := hidm h
  go_enter_defers Tryz.func120, Tryz.ntmps120
  go_wp2_with fail
  have h1 := (HR.out.past (.cells #[.pointer (some ⟨r, 0, none⟩)] 145)).c1
  refine (err_any r s p 0 _ (HR.out.past _)).mono ?_
  rintro en w1 ⟨rfl, rfl⟩
  go_wp2_with fail
  have HA := hidm ((HR.out.past (.cells #[.pointer (some ⟨r, 0, none⟩)] 145)).past (.cells #[.int .i64 p] 3))
  refine (hc _ HA.out).mono ?_
  have HBo : Hid (But r w ((w.alloc (.cells #[.pointer (some ⟨r, 0, none⟩)] 145)).alloc (.cells #[.int .i64 p] 3))) := hidm (((But.refl r w).alloc _).alloc _)
  have hrlt := h.lt
  have hb0 : ((w.alloc (.cells #[.pointer (some ⟨r, 0, none⟩)] 145)).alloc (.cells #[.int .i64 p] 3)).heap[w.heap.size]? = some (.cells #[.pointer (some ⟨r, 0, none⟩)] 145 (0, 0)) := below_keeps ((Below.refl _ _).alloc (Nat.le_refl _) _) (heap_alloc_new _ _)
  have hb1 : ((w.alloc (.cells #[.pointer (some ⟨r, 0, none⟩)] 145)).alloc (.cells #[.int .i64 p] 3)).heap[w.heap.size + 1]? = some (.cells #[.int .i64 p] 3 (0, 0)) := by
    have := heap_alloc_new (w.alloc (.cells #[.pointer (some ⟨r, 0, none⟩)] 145)) (.cells #[.int .i64 p] 3)
    simpa using this
  have HB0 := hidm hb0
  have HB1 := hidm hb1
  clear hb0 hb1 h1
  cases R with
  | ok at' =>
    obtain ⟨a, t⟩ := at'
    rintro en w1 ⟨v, rfl, hv, hr1, hbt⟩
    have HV := hidm hv
    have HR1 := hidm hr1
    have HT := hidm (HBo.out.trans hbt)
    clear hv hr1 hbt
    go_wp2_with fail
    refine leaves_cons (f := 136) (args := #[.pointer (some ⟨w.heap.size + 1, 0, none⟩), .pointer (some ⟨w.heap.size, 0, none⟩)]) (by simp) (by simp [go_sem]) ?_
    refine (catch_idle_t _ _ _).mono ?_
    rintro e u' w'' ⟨rfl, rfl, rfl⟩
    exact ⟨_, results_tmp rfl _ _ _, v, rfl, HV.out, HR1.out, HT.out⟩
  | error x =>
    rintro en w1 ⟨q, rfl, hr1, hbt⟩
    have HR1 := hidm hr1
    have HT := hidm (HBo.out.trans hbt)
    have HC0 := hidm (hbt.keeps (by omega) HB0.out)
    have HC1 := hidm (hbt.keeps (by omega) HB1.out)
    clear hr1 hbt
    go_wp2_with fail
    refine leaves_cons (f := 136) (args := #[.pointer (some ⟨w.heap.size + 1, 0, none⟩), .pointer (some ⟨w.heap.size, 0, none⟩)]) (by simp) (by simp [go_sem]) ?_
    refine (catch_pan_t _ _ r s p q x _ HC1.out HC0.out HR1.out).mono ?_
    rintro e u' w'' ⟨rfl, rfl, rfl⟩
    refine ⟨_, results_tmp rfl _ _ _, rfl, (HR1.out.set1 p).set2 x, (HT.out.set _ _).set _ _⟩
set_option maxHeartbeats 800000 in
set_option maxRecDepth 100000 in
theorem read_t_shut (r : Nat) (s : ByteArray) (p e : Int) (he : (e != 0) = true) (f : Value) (w : World) (h : Rdr r s p e w) :
    Calls Tryz.prog 120 #[.pointer (some ⟨r, 0, none⟩), f] w fun en w' => en = .returned (.string ⟨#[]⟩) ∧ Below w.heap.size w w' := by
  have HR := hidm h
  go_enter_defers Tryz.func120, Tryz.ntmps120
  go_wp2_with fail
  refine (err_any r s p e _ (HR.out.past _)).mono ?_
  rintro en w1 ⟨rfl, rfl⟩
  go_wp2_with fail
  exact ⟨_, results_tmp rfl _ _ _, rfl, (Below.refl _ _).alloc (Nat.le_refl _) _⟩
set_option maxHeartbeats 800000 in
set_option maxRecDepth 100000 in
theorem read_t_nil (f : Value) (w : World) :
    Calls Tryz.prog 120 #[.pointer none, f] w fun en w' => en = .returned (.string ⟨#[]⟩) ∧ Below w.heap.size w w' := by
  go_enter_defers Tryz.func120, Tryz.ntmps120
  go_wp2_with fail
  refine (err_nil _).mono ?_
  rintro en w1 ⟨rfl, rfl⟩
  go_wp2_with fail
  exact ⟨_, results_tmp rfl _ _ _, rfl, (Below.refl _ _).alloc (Nat.le_refl _) _⟩
/-! the method -/
theorem m_t_open (r : Nat) (s : ByteArray) (p : Nat) (w : World) (h : Rdr r s p 0 w) {α : Type} (V : α → Value → World → Prop) (R : Except Nat (α × List UInt8))
    (hc : ∀ w1, Rdr r s p 0 w1 → Calls Tryz.prog 121 #[.pointer (some ⟨r, 0, none⟩)] w1 fun en w' => Part r s 0 w1 V R en w') :
    Calls Tryz.prog 96 #[.pointer (some ⟨r, 0, none⟩)] w fun en w' => Call r s p w V (.string ⟨#[]⟩) R en w' := by
  have HR := read_t_open r s p w h V R hc
  go_enter Tryz.func96, Tryz.ntmps96
  go_wp2_with fail
  refine HR.mono ?_
  cases R with
  | ok at' =>
    rintro en w1 ⟨v, rfl, hv⟩
    have HV := hidm hv
    clear hv
    go_wp2_with fail
    go_ret
    exact ⟨v, rfl, HV.out⟩
  | error x =>
    rintro en w1 ⟨rfl, hv⟩
    have HV := hidm hv
    clear hv
    go_wp2_with fail
    go_ret
    exact ⟨rfl, HV.out⟩
theorem m_t_shut (r : Nat) (s : ByteArray) (p e : Int) (he : (e != 0) = true) (w : World) (h : Rdr r s p e w) :
    Calls Tryz.prog 96 #[.pointer (some ⟨r, 0, none⟩)] w fun en w' => en = .returned (.string ⟨#[]⟩) ∧ Below w.heap.size w w' := by
  go_enter Tryz.func96, Tryz.ntmps96
  go_wp2_with fail
  refine (read_t_shut r s p e he _ w h).mono ?_
  rintro en w1 ⟨rfl, hb⟩
  go_wp2_with fail
  go_ret
  exact ⟨rfl, hb⟩
theorem call_u (r : Nat) (s : ByteArray) (p : Nat) (w : World) (h : Rdr r s p 0 w) (hp : p ≤ s.size) (hs : s.size ≤ 281474976710656) :
    Calls Tryz.prog 95 #[.pointer (some ⟨r, 0, none⟩)] w fun en w' => Call r s p w VNat (.int .u64 0) (num 0 0 (s.data.toList.drop p)) en w' :=
  m_u_open r s p w h VNat (num 0 0 (s.data.toList.drop p)) (fun w1 h1 => number_any r s p 0 w1 h1 hp (by omega))
theorem call_t (r : Nat) (s : ByteArray) (p : Nat) (w : World) (h : Rdr r s p 0 w) (hp : p ≤ s.size) (hs : s.size ≤ 281474976710656) :
    Calls Tryz.prog 96 #[.pointer (some ⟨r, 0, none⟩)] w fun en w' => Call r s p w VStr (.string ⟨#[]⟩) (txt 1000000 (s.data.toList.drop p)) en w' :=
  m_t_open r s p w h VStr (txt 1000000 (s.data.toList.drop p)) (fun w1 h1 => text_any_part r s p 0 w1 h1 hp hs)
theorem txt_tB (m : Nat) (nm X : List UInt8) (h : nm.length ≤ m) (hm : m ≤ 1000000) : txt m (tB nm ++ X) = .ok (nm, X) := by
  unfold txt txtR len lenR tB
  rw [List.append_assoc, read_uB _ _ (by omega)]
  simp only
  rw [if_neg (by omega)]
  simp only
  rw [if_neg (by simp)]
  simp
theorem txt_len {m : Nat} {l a t : List UInt8} (h : txt m l = .ok (a, t)) : a.length ≤ l.length ∧ t.length ≤ l.length := by
  unfold txt txtR at h
  split at h
  · rename_i n t' hl
    split at h
    · cases h
    · simp only [Except.ok.injEq, Prod.mk.injEq] at h
      obtain ⟨rfl, rfl⟩ := h
      unfold len lenR at hl
      split at hl
      · rename_i n2 t2 hn
        split at hl
        · cases hl
        · simp only [Except.ok.injEq, Prod.mk.injEq] at hl
          obtain ⟨rfl, rfl⟩ := hl
          have := (read_ok hn).1
          have h2 : l.length = (uB n2).length + t2.length := by rw [this, List.length_append]
          rw [List.length_take, List.length_drop]
          omega
      · cases hl
  · cases h
theorem drop_tail {s : ByteArray} {p : Nat} {pre t : List UInt8} (h : s.data.toList.drop p = pre ++ t) : s.data.toList.drop (s.size - t.length) = t := (rest_at h).1
def TextP (r : Nat) (s : ByteArray) (p : Nat) (e : Int) (w : World) (en : Ending) (w' : World) : Prop := ∃ (l : List UInt8) (p' : Nat) (e' : Int), en = .returned (.string (S l)) ∧ Rdr r s p' e' w' ∧ But r w w' ∧ p' ≤ s.size ∧ l.length ≤ s.size ∧ (∀ nm X, e = 0 → s.data.toList.drop p = tB nm ++ X → nm.length ≤ 1000000 → l = nm ∧ e' = 0 ∧ s.data.toList.drop p' = X)
def NumP (r : Nat) (s : ByteArray) (p : Nat) (e : Int) (w : World) (en : Ending) (w' : World) : Prop := ∃ (v : Nat) (p' : Nat) (e' : Int), en = .returned (.int .u64 v) ∧ Rdr r s p' e' w' ∧ But r w w' ∧ p' ≤ s.size ∧ v < 18446744073709551616 ∧ (∀ n X, e = 0 → s.data.toList.drop p = uB n ++ X → n < 18446744073709551616 → v = n ∧ e' = 0 ∧ s.data.toList.drop p' = X)
theorem text_uni (r : Nat) (s : ByteArray) (p : Nat) (e : Int) (w : World) (h : Rdr r s p e w) (hp : p ≤ s.size) (hs : s.size ≤ 281474976710656) :
    Calls Tryz.prog 96 #[.pointer (some ⟨r, 0, none⟩)] w fun en w' => TextP r s p e w en w' := by
  by_cases he : e = 0
  · subst he
    have hl : (s.data.toList.drop p).length ≤ s.size := by rw [List.length_drop, len_eq]; omega
    refine (call_t r s p w h hp hs).mono ?_
    cases hR : txt 1000000 (s.data.toList.drop p) with
    | ok at' =>
      obtain ⟨a, t⟩ := at'
      rintro en w' ⟨v, rfl, rfl, hr, hb⟩
      have hln := txt_len hR
      refine ⟨a, s.size - t.length, 0, rfl, hr, hb, Nat.sub_le _ _, by omega, fun nm X _ hd hn => ?_⟩
      rw [hd, txt_tB _ _ _ hn (by omega)] at hR
      simp only [Except.ok.injEq, Prod.mk.injEq] at hR
      obtain ⟨rfl, rfl⟩ := hR
      exact ⟨rfl, rfl, drop_tail hd⟩
    | error x =>
      rintro en w' ⟨rfl, hr, hb⟩
      refine ⟨[], p, x, rfl, hr, hb, hp, by simp, fun nm X _ hd hn => ?_⟩
      rw [hd, txt_tB _ _ _ hn (by omega)] at hR
      cases hR
  · refine (m_t_shut r s p e (by simpa using he) w h).mono ?_
    rintro en w' ⟨rfl, hb⟩
    exact ⟨[], p, e, rfl, h.later hb, .of hb, hp, by simp, fun _ _ h0 => absurd h0 he⟩
theorem num_uni (r : Nat) (s : ByteArray) (p : Nat) (e : Int) (w : World) (h : Rdr r s p e w) (hp : p ≤ s.size) (hs : s.size ≤ 281474976710656) :
    Calls Tryz.prog 95 #[.pointer (some ⟨r, 0, none⟩)] w fun en w' => NumP r s p e w en w' := by
  by_cases he : e = 0
  · subst he
    refine (call_u r s p w h hp hs).mono ?_
    cases hR : num 0 0 (s.data.toList.drop p) with
    | ok at' =>
      obtain ⟨a, t⟩ := at'
      rintro en w' ⟨v, rfl, rfl, hr, hb⟩
      refine ⟨a, s.size - t.length, 0, rfl, hr, hb, Nat.sub_le _ _, (read_ok hR).2, fun n X _ hd hn => ?_⟩
      rw [hd, read_uB _ _ hn] at hR
      simp only [Except.ok.injEq, Prod.mk.injEq] at hR
      obtain ⟨rfl, rfl⟩ := hR
      exact ⟨rfl, rfl, drop_tail hd⟩
    | error x =>
      rintro en w' ⟨rfl, hr, hb⟩
      refine ⟨0, p, x, rfl, hr, hb, hp, by omega, fun n X _ hd hn => ?_⟩
      rw [hd, read_uB _ _ hn] at hR
      cases hR
  · refine (m_u_shut r s p e (by simpa using he) w h).mono ?_
    rintro en w' ⟨rfl, hb⟩
    exact ⟨0, p, e, rfl, h.later hb, .of hb, hp, by omega, fun _ _ h0 => absurd h0 he⟩
end Cod
end Go.Proofs.YtmccnlffikegfaaGreatDoor
/- strings.Builder's WriteString and String in this program: what a builder of the call's own holds behind each. Condition: the new length is at most 2^47 bytes. -/
namespace Go.Proofs.YtmccnlffikegfaaGreatDoor
open Go.RowKit
namespace Bld
def Is (B b : Nat) (l : List UInt8) (w : World) : Prop := Lib.IsBuilderF 73 5 B b (Lib.byteCells l) w
theorem infoBuilder : ∃ j, Tryz.prog.info? 73 = some j ∧ j.size = 2 := by
  have h : (Tryz.prog.info? 73).map (·.size) = some 2 := by kernel_rfl
  obtain ⟨j, hj, hs⟩ := Option.map_eq_some_iff.1 h
  exact ⟨j, hj, hs⟩
set_option maxHeartbeats 1000000 in
set_option maxRecDepth 100000 in
theorem copyCheck_used (b : Nat) (w : World) (h0 : w.cell? ⟨b, 0, none⟩ = some (.pointer (some ⟨b, 0, none⟩))) :
    Calls Tryz.prog 59 #[.pointer (some ⟨b, 0, none⟩)] w fun e w' => e = .returned (.tuple #[]) ∧ w' = w := by
  obtain ⟨j, hj, _⟩ := infoBuilder
  go_enter Tryz.func59, Tryz.ntmps59
  go_wp2
  rw [Lib.run_neq_ptr_same w _ Tryz.underlying71 hj]
  go_wp2
  go_end0
  exact ⟨rfl, rfl⟩
set_option maxHeartbeats 1000000 in
set_option maxRecDepth 100000 in
theorem copyCheck_fresh (b : Nat) (w : World) (h0 : w.cell? ⟨b, 0, none⟩ = some (.pointer none)) (hsh : w.shape? b = some (73, 2)) (hfz : w.frozen? ⟨b, 0, none⟩ = false) :
    Calls Tryz.prog 59 #[.pointer (some ⟨b, 0, none⟩)] w fun e w' => e = .returned (.tuple #[]) ∧ w' = w.setCell ⟨b, 0, none⟩ (.pointer (some ⟨b, 0, none⟩)) := by
  obtain ⟨j, hj, hjs⟩ := infoBuilder
  go_enter Tryz.func59, Tryz.ntmps59
  go_wp2
  rw [Lib.run_to_unsafe w ⟨b, 0, none⟩ Tryz.underlying71 Tryz.underlying135 hj (by rw [hjs]; decide) hsh (Nat.zero_lt_succ 1)]
  simp only [Result.andThen]
  rw [Oper.upon_value]
  go_wp2
  rw [run_callFunc_extern Tryz.func84 (by kernel_rfl) (by kernel_rfl) (by kernel_rfl) (e := Extern.AbiNoEscape.same) (by kernel_rfl)]
  rw [Lib.run_noEscape]
  simp only [Result.andThen]
  rw [Oper.upon_value]
  go_wp2
  rw [Lib.run_from_unsafe w ⟨b, 0, none⟩ Tryz.underlying135 Tryz.underlying71 hj hsh (by kernel_rfl)]
  simp only [Result.andThen]
  rw [Oper.upon_value]
  go_wp2
  go_end0
  exact ⟨rfl, rfl⟩
theorem copyCheck_any (B b : Nat) (bs : List Value) (w : World) (h : Lib.IsBuilderF 73 5 B b bs w) :
    Calls Tryz.prog 59 #[.pointer (some ⟨b, 0, none⟩)] w fun e w' => e = .returned (.tuple #[]) ∧ (Lib.BuilderAtF 73 5 B b (.pointer (some ⟨b, 0, none⟩)) bs w' ∧ Below B w w') := by
  rcases h with h | h
  · refine (copyCheck_fresh b w h.cell0 h.shape h.frozen0).mono ?_
    rintro e w' ⟨rfl, rfl⟩
    exact ⟨rfl, h.used _, (Below.refl B w).setCell (p := ⟨b, 0, none⟩) h.1 _⟩
  · refine (copyCheck_used b w h.cell0).mono ?_
    rintro e w' ⟨rfl, rfl⟩
    exact ⟨rfl, h, Below.refl B _⟩
set_option maxHeartbeats 2000000 in
set_option maxRecDepth 100000 in
theorem writeString_cells (B b : Nat) (bs : List Value) (s : ByteArray) (w : World) (h : Lib.IsBuilderF 73 5 B b bs w) (hlen : bs.length + s.size ≤ 140737488355328) (hBw : B ≤ w.heap.size) :
    Calls Tryz.prog 72 #[.pointer (some ⟨b, 0, none⟩), .string s] w fun e w' => e = .returned (.tuple #[.int .i64 s.size, .nilIface]) ∧ (Lib.BuilderAtF 73 5 B b (.pointer (some ⟨b, 0, none⟩)) (bs ++ Lib.strCells s) w' ∧ Below B w w') := by
  obtain ⟨i0, hi, hz0, hz1, hz2⟩ := info_parts (P := Tryz.prog) (e := 5) (z := .int .u8 0) (size := 1) (bytes := 1) (by kernel_rfl)
  go_enter Tryz.func72, Tryz.ntmps72
  go_wp2_with (go_at_call 59; refine (copyCheck_any B b bs _ h).mono ?_)
  rintro e w1 ⟨rfl, h1, hb1⟩
  obtain ⟨hB, v, hbk, hown, hne⟩ := h1
  have c0 : w1.cell? ⟨b, 0, none⟩ = some (.pointer (some ⟨b, 0, none⟩)) := by rw [Lib.cell_of_heap hbk]; rfl
  have c1 : w1.cell? ⟨b, 1, none⟩ = some v := by rw [Lib.cell_of_heap hbk]; rfl
  go_wp2_with (at_builtin; refine Lib.wpList_append_own_stringF _ rfl _ _ 62 9 rfl B 5 i0 Tryz.underlying62 Tryz.underlying9 hi hz0 hz1 hz2 _ _ _ rfl hown s rfl ?c3 ?c4 ?c5 ?_)
  case c3 => unfold maxLen; omega
  case c4 => omega
  case c5 => have := hb1.size; omega
  intro v' w2 hown' hgrow _
  have hlt : b < w1.heap.size := by
    rcases Nat.lt_or_ge b w1.heap.size with h' | h'
    · exact h'
    · simp [Array.getElem?_eq_none h'] at hbk
  have hb2 : w2.heap[b]? = some (.cells #[.pointer (some ⟨b, 0, none⟩), v] 73 (0, 0)) := by
    rw [hgrow.block b hlt (fun e => hne e.symm)]
    exact hbk
  have d0 : w2.cell? ⟨b, 0, none⟩ = some (.pointer (some ⟨b, 0, none⟩)) := by rw [Lib.cell_of_heap hb2]; rfl
  have d1 : w2.cell? ⟨b, 1, none⟩ = some v := by rw [Lib.cell_of_heap hb2]; rfl
  have f1 : w2.frozen? ⟨b, 1, none⟩ = false := Lib.frozen_of_heap hb2 1
  obtain ⟨ao, n', cap, rfl⟩ : ∃ ao n' cap, v' = .slice ao n' cap := by
    rcases hown'.2 with ⟨hv, _⟩ | ⟨g, cap, cur, fz, hv, _⟩
    · exact ⟨_, _, _, hv⟩
    · exact ⟨_, _, _, hv⟩
  go_wp2
  go_ret2
  refine ⟨rfl, ?_, ?_⟩
  · exact Lib.BuilderAtF.put (T := 73) (e := 5) hB hb2 (bs' := bs ++ Lib.strCells s) (by simpa [Lib.strCells_length] using hown') (by decide)
  · exact (hb1.grown hgrow (by have := hb1.size; omega) (fun k hk => (hown.lt k hk).1)).setCell (p := ⟨b, 1, none⟩) hB _
/-! what callers take -/
theorem writeString (B b : Nat) (l : List UInt8) (s : ByteArray) (w : World) (h : Is B b l w) (hlen : l.length + s.size ≤ 140737488355328) (hBw : B ≤ w.heap.size) :
    Calls Tryz.prog 72 #[.pointer (some ⟨b, 0, none⟩), .string s] w fun e w' => e = .returned (.tuple #[.int .i64 s.size, .nilIface]) ∧ Is B b (l ++ s.data.toList) w' ∧ Below B w w' := by
  refine (writeString_cells B b (Lib.byteCells l) s w h (by rw [Lib.byteCells_length]; exact hlen) hBw).mono ?_
  rintro e w' ⟨rfl, h1, h2⟩
  exact ⟨rfl, .inr (by rw [Lib.byteCells_append]; exact h1), h2⟩
theorem string_any (B b : Nat) (l : List UInt8) (w : World) (h : Is B b l w) (hBw : B ≤ w.heap.size) :
    Calls Tryz.prog 32 #[.pointer (some ⟨b, 0, none⟩)] w fun e w' => e = .returned (.string ⟨l.toArray⟩) ∧ Is B b l w' ∧ Below B w w' := by
  refine (Tryz.Builder_String_any_k B b l w h hBw).mono ?_
  rintro e w' ⟨rfl, h1, h2, _⟩
  exact ⟨rfl, h1, h2⟩
/-- A fresh builder, in a new block. -/
theorem fresh (w : World) : Is w.heap.size w.heap.size [] (w.alloc (.cells #[.pointer none, .slice none 0 0] 73)) := by
  refine .inl ⟨Nat.le_refl _, .slice none 0 0, ?_, ⟨rfl, .inl ⟨rfl, rfl⟩⟩, by simp [Value.ownBlock]⟩
  show (w.heap.push _)[w.heap.size]? = _
  simp
/-- What a call leaves that only makes memory. -/
theorem Is.below {B b : Nat} {l : List UInt8} {w w' : World} (h : Is B b l w) (hb : Below w.heap.size w w') : Is B b l w' := by
  have key : ∀ p, Lib.BuilderAtF 73 5 B b p (Lib.byteCells l) w → Lib.BuilderAtF 73 5 B b p (Lib.byteCells l) w' := by
    rintro p ⟨h1, v, h2, h3, h4⟩
    have lt : ∀ {k : Nat} {o : Obj}, w.heap[k]? = some o → k < w.heap.size := fun hk => (Array.getElem?_eq_some_iff.1 hk).1
    refine ⟨h1, v, by rw [hb.block b (lt h2)]; exact h2, ⟨h3.1, ?_⟩, h4⟩
    rcases h3.2 with h | ⟨g, cap, cur, fz, a1, a2, a3, a4⟩
    · exact .inl h
    · exact .inr ⟨g, cap, cur, fz, a1, a2, by rw [hb.block g (lt a3)]; exact a3, a4⟩
  exact h.elim (fun x => .inl (key _ x)) (fun x => .inr (key _ x))
theorem Is.lt {B b : Nat} {l : List UInt8} {w : World} (h : Is B b l w) : B ≤ b ∧ b < w.heap.size := by
  rcases h with ⟨h1, v, h2, _⟩ | ⟨h1, v, h2, _⟩ <;> exact ⟨h1, (Array.getElem?_eq_some_iff.1 h2).1⟩
end Bld
end Go.Proofs.YtmccnlffikegfaaGreatDoor
/- strings.Builder's WriteString and String in this program: what a builder of the call's own holds behind each, and that every block is kept that is neither a builder nor bytes. Condition: the new length is at most 2^47 bytes. -/
namespace Go.Proofs.YtmccnlffikegfaaGreatDoor
open Go.RowKit
namespace Bld
/-- Every block is kept that is neither a builder nor bytes. -/
def Kept (w w' : World) : Prop := ∀ (k : Nat) (cs : Array Value) (t : TypeId) (f : Nat × Nat), w.heap[k]? = some (Obj.cells cs t f) → t ≠ 5 → t ≠ 73 → w'.heap[k]? = some (Obj.cells cs t f)
theorem Kept.of {w w' : World} (h : Below w.heap.size w w') : Kept w w' := fun k cs t f hk _ _ => by
  rw [h.block k (Array.getElem?_eq_some_iff.1 hk).1]; exact hk
theorem Kept.trans {a b c : World} (h : Kept a b) (g : Kept b c) : Kept a c := fun k cs t f hk h1 h2 => g k cs t f (h k cs t f hk h1 h2) h1 h2
theorem copyCheck_kept (B b : Nat) (bs : List Value) (w : World) (h : Lib.IsBuilderF 73 5 B b bs w) :
    Calls Tryz.prog 59 #[.pointer (some ⟨b, 0, none⟩)] w fun e w' => e = .returned (.tuple #[]) ∧ (Lib.BuilderAtF 73 5 B b (.pointer (some ⟨b, 0, none⟩)) bs w' ∧ (Below B w w' ∧ ∀ k, k ≠ b → w'.heap[k]? = w.heap[k]?)) := by
  rcases h with h | h
  · refine (copyCheck_fresh b w h.cell0 h.shape h.frozen0).mono ?_
    rintro e w' ⟨rfl, rfl⟩
    exact ⟨rfl, h.used _, (Below.refl B w).setCell (p := ⟨b, 0, none⟩) h.1 _, fun k hk => Below.heap_setCell _ _ _ _ (by exact hk)⟩
  · refine (copyCheck_used b w h.cell0).mono ?_
    rintro e w' ⟨rfl, rfl⟩
    exact ⟨rfl, h, Below.refl B _, fun _ _ => rfl⟩
set_option maxHeartbeats 2000000 in
set_option maxRecDepth 100000 in
theorem writeString_kept (B b : Nat) (bs : List Value) (s : ByteArray) (w : World) (h : Lib.IsBuilderF 73 5 B b bs w) (hlen : bs.length + s.size ≤ 140737488355328) (hBw : B ≤ w.heap.size) :
    Calls Tryz.prog 72 #[.pointer (some ⟨b, 0, none⟩), .string s] w fun e w' => e = .returned (.tuple #[.int .i64 s.size, .nilIface]) ∧ (Lib.BuilderAtF 73 5 B b (.pointer (some ⟨b, 0, none⟩)) (bs ++ Lib.strCells s) w' ∧ (Below B w w' ∧ Kept w w')) := by
  obtain ⟨i0, hi, hz0, hz1, hz2⟩ := info_parts (P := Tryz.prog) (e := 5) (z := .int .u8 0) (size := 1) (bytes := 1) (by kernel_rfl)
  obtain ⟨wcs, hwk⟩ : ∃ cs, w.heap[b]? = some (.cells cs 73 (0, 0)) := by
    rcases h with ⟨_, v, h2, _⟩ | ⟨_, v, h2, _⟩ <;> exact ⟨_, h2⟩
  go_enter Tryz.func72, Tryz.ntmps72
  go_wp2_with (go_at_call 59; refine (copyCheck_kept B b bs _ h).mono ?_)
  rintro e w1 ⟨rfl, h1, hb1, hkp⟩
  obtain ⟨hB, v, hbk, hown, hne⟩ := h1
  have c0 : w1.cell? ⟨b, 0, none⟩ = some (.pointer (some ⟨b, 0, none⟩)) := by rw [Lib.cell_of_heap hbk]; rfl
  have c1 : w1.cell? ⟨b, 1, none⟩ = some v := by rw [Lib.cell_of_heap hbk]; rfl
  go_wp2_with (at_builtin; refine Lib.wpList_append_own_stringF _ rfl _ _ 62 9 rfl B 5 i0 Tryz.underlying62 Tryz.underlying9 hi hz0 hz1 hz2 _ _ _ rfl hown s rfl ?c3 ?c4 ?c5 ?_)
  case c3 => unfold maxLen; omega
  case c4 => omega
  case c5 => have := hb1.size; omega
  intro v' w2 hown' hgrow _
  have hlt : b < w1.heap.size := by
    rcases Nat.lt_or_ge b w1.heap.size with h' | h'
    · exact h'
    · simp [Array.getElem?_eq_none h'] at hbk
  have hb2 : w2.heap[b]? = some (.cells #[.pointer (some ⟨b, 0, none⟩), v] 73 (0, 0)) := by
    rw [hgrow.block b hlt (fun e => hne e.symm)]
    exact hbk
  have d0 : w2.cell? ⟨b, 0, none⟩ = some (.pointer (some ⟨b, 0, none⟩)) := by rw [Lib.cell_of_heap hb2]; rfl
  have d1 : w2.cell? ⟨b, 1, none⟩ = some v := by rw [Lib.cell_of_heap hb2]; rfl
  have f1 : w2.frozen? ⟨b, 1, none⟩ = false := Lib.frozen_of_heap hb2 1
  obtain ⟨ao, n', cap, rfl⟩ : ∃ ao n' cap, v' = .slice ao n' cap := by
    rcases hown'.2 with ⟨hv, _⟩ | ⟨g, cap, cur, fz, hv, _⟩
    · exact ⟨_, _, _, hv⟩
    · exact ⟨_, _, _, hv⟩
  go_wp2
  go_ret2
  refine ⟨rfl, ?_, ?_, ?_⟩
  · exact Lib.BuilderAtF.put (T := 73) (e := 5) hB hb2 (bs' := bs ++ Lib.strCells s) (by simpa [Lib.strCells_length] using hown') (by decide)
  · exact (hb1.grown hgrow (by have := hb1.size; omega) (fun k hk => (hown.lt k hk).1)).setCell (p := ⟨b, 1, none⟩) hB _
  · intro k cs tt f hk h1 h2
    have hkb : k ≠ b := by
      intro e; subst e
      have hwb := hwk
      rw [hk] at hwb
      simp only [Option.some.injEq, Obj.cells.injEq] at hwb
      exact h2 hwb.2.1
    have hk1 : w1.heap[k]? = some (.cells cs tt f) := by rw [hkp k hkb]; exact hk
    have hk1l : k < w1.heap.size := (Array.getElem?_eq_some_iff.1 hk1).1
    have hkr : some k ≠ v.ownBlock := by
      rcases hown.2 with ⟨hv, _⟩ | ⟨g, cap, cur, fz, hv, _, hh, _⟩
      · rw [hv]; simp [Value.ownBlock]
      · rw [hv]
        intro e
        have e2 : k = g := by simpa [Value.ownBlock] using e
        subst e2
        rw [hk1] at hh
        simp only [Option.some.injEq, Obj.cells.injEq] at hh
        exact h1 hh.2.1
    rw [Below.heap_setCell _ _ _ _ (by exact hkb), hgrow.block k hk1l hkr]
    exact hk1
theorem write_k (B b : Nat) (l : List UInt8) (s : ByteArray) (w : World) (h : Is B b l w) (hlen : l.length + s.size ≤ 140737488355328) (hBw : B ≤ w.heap.size) :
    Calls Tryz.prog 72 #[.pointer (some ⟨b, 0, none⟩), .string s] w fun e w' => e = .returned (.tuple #[.int .i64 s.size, .nilIface]) ∧ Is B b (l ++ s.data.toList) w' ∧ Below B w w' ∧ Kept w w' := by
  refine (writeString_kept B b (Lib.byteCells l) s w h (by rw [Lib.byteCells_length]; exact hlen) hBw).mono ?_
  rintro e w' ⟨rfl, h1, h2, h3⟩
  exact ⟨rfl, .inr (by rw [Lib.byteCells_append]; exact h1), h2, h3⟩
end Bld
end Go.Proofs.YtmccnlffikegfaaGreatDoor
