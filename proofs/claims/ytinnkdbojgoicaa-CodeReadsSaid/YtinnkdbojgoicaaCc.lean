/- The writers of package code: Value. Conditions: the fields are within their kinds' ranges; a text is at most 2^48 bytes. -/
import Derived.Test.YtinnkdbojgoicaaCb
import Derived.Test.YtinnkdbojgoicaaCx
namespace Go.Proofs.Ytinnkdbojgoicaa
open Go.RowKit
namespace Cod
/-- What stands behind the kind. -/
def V.rest (v : V) : List UInt8 := if v.k = 1 then [v.n.toNat.toUInt8] else if v.k = 2 then iB v.n else if v.k = 3 then eB v.b else if v.k = 4 ∨ v.k = 5 then tB v.s else []
/-- A value's bytes. -/
def V.bytes (v : V) : List UInt8 := if v.right = true then v.k.toNat.toUInt8 :: v.rest else []
structure V.wf (v : V) : Prop where
  k0 : -9223372036854775808 ≤ v.k
  k1 : v.k ≤ 9223372036854775807
  n0 : -9223372036854775808 ≤ v.n
  n1 : v.n ≤ 9223372036854775807
  b : v.b < 18446744073709551616
  s : v.s.length ≤ 281474976710656
set_option maxHeartbeats 1000000 in
set_option maxRecDepth 100000 in
theorem behind_bool (b : Nat) (s : ByteArray) (w : World) (m : Nat) (hm : m < 256) :
    Calls Try.prog 63 #[.agg #[.int .i64 1, .int .i64 (m : Int), .int .u64 b, .string s]] w fun e w' => e = .returned (.string (S ([m.toUInt8]))) ∧ Below w.heap.size w w' := by
  have HV := hidm (Vb.new w 1 (m : Int) b s)
  have HB := hidm ((Below.refl w.heap.size w).alloc (Nat.le_refl _) (.cells #[.int .i64 1, .int .i64 (m : Int), .int .u64 b, .string s] 33))
  have q0 := HV.out.c0
  have q1 := HV.out.c1
  have q2 := HV.out.c2
  have q3 := HV.out.c3
  go_enter Try.func63, Try.ntmps63
  go_wp2_with fail
  refine (onebyte_any m hm _).mono ?_
  rintro e w1 ⟨rfl, hb⟩
  have HB1 := hidm (HB.out.trans (hb.mono HB.out.size))
  clear hb q0 q1 q2 q3
  go_wp2_with fail
  go_ret
  exact ⟨rfl, HB1.out⟩
set_option maxHeartbeats 1000000 in
set_option maxRecDepth 100000 in
theorem behind_int (n : Int) (b : Nat) (s : ByteArray) (w : World) (h0 : -9223372036854775808 ≤ n) (h1 : n ≤ 9223372036854775807) :
    Calls Try.prog 63 #[.agg #[.int .i64 2, .int .i64 n, .int .u64 b, .string s]] w fun e w' => e = .returned (.string (S (iB n))) ∧ Below w.heap.size w w' := by
  have HV := hidm (Vb.new w 2 n b s)
  have HB := hidm ((Below.refl w.heap.size w).alloc (Nat.le_refl _) (.cells #[.int .i64 2, .int .i64 n, .int .u64 b, .string s] 33))
  have q0 := HV.out.c0
  have q1 := HV.out.c1
  have q2 := HV.out.c2
  have q3 := HV.out.c3
  go_enter Try.func63, Try.ntmps63
  go_wp2_with fail
  refine (int_any n h0 h1 _).mono ?_
  rintro e w1 ⟨rfl, hb⟩
  have HB1 := hidm (HB.out.trans (hb.mono HB.out.size))
  clear hb q0 q1 q2 q3
  go_wp2_with fail
  go_ret
  exact ⟨rfl, HB1.out⟩
set_option maxHeartbeats 1000000 in
set_option maxRecDepth 100000 in
theorem behind_float (n : Int) (b : Nat) (s : ByteArray) (w : World)  :
    Calls Try.prog 63 #[.agg #[.int .i64 3, .int .i64 n, .int .u64 b, .string s]] w fun e w' => e = .returned (.string (S (eB b))) ∧ Below w.heap.size w w' := by
  have HV := hidm (Vb.new w 3 n b s)
  have HB := hidm ((Below.refl w.heap.size w).alloc (Nat.le_refl _) (.cells #[.int .i64 3, .int .i64 n, .int .u64 b, .string s] 33))
  have q0 := HV.out.c0
  have q1 := HV.out.c1
  have q2 := HV.out.c2
  have q3 := HV.out.c3
  go_enter Try.func63, Try.ntmps63
  go_wp2_with fail
  refine (eight_any b _).mono ?_
  rintro e w1 ⟨rfl, hb⟩
  have HB1 := hidm (HB.out.trans (hb.mono HB.out.size))
  clear hb q0 q1 q2 q3
  go_wp2_with fail
  go_ret
  exact ⟨rfl, HB1.out⟩
set_option maxHeartbeats 1000000 in
set_option maxRecDepth 100000 in
theorem behind_bytes (n : Int) (b : Nat) (s : ByteArray) (w : World) (hs : s.size ≤ 281474976710656) :
    Calls Try.prog 63 #[.agg #[.int .i64 4, .int .i64 n, .int .u64 b, .string s]] w fun e w' => e = .returned (.string (S (tB s.data.toList))) ∧ Below w.heap.size w w' := by
  have HV := hidm (Vb.new w 4 n b s)
  have HB := hidm ((Below.refl w.heap.size w).alloc (Nat.le_refl _) (.cells #[.int .i64 4, .int .i64 n, .int .u64 b, .string s] 33))
  have q0 := HV.out.c0
  have q1 := HV.out.c1
  have q2 := HV.out.c2
  have q3 := HV.out.c3
  go_enter Try.func63, Try.ntmps63
  go_wp2_with fail
  refine (text_any s (by omega) _).mono ?_
  rintro e w1 ⟨rfl, hb⟩
  have HB1 := hidm (HB.out.trans (hb.mono HB.out.size))
  clear hb q0 q1 q2 q3
  go_wp2_with fail
  go_ret
  exact ⟨rfl, HB1.out⟩
set_option maxHeartbeats 1000000 in
set_option maxRecDepth 100000 in
theorem behind_text (n : Int) (b : Nat) (s : ByteArray) (w : World) (hs : s.size ≤ 281474976710656) :
    Calls Try.prog 63 #[.agg #[.int .i64 5, .int .i64 n, .int .u64 b, .string s]] w fun e w' => e = .returned (.string (S (tB s.data.toList))) ∧ Below w.heap.size w w' := by
  have HV := hidm (Vb.new w 5 n b s)
  have HB := hidm ((Below.refl w.heap.size w).alloc (Nat.le_refl _) (.cells #[.int .i64 5, .int .i64 n, .int .u64 b, .string s] 33))
  have q0 := HV.out.c0
  have q1 := HV.out.c1
  have q2 := HV.out.c2
  have q3 := HV.out.c3
  go_enter Try.func63, Try.ntmps63
  go_wp2_with fail
  refine (text_any s (by omega) _).mono ?_
  rintro e w1 ⟨rfl, hb⟩
  have HB1 := hidm (HB.out.trans (hb.mono HB.out.size))
  clear hb q0 q1 q2 q3
  go_wp2_with fail
  go_ret
  exact ⟨rfl, HB1.out⟩
set_option maxHeartbeats 1000000 in
set_option maxRecDepth 100000 in
theorem behind_null (n : Int) (b : Nat) (s : ByteArray) (w : World)  :
    Calls Try.prog 63 #[.agg #[.int .i64 0, .int .i64 n, .int .u64 b, .string s]] w fun e w' => e = .returned (.string (S ([]))) ∧ Below w.heap.size w w' := by
  have HV := hidm (Vb.new w 0 n b s)
  have HB := hidm ((Below.refl w.heap.size w).alloc (Nat.le_refl _) (.cells #[.int .i64 0, .int .i64 n, .int .u64 b, .string s] 33))
  have q0 := HV.out.c0
  have q1 := HV.out.c1
  have q2 := HV.out.c2
  have q3 := HV.out.c3
  go_enter Try.func63, Try.ntmps63
  go_wp2_with fail
  go_ret
  exact ⟨rfl, HB.out⟩
theorem right_kind {v : V} (h : v.right = true) : (v.k = 0 ∨ v.k = 1 ∨ v.k = 2 ∨ v.k = 3 ∨ v.k = 4 ∨ v.k = 5) ∧ (v.k = 1 → v.n = 0 ∨ v.n = 1) ∧ (v.k = 4 ∨ v.k = 5 → v.s.length ≤ 4096) := by
  unfold V.right Val.rightB at h
  split at h
  · rename_i h0; exact ⟨Or.inl h0, fun h1 => by omega, fun h1 => by omega⟩
  split at h
  · rename_i h0 h1
    refine ⟨Or.inr (Or.inl h1), fun _ => ?_, fun h2 => by omega⟩
    simp only [Bool.and_eq_true, Bool.or_eq_true, beq_iff_eq] at h
    exact h.2
  split at h
  · rename_i h0 h1 h2; exact ⟨by omega, fun h1 => by omega, fun h1 => by omega⟩
  split at h
  · rename_i h0 h1 h2 h3; exact ⟨by omega, fun h1 => by omega, fun h1 => by omega⟩
  split at h
  · rename_i h0 h1 h2 h3 h4
    refine ⟨by omega, fun h1 => by omega, fun _ => ?_⟩
    simp only [Bool.and_eq_true, decide_eq_true_eq, S_size] at h
    omega
  · cases h
theorem behind_any (v : V) (hw : v.wf) (hr : v.right = true) (w : World) :
    Calls Try.prog 63 #[v.agg] w fun e w' => e = .returned (.string (S v.rest)) ∧ Below w.heap.size w w' := by
  obtain ⟨hk, hn, hs⟩ := right_kind hr
  obtain ⟨k, n, b, s⟩ := v
  simp only at hk hn hs
  have hsz : (S s).size ≤ 281474976710656 := by rw [S_size]; exact hw.s
  unfold V.rest
  rcases hk with rfl | rfl | rfl | rfl | rfl | rfl
  · exact behind_null n b (S s) w
  · have := hn rfl
    have h := behind_bool b (S s) w n.toNat (by omega)
    rw [show ((n.toNat : Nat) : Int) = n by omega] at h
    exact h
  · exact behind_int n b (S s) w hw.n0 hw.n1
  · exact behind_float n b (S s) w
  · exact behind_bytes n b (S s) w hsz
  · exact behind_text n b (S s) w hsz
set_option maxHeartbeats 1000000 in
theorem value_wrong (v : V) (hr : v.right = false) (w : World) :
    Calls Try.prog 39 #[v.agg] w fun e w' => e = .returned (.string ⟨#[]⟩) ∧ Below w.heap.size w w' := by
  have HV := hidm (Vb.new w v.k v.n v.b (S v.s))
  have HB := hidm ((Below.refl w.heap.size w).alloc (Nat.le_refl _) (.cells #[.int .i64 v.k, .int .i64 v.n, .int .u64 v.b, .string (S v.s)] 33))
  have hc := Val.right_any v.k v.n v.b (S v.s) (w.alloc (.cells #[.int .i64 v.k, .int .i64 v.n, .int .u64 v.b, .string (S v.s)] 33))
  rw [show Val.rightB v.k v.n v.b (S v.s) = false from hr] at hc
  have q0 := HV.out.c0
  have q1 := HV.out.c1
  have q2 := HV.out.c2
  have q3 := HV.out.c3
  simp only [V.agg]
  go_enter Try.func39, Try.ntmps39
  go_wp2_with fail
  refine hc.mono ?_
  rintro e w1 ⟨rfl, hb⟩
  have HB1 := hidm (HB.out.trans (hb.mono HB.out.size))
  clear hb q0 q1 q2 q3
  go_wp2_with fail
  go_ret
  exact ⟨rfl, HB1.out⟩
theorem vb_keep {W w1 w' : World} {b : Nat} {k n x : Int} {t : ByteArray}
    (h : w1.cell? ⟨b, 0, none⟩ = some (.int .i64 k) ∧ w1.cell? ⟨b, 1, none⟩ = some (.int .i64 n) ∧ w1.cell? ⟨b, 2, none⟩ = some (.int .u64 x) ∧ w1.cell? ⟨b, 3, none⟩ = some (.string t) ∧ Hid (Vb b k n x t w1 ∧ Below W.heap.size W w1 ∧ W.heap.size ≤ w1.heap.size)) (hb : Below w1.heap.size w1 w') :
    w'.cell? ⟨b, 0, none⟩ = some (.int .i64 k) ∧ w'.cell? ⟨b, 1, none⟩ = some (.int .i64 n) ∧ w'.cell? ⟨b, 2, none⟩ = some (.int .u64 x) ∧ w'.cell? ⟨b, 3, none⟩ = some (.string t) ∧ Hid (Vb b k n x t w' ∧ Below W.heap.size W w' ∧ W.heap.size ≤ w'.heap.size) := by
  obtain ⟨h1, h2, h3⟩ := h.2.2.2.2.out
  have := h1.later hb
  exact ⟨this.c0, this.c1, this.c2, this.c3, this, h2.trans (hb.mono h3), Nat.le_trans h3 hb.size⟩
theorem vb_start {W w' : World} {b : Nat} {k n x : Int} {t : ByteArray} (h1 : Vb b k n x t w') (h2 : Below W.heap.size W w') :
    w'.cell? ⟨b, 0, none⟩ = some (.int .i64 k) ∧ w'.cell? ⟨b, 1, none⟩ = some (.int .i64 n) ∧ w'.cell? ⟨b, 2, none⟩ = some (.int .u64 x) ∧ w'.cell? ⟨b, 3, none⟩ = some (.string t) ∧ Hid (Vb b k n x t w' ∧ Below W.heap.size W w' ∧ W.heap.size ≤ w'.heap.size) :=
  ⟨h1.c0, h1.c1, h1.c2, h1.c3, h1, h2, h2.size⟩
set_option maxHeartbeats 2000000 in
set_option maxRecDepth 100000 in
theorem value_right (v : V) (hw : v.wf) (hr : v.right = true) (w : World) :
    Calls Try.prog 39 #[v.agg] w fun e w' => e = .returned (.string (S v.bytes)) ∧ Below w.heap.size w w' := by
  have hk := (right_kind hr).1
  have HV := hidm (Vb.new w v.k v.n v.b (S v.s))
  have HB := hidm ((Below.refl w.heap.size w).alloc (Nat.le_refl _) (.cells #[.int .i64 v.k, .int .i64 v.n, .int .u64 v.b, .string (S v.s)] 33))
  have hc := Val.right_any v.k v.n v.b (S v.s) (w.alloc (.cells #[.int .i64 v.k, .int .i64 v.n, .int .u64 v.b, .string (S v.s)] 33))
  rw [show Val.rightB v.k v.n v.b (S v.s) = true from hr] at hc
  have h1 : ∀ w, Calls Try.prog 62 #[.int .i64 v.k] w fun e w' => e = .returned (.string (S [v.k.toNat.toUInt8])) ∧ Below w.heap.size w w' := fun w => by
    have h := onebyte_any v.k.toNat (by omega) w
    rw [show ((v.k.toNat : Nat) : Int) = v.k by omega] at h
    exact h
  have h2 : ∀ w, Calls Try.prog 63 #[.agg #[.int .i64 v.k, .int .i64 v.n, .int .u64 v.b, .string (S v.s)]] w fun e w' => e = .returned (.string (S v.rest)) ∧ Below w.heap.size w w' := fun w => behind_any v hw hr w
  have hl : ¬ 9223372036854775807 < ([v.k.toNat.toUInt8] : List UInt8).length + v.rest.length := by
    have : v.rest.length ≤ 281474976710700 := by
      have t0 := hw.s
      have t1 := uB_ten v.s.length (by omega)
      have t2 : (iB v.n).length ≤ 10 := uB_ten _ (zig_lt hw.n0 hw.n1)
      have t3 : (eB v.b).length = 8 := eTo_len _ _
      unfold V.rest tB
      split
      · simp
      split
      · omega
      split
      · omega
      split
      · rw [List.length_append]; omega
      · simp
    simp; omega
  have HE : Hid (S [v.k.toNat.toUInt8] ++ S v.rest = S v.bytes) := by
    refine hidm ?_
    rw [S_append]; unfold V.bytes; rw [if_pos hr]; rfl
  obtain ⟨k, hkk⟩ : ∃ k, k = v.k := ⟨_, rfl⟩
  obtain ⟨n, hnn⟩ : ∃ n, n = v.n := ⟨_, rfl⟩
  obtain ⟨b, hbb⟩ : ∃ b, b = v.b := ⟨_, rfl⟩
  obtain ⟨t, htt⟩ : ∃ t, t = S v.s := ⟨_, rfl⟩
  obtain ⟨x, hx⟩ : ∃ x, x = S [v.k.toNat.toUInt8] := ⟨_, rfl⟩
  obtain ⟨y, hy⟩ : ∃ y, y = S v.rest := ⟨_, rfl⟩
  obtain ⟨z, hz⟩ : ∃ z, z = S v.bytes := ⟨_, rfl⟩
  have hl2 : ¬ 9223372036854775807 < x.size + y.size := by rw [hx, hy, S_size, S_size]; exact hl
  have HE2 : Hid (x ++ y = z) := by rw [hx, hy, hz]; exact HE
  simp only [V.agg]
  simp only [← hx] at h1
  simp only [← hy] at h2
  simp only [← hz]
  clear hx hy hz hl HE
  simp only [← hkk, ← hnn, ← hbb, ← htt] at *
  clear hkk hnn hbb htt
  have q0 := HV.out.c0
  have q1 := HV.out.c1
  have q2 := HV.out.c2
  have q3 := HV.out.c3
  go_enter Try.func39, Try.ntmps39
  go_wp2_with fail
  refine hc.mono ?_
  rintro e w1 ⟨rfl, hb⟩
  have HV1 := hidm (HV.out.later hb)
  have HB1 := hidm (HB.out.trans (hb.mono HB.out.size))
  clear hb q0 q1 q2 q3 hc
  go_wp2_with fail
  go_region_held3 (fun w' => w'.cell? ⟨w.heap.size, 0, none⟩ = some (.int .i64 k) ∧ w'.cell? ⟨w.heap.size, 1, none⟩ = some (.int .i64 n) ∧ w'.cell? ⟨w.heap.size, 2, none⟩ = some (.int .u64 b) ∧ w'.cell? ⟨w.heap.size, 3, none⟩ = some (.string t) ∧ Hid (Vb w.heap.size k n b t w' ∧ Below w.heap.size w w' ∧ w.heap.size ≤ w'.heap.size))
    (first | (exact vb_keep (by assumption) hb) | (exact vb_start HV1.out HB1.out) | (exact vb_start (HV1.out.later (below_drewN (Below.refl _ _) 1)) HB1.out.drew) | go_keep)
    (first | (go_at_call 62; (with_reducible refine (h1 _).mono ?_); rintro e w' ⟨rfl, hb⟩) | (go_at_call 63; (with_reducible refine (h2 _).mono ?_); rintro e w' ⟨rfl, hb⟩))
  rename_i hS
  have HS := hidm hS.2.2.2.2.out.2.1
  clear hS
  go_wp2_with fail
  go_ret
  exact ⟨congrArg (fun q => Ending.returned (.string q)) HE2.out, HS.out⟩
theorem value_any (v : V) (hw : v.wf) (w : World) :
    Calls Try.prog 39 #[v.agg] w fun e w' => e = .returned (.string (S v.bytes)) ∧ Below w.heap.size w w' := by
  rcases hr : v.right with _ | _
  · have h := value_wrong v hr w
    unfold V.bytes
    rw [hr]
    exact h
  · exact value_right v hw hr w
end Cod
end Go.Proofs.Ytinnkdbojgoicaa
