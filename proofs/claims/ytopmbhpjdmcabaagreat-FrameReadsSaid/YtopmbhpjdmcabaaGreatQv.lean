/- The writers Value and Row. Conditions: as each theorem says. -/
import Derived.Test.YtopmbhpjdmcabaaGreatQa
import Derived.Test.YtopmbhpjdmcabaaGreatQw
import Derived.Test.YtopmbhpjdmcabaaGreatBls
namespace Go.Proofs.YtopmbhpjdmcabaaGreat
open Go.RowKit
namespace Cod
/-- What stands behind the kind. -/
def V.rest (v : V) : List UInt8 := if v.k = 1 then [v.n.toNat.toUInt8] else if v.k = 2 then iB v.n else if v.k = 3 then eB v.b else if v.k = 4 ∨ v.k = 5 then tB v.s else []
/-- A value's bytes. -/
def V.bytes (v : V) : List UInt8 := if v.right = true then v.k.toNat.toUInt8 :: v.rest else []
structure V.wf (v : V) : Prop where
  k0 : -9223372036854775808 ≤ v.k
  k1 : v.k ≤ 9223372036854775807
  n0 : -9223372036854775808 ≤ v.n
  n1 : v.n ≤ 9223372036854775807
  b : v.b < 18446744073709551616
  s : v.s.length ≤ 281474976710656
set_option maxHeartbeats 1000000 in
set_option maxRecDepth 100000 in
theorem behind_bool (b : Nat) (s : ByteArray) (w : World) (m : Nat) (hm : m < 256) :
    Calls Tryz.prog 130 #[.agg #[.int .i64 1, .int .i64 (m : Int), .int .u64 b, .string s]] w fun e w' => e = .returned (.string (S ([m.toUInt8]))) ∧ Below w.heap.size w w' := by
  have HV := hidm (Vb.new w 1 (m : Int) b s)
  have HB := hidm ((Below.refl w.heap.size w).alloc (Nat.le_refl _) (.cells #[.int .i64 1, .int .i64 (m : Int), .int .u64 b, .string s] 52))
  have q0 := HV.out.c0
  have q1 := HV.out.c1
  have q2 := HV.out.c2
  have q3 := HV.out.c3
  go_enter Tryz.func130, Tryz.ntmps130
  go_wp2_with fail
  refine (onebyte_any m hm _).mono ?_
  rintro e w1 ⟨rfl, hb⟩
  have HB1 := hidm (HB.out.trans (hb.mono HB.out.size))
  clear hb q0 q1 q2 q3
  go_wp2_with fail
  go_ret
  exact ⟨rfl, HB1.out⟩
set_option maxHeartbeats 1000000 in
set_option maxRecDepth 100000 in
theorem behind_int (n : Int) (b : Nat) (s : ByteArray) (w : World) (h0 : -9223372036854775808 ≤ n) (h1 : n ≤ 9223372036854775807) :
    Calls Tryz.prog 130 #[.agg #[.int .i64 2, .int .i64 n, .int .u64 b, .string s]] w fun e w' => e = .returned (.string (S (iB n))) ∧ Below w.heap.size w w' := by
  have HV := hidm (Vb.new w 2 n b s)
  have HB := hidm ((Below.refl w.heap.size w).alloc (Nat.le_refl _) (.cells #[.int .i64 2, .int .i64 n, .int .u64 b, .string s] 52))
  have q0 := HV.out.c0
  have q1 := HV.out.c1
  have q2 := HV.out.c2
  have q3 := HV.out.c3
  go_enter Tryz.func130, Tryz.ntmps130
  go_wp2_with fail
  refine (int_any n h0 h1 _).mono ?_
  rintro e w1 ⟨rfl, hb⟩
  have HB1 := hidm (HB.out.trans (hb.mono HB.out.size))
  clear hb q0 q1 q2 q3
  go_wp2_with fail
  go_ret
  exact ⟨rfl, HB1.out⟩
set_option maxHeartbeats 1000000 in
set_option maxRecDepth 100000 in
theorem behind_float (n : Int) (b : Nat) (s : ByteArray) (w : World)  :
    Calls Tryz.prog 130 #[.agg #[.int .i64 3, .int .i64 n, .int .u64 b, .string s]] w fun e w' => e = .returned (.string (S (eB b))) ∧ Below w.heap.size w w' := by
  have HV := hidm (Vb.new w 3 n b s)
  have HB := hidm ((Below.refl w.heap.size w).alloc (Nat.le_refl _) (.cells #[.int .i64 3, .int .i64 n, .int .u64 b, .string s] 52))
  have q0 := HV.out.c0
  have q1 := HV.out.c1
  have q2 := HV.out.c2
  have q3 := HV.out.c3
  go_enter Tryz.func130, Tryz.ntmps130
  go_wp2_with fail
  refine (eight_any b _).mono ?_
  rintro e w1 ⟨rfl, hb⟩
  have HB1 := hidm (HB.out.trans (hb.mono HB.out.size))
  clear hb q0 q1 q2 q3
  go_wp2_with fail
  go_ret
  exact ⟨rfl, HB1.out⟩
set_option maxHeartbeats 1000000 in
set_option maxRecDepth 100000 in
theorem behind_bytes (n : Int) (b : Nat) (s : ByteArray) (w : World) (hs : s.size ≤ 281474976710656) :
    Calls Tryz.prog 130 #[.agg #[.int .i64 4, .int .i64 n, .int .u64 b, .string s]] w fun e w' => e = .returned (.string (S (tB s.data.toList))) ∧ Below w.heap.size w w' := by
  have HV := hidm (Vb.new w 4 n b s)
  have HB := hidm ((Below.refl w.heap.size w).alloc (Nat.le_refl _) (.cells #[.int .i64 4, .int .i64 n, .int .u64 b, .string s] 52))
  have q0 := HV.out.c0
  have q1 := HV.out.c1
  have q2 := HV.out.c2
  have q3 := HV.out.c3
  go_enter Tryz.func130, Tryz.ntmps130
  go_wp2_with fail
  refine (text_any s (by omega) _).mono ?_
  rintro e w1 ⟨rfl, hb⟩
  have HB1 := hidm (HB.out.trans (hb.mono HB.out.size))
  clear hb q0 q1 q2 q3
  go_wp2_with fail
  go_ret
  exact ⟨rfl, HB1.out⟩
set_option maxHeartbeats 1000000 in
set_option maxRecDepth 100000 in
theorem behind_text (n : Int) (b : Nat) (s : ByteArray) (w : World) (hs : s.size ≤ 281474976710656) :
    Calls Tryz.prog 130 #[.agg #[.int .i64 5, .int .i64 n, .int .u64 b, .string s]] w fun e w' => e = .returned (.string (S (tB s.data.toList))) ∧ Below w.heap.size w w' := by
  have HV := hidm (Vb.new w 5 n b s)
  have HB := hidm ((Below.refl w.heap.size w).alloc (Nat.le_refl _) (.cells #[.int .i64 5, .int .i64 n, .int .u64 b, .string s] 52))
  have q0 := HV.out.c0
  have q1 := HV.out.c1
  have q2 := HV.out.c2
  have q3 := HV.out.c3
  go_enter Tryz.func130, Tryz.ntmps130
  go_wp2_with fail
  refine (text_any s (by omega) _).mono ?_
  rintro e w1 ⟨rfl, hb⟩
  have HB1 := hidm (HB.out.trans (hb.mono HB.out.size))
  clear hb q0 q1 q2 q3
  go_wp2_with fail
  go_ret
  exact ⟨rfl, HB1.out⟩
set_option maxHeartbeats 1000000 in
set_option maxRecDepth 100000 in
theorem behind_null (n : Int) (b : Nat) (s : ByteArray) (w : World)  :
    Calls Tryz.prog 130 #[.agg #[.int .i64 0, .int .i64 n, .int .u64 b, .string s]] w fun e w' => e = .returned (.string (S ([]))) ∧ Below w.heap.size w w' := by
  have HV := hidm (Vb.new w 0 n b s)
  have HB := hidm ((Below.refl w.heap.size w).alloc (Nat.le_refl _) (.cells #[.int .i64 0, .int .i64 n, .int .u64 b, .string s] 52))
  have q0 := HV.out.c0
  have q1 := HV.out.c1
  have q2 := HV.out.c2
  have q3 := HV.out.c3
  go_enter Tryz.func130, Tryz.ntmps130
  go_wp2_with fail
  go_ret
  exact ⟨rfl, HB.out⟩
theorem right_kind {v : V} (h : v.right = true) : (v.k = 0 ∨ v.k = 1 ∨ v.k = 2 ∨ v.k = 3 ∨ v.k = 4 ∨ v.k = 5) ∧ (v.k = 1 → v.n = 0 ∨ v.n = 1) ∧ (v.k = 4 ∨ v.k = 5 → v.s.length ≤ 4096) := by
  unfold V.right Val.rightB at h
  split at h
  · rename_i h0; exact ⟨Or.inl h0, fun h1 => by omega, fun h1 => by omega⟩
  split at h
  · rename_i h0 h1
    refine ⟨Or.inr (Or.inl h1), fun _ => ?_, fun h2 => by omega⟩
    simp only [Bool.and_eq_true, Bool.or_eq_true, beq_iff_eq] at h
    exact h.2
  split at h
  · rename_i h0 h1 h2; exact ⟨by omega, fun h1 => by omega, fun h1 => by omega⟩
  split at h
  · rename_i h0 h1 h2 h3; exact ⟨by omega, fun h1 => by omega, fun h1 => by omega⟩
  split at h
  · rename_i h0 h1 h2 h3 h4
    refine ⟨by omega, fun h1 => by omega, fun _ => ?_⟩
    simp only [Bool.and_eq_true, decide_eq_true_eq, S_size] at h
    omega
  · cases h
theorem behind_any (v : V) (hw : v.wf) (hr : v.right = true) (w : World) :
    Calls Tryz.prog 130 #[v.agg] w fun e w' => e = .returned (.string (S v.rest)) ∧ Below w.heap.size w w' := by
  obtain ⟨hk, hn, hs⟩ := right_kind hr
  obtain ⟨k, n, b, s⟩ := v
  simp only at hk hn hs
  have hsz : (S s).size ≤ 281474976710656 := by rw [S_size]; exact hw.s
  unfold V.rest
  rcases hk with rfl | rfl | rfl | rfl | rfl | rfl
  · exact behind_null n b (S s) w
  · have := hn rfl
    have h := behind_bool b (S s) w n.toNat (by omega)
    rw [show ((n.toNat : Nat) : Int) = n by omega] at h
    exact h
  · exact behind_int n b (S s) w hw.n0 hw.n1
  · exact behind_float n b (S s) w
  · exact behind_bytes n b (S s) w hsz
  · exact behind_text n b (S s) w hsz
set_option maxHeartbeats 1000000 in
theorem value_wrong (v : V) (hr : v.right = false) (w : World) :
    Calls Tryz.prog 113 #[v.agg] w fun e w' => e = .returned (.string ⟨#[]⟩) ∧ Below w.heap.size w w' := by
  have HV := hidm (Vb.new w v.k v.n v.b (S v.s))
  have HB := hidm ((Below.refl w.heap.size w).alloc (Nat.le_refl _) (.cells #[.int .i64 v.k, .int .i64 v.n, .int .u64 v.b, .string (S v.s)] 52))
  have hc := Val.right_any v.k v.n v.b (S v.s) (w.alloc (.cells #[.int .i64 v.k, .int .i64 v.n, .int .u64 v.b, .string (S v.s)] 52))
  rw [show Val.rightB v.k v.n v.b (S v.s) = false from hr] at hc
  have q0 := HV.out.c0
  have q1 := HV.out.c1
  have q2 := HV.out.c2
  have q3 := HV.out.c3
  simp only [V.agg]
  go_enter Tryz.func113, Tryz.ntmps113
  go_wp2_with fail
  refine hc.mono ?_
  rintro e w1 ⟨rfl, hb⟩
  have HB1 := hidm (HB.out.trans (hb.mono HB.out.size))
  clear hb q0 q1 q2 q3
  go_wp2_with fail
  go_ret
  exact ⟨rfl, HB1.out⟩
theorem vb_keep {W w1 w' : World} {b : Nat} {k n x : Int} {t : ByteArray}
    (h : w1.cell? ⟨b, 0, none⟩ = some (.int .i64 k) ∧ w1.cell? ⟨b, 1, none⟩ = some (.int .i64 n) ∧ w1.cell? ⟨b, 2, none⟩ = some (.int .u64 x) ∧ w1.cell? ⟨b, 3, none⟩ = some (.string t) ∧ Hid (Vb b k n x t w1 ∧ Below W.heap.size W w1 ∧ W.heap.size ≤ w1.heap.size)) (hb : Below w1.heap.size w1 w') :
    w'.cell? ⟨b, 0, none⟩ = some (.int .i64 k) ∧ w'.cell? ⟨b, 1, none⟩ = some (.int .i64 n) ∧ w'.cell? ⟨b, 2, none⟩ = some (.int .u64 x) ∧ w'.cell? ⟨b, 3, none⟩ = some (.string t) ∧ Hid (Vb b k n x t w' ∧ Below W.heap.size W w' ∧ W.heap.size ≤ w'.heap.size) := by
  obtain ⟨h1, h2, h3⟩ := h.2.2.2.2.out
  have := h1.later hb
  exact ⟨this.c0, this.c1, this.c2, this.c3, this, h2.trans (hb.mono h3), Nat.le_trans h3 hb.size⟩
theorem vb_start {W w' : World} {b : Nat} {k n x : Int} {t : ByteArray} (h1 : Vb b k n x t w') (h2 : Below W.heap.size W w') :
    w'.cell? ⟨b, 0, none⟩ = some (.int .i64 k) ∧ w'.cell? ⟨b, 1, none⟩ = some (.int .i64 n) ∧ w'.cell? ⟨b, 2, none⟩ = some (.int .u64 x) ∧ w'.cell? ⟨b, 3, none⟩ = some (.string t) ∧ Hid (Vb b k n x t w' ∧ Below W.heap.size W w' ∧ W.heap.size ≤ w'.heap.size) :=
  ⟨h1.c0, h1.c1, h1.c2, h1.c3, h1, h2, h2.size⟩
set_option maxHeartbeats 2000000 in
set_option maxRecDepth 100000 in
theorem value_right (v : V) (hw : v.wf) (hr : v.right = true) (w : World) :
    Calls Tryz.prog 113 #[v.agg] w fun e w' => e = .returned (.string (S v.bytes)) ∧ Below w.heap.size w w' := by
  have hk := (right_kind hr).1
  have HV := hidm (Vb.new w v.k v.n v.b (S v.s))
  have HB := hidm ((Below.refl w.heap.size w).alloc (Nat.le_refl _) (.cells #[.int .i64 v.k, .int .i64 v.n, .int .u64 v.b, .string (S v.s)] 52))
  have hc := Val.right_any v.k v.n v.b (S v.s) (w.alloc (.cells #[.int .i64 v.k, .int .i64 v.n, .int .u64 v.b, .string (S v.s)] 52))
  rw [show Val.rightB v.k v.n v.b (S v.s) = true from hr] at hc
  have h1 : ∀ w, Calls Tryz.prog 129 #[.int .i64 v.k] w fun e w' => e = .returned (.string (S [v.k.toNat.toUInt8])) ∧ Below w.heap.size w w' := fun w => by
    have h := onebyte_any v.k.toNat (by omega) w
    rw [show ((v.k.toNat : Nat) : Int) = v.k by omega] at h
    exact h
  have h2 : ∀ w, Calls Tryz.prog 130 #[.agg #[.int .i64 v.k, .int .i64 v.n, .int .u64 v.b, .string (S v.s)]] w fun e w' => e = .returned (.string (S v.rest)) ∧ Below w.heap.size w w' := fun w => behind_any v hw hr w
  have hl : ¬ 9223372036854775807 < ([v.k.toNat.toUInt8] : List UInt8).length + v.rest.length := by
    have : v.rest.length ≤ 281474976710700 := by
      have t0 := hw.s
      have t1 := uB_ten v.s.length (by omega)
      have t2 : (iB v.n).length ≤ 10 := uB_ten _ (zig_lt hw.n0 hw.n1)
      have t3 : (eB v.b).length = 8 := eTo_len _ _
      unfold V.rest tB
      split
      · simp
      split
      · omega
      split
      · omega
      split
      · rw [List.length_append]; omega
      · simp
    simp; omega
  have HE : Hid (S [v.k.toNat.toUInt8] ++ S v.rest = S v.bytes) := by
    refine hidm ?_
    rw [S_append]; unfold V.bytes; rw [if_pos hr]; rfl
  obtain ⟨k, hkk⟩ : ∃ k, k = v.k := ⟨_, rfl⟩
  obtain ⟨n, hnn⟩ : ∃ n, n = v.n := ⟨_, rfl⟩
  obtain ⟨b, hbb⟩ : ∃ b, b = v.b := ⟨_, rfl⟩
  obtain ⟨t, htt⟩ : ∃ t, t = S v.s := ⟨_, rfl⟩
  obtain ⟨x, hx⟩ : ∃ x, x = S [v.k.toNat.toUInt8] := ⟨_, rfl⟩
  obtain ⟨y, hy⟩ : ∃ y, y = S v.rest := ⟨_, rfl⟩
  obtain ⟨z, hz⟩ : ∃ z, z = S v.bytes := ⟨_, rfl⟩
  have hl2 : ¬ 9223372036854775807 < x.size + y.size := by rw [hx, hy, S_size, S_size]; exact hl
  have HE2 : Hid (x ++ y = z) := by rw [hx, hy, hz]; exact HE
  simp only [V.agg]
  simp only [← hx] at h1
  simp only [← hy] at h2
  simp only [← hz]
  clear hx hy hz hl HE
  simp only [← hkk, ← hnn, ← hbb, ← htt] at *
  clear hkk hnn hbb htt
  have q0 := HV.out.c0
  have q1 := HV.out.c1
  have q2 := HV.out.c2
  have q3 := HV.out.c3
  go_enter Tryz.func113, Tryz.ntmps113
  go_wp2_with fail
  refine hc.mono ?_
  rintro e w1 ⟨rfl, hb⟩
  have HV1 := hidm (HV.out.later hb)
  have HB1 := hidm (HB.out.trans (hb.mono HB.out.size))
  clear hb q0 q1 q2 q3 hc
  go_wp2_with fail
  go_region_held3 (fun w' => w'.cell? ⟨w.heap.size, 0, none⟩ = some (.int .i64 k) ∧ w'.cell? ⟨w.heap.size, 1, none⟩ = some (.int .i64 n) ∧ w'.cell? ⟨w.heap.size, 2, none⟩ = some (.int .u64 b) ∧ w'.cell? ⟨w.heap.size, 3, none⟩ = some (.string t) ∧ Hid (Vb w.heap.size k n b t w' ∧ Below w.heap.size w w' ∧ w.heap.size ≤ w'.heap.size))
    (first | (exact vb_keep (by assumption) hb) | (exact vb_start HV1.out HB1.out) | (exact vb_start (HV1.out.later (below_drewN (Below.refl _ _) 1)) HB1.out.drew) | go_keep)
    (first | (go_at_call 129; (with_reducible refine (h1 _).mono ?_); rintro e w' ⟨rfl, hb⟩) | (go_at_call 130; (with_reducible refine (h2 _).mono ?_); rintro e w' ⟨rfl, hb⟩))
  rename_i hS
  have HS := hidm hS.2.2.2.2.out.2.1
  clear hS
  go_wp2_with fail
  go_ret
  exact ⟨congrArg (fun q => Ending.returned (.string q)) HE2.out, HS.out⟩
theorem value_any (v : V) (hw : v.wf) (w : World) :
    Calls Tryz.prog 113 #[v.agg] w fun e w' => e = .returned (.string (S v.bytes)) ∧ Below w.heap.size w w' := by
  rcases hr : v.right with _ | _
  · have h := value_wrong v hr w
    unfold V.bytes
    rw [hr]
    exact h
  · exact value_right v hw hr w
end Cod
namespace Cod
/-- The slice sl holds these values. -/
def RowAt (vs : List V) (sl : Value) (w : World) : Prop := ∃ ao cap, sl = .slice ao vs.length cap ∧ (vs ≠ [] → ∃ b off, ao = some ⟨b, off, none⟩ ∧ b < w.heap.size ∧ ∀ j, j < vs.length * 4 → w.cell? ⟨b, off + j, none⟩ = (flat vs)[j]?)
theorem flat_at (vs : List V) : ∀ (j : Nat) (h : j < vs.length) (f : Nat), f < 4 → (flat vs)[j * 4 + f]? = (vs[j]).cells[f]? := by
  induction vs with
  | nil => intro j h; cases h
  | cons v vs ih =>
    intro j h f hf
    have e : flat (v :: vs) = v.cells ++ flat vs := rfl
    have el : v.cells.length = 4 := rfl
    cases j with
    | zero => rw [e, List.getElem?_append_left (by rw [el]; omega)]; simp
    | succ j =>
      rw [e, List.getElem?_append_right (by rw [el]; omega), el, show (j + 1) * 4 + f - 4 = j * 4 + f by omega]
      exact ih j (by simpa using h) f hf
theorem RowAt.later {vs : List V} {sl : Value} {w w' : World} (h : RowAt vs sl w) (hb : Below w.heap.size w w') : RowAt vs sl w' := by
  obtain ⟨ao, cap, h1, h2⟩ := h
  refine ⟨ao, cap, h1, fun hne => ?_⟩
  obtain ⟨b, off, h3, h4, h5⟩ := h2 hne
  exact ⟨b, off, h3, Nat.lt_of_lt_of_le h4 hb.size, fun j hj => by rw [hb.cell (p := ⟨b, off + j, none⟩) h4]; exact h5 j hj⟩
theorem RowAt.of_owns {base n : Nat} {vs : List V} {sl : Value} {w : World} (h : w.ownsRow base 52 4 sl n (flat vs)) (hn : n = vs.length) : RowAt vs sl w := by
  subst hn
  obtain ⟨g, cap, rfl⟩ | ⟨hv, h0⟩ : (∃ g cap, sl = .slice (some ⟨g, 0, none⟩) vs.length cap) ∨ (sl = .slice none 0 0 ∧ vs.length = 0) := by
    rcases h.2 with h2 | ⟨g, cap, cur, hv, _⟩
    · exact .inr h2
    · exact .inl ⟨g, cap, hv⟩
  · refine ⟨_, cap, rfl, fun _ => ⟨g, 0, rfl, (h.lt g rfl).2, fun j hj => ?_⟩⟩
    rw [Nat.zero_add]
    exact h.cellAt j hj
  · refine ⟨none, 0, by rw [hv, h0], fun hne => ?_⟩
    exact absurd (List.eq_nil_of_length_eq_zero h0) hne
/-- The cells of the value that stands at place i. -/
theorem RowAt.at {vs : List V} {sl : Value} {w : World} (h : RowAt vs sl w) (i : Nat) (hi : i < vs.length) : ∃ b off cap, sl = .slice (some ⟨b, off, none⟩) vs.length cap ∧ b < w.heap.size ∧
    w.cell? ⟨b, off + i * 4, none⟩ = some (.int .i64 vs[i].k) ∧ w.cell? ⟨b, off + i * 4 + 1, none⟩ = some (.int .i64 vs[i].n) ∧ w.cell? ⟨b, off + i * 4 + 2, none⟩ = some (.int .u64 vs[i].b) ∧ w.cell? ⟨b, off + i * 4 + 3, none⟩ = some (.string (S vs[i].s)) := by
  obtain ⟨ao, cap, h1, h2⟩ := h
  obtain ⟨b, off, rfl, h4, h5⟩ := h2 (fun e => by rw [e] at hi; cases hi)
  refine ⟨b, off, cap, h1, h4, ?_, ?_, ?_, ?_⟩
  · have := h5 (i * 4 + 0) (by omega); rw [flat_at vs i hi 0 (by omega)] at this; exact this
  · have := h5 (i * 4 + 1) (by omega); rw [flat_at vs i hi 1 (by omega)] at this; exact this
  · have := h5 (i * 4 + 2) (by omega); rw [flat_at vs i hi 2 (by omega)] at this; exact this
  · have := h5 (i * 4 + 3) (by omega); rw [flat_at vs i hi 3 (by omega)] at this; exact this
/-- The bytes of the first i values. -/
def rTo (vs : List V) (i : Nat) : List UInt8 := uB vs.length ++ (vs.take i).flatMap V.bytes
def rB (vs : List V) : List UInt8 := if vs.all V.right = true then rTo vs vs.length else []
theorem rTo_succ (vs : List V) (i : Nat) (h : i < vs.length) : rTo vs (i + 1) = rTo vs i ++ vs[i].bytes := by
  unfold rTo; rw [List.take_succ_eq_append_getElem h, List.flatMap_append, ← List.append_assoc]; simp
theorem bytes_len (v : V) (hw : v.wf) : v.bytes.length ≤ 4107 := by
  unfold V.bytes
  split
  · rename_i hr
    have t0 := (right_kind hr).2.2
    have t1 := uB_ten v.s.length (by have := hw.s; omega)
    have t2 : (iB v.n).length ≤ 10 := uB_ten _ (zig_lt hw.n0 hw.n1)
    have t3 : (eB v.b).length = 8 := eTo_len _ _
    unfold V.rest tB
    split
    · simp
    split
    · simp; omega
    split
    · simp; omega
    split
    · rename_i h5; have := t0 h5; simp only [List.length_cons, List.length_append]; omega
    · simp
  · simp
theorem rTo_len (vs : List V) (hw : ∀ v ∈ vs, v.wf) (hn : vs.length ≤ 1000000) : ∀ i, i ≤ vs.length → (rTo vs i).length ≤ 10 + i * 4107 := by
  intro i
  induction i with
  | zero => intro _; unfold rTo; simp; exact uB_ten _ (by omega)
  | succ i ih =>
    intro hi
    have h1 := ih (by omega)
    have h2 := bytes_len vs[i] (hw _ (List.getElem_mem (by omega)))
    rw [rTo_succ vs i (by omega), List.length_append]; omega
set_option maxHeartbeats 4000000 in
set_option maxRecDepth 100000 in
theorem row_any (vs : List V) (sl : Value) (hw : ∀ v ∈ vs, v.wf) (hn : vs.length ≤ 1000000) (w : World) (h : RowAt vs sl w) :
    Calls Tryz.prog 92 #[sl] w fun e w' => e = .returned (.string (S (rB vs))) ∧ Below w.heap.size w w' := by
  obtain ⟨ao, cap, rfl, hrow⟩ := h
  have HRow : Hid (RowAt vs (.slice ao vs.length cap) w) := hidm ⟨ao, cap, rfl, hrow⟩
  clear hrow
  have HW := hidm hw
  obtain ⟨n, hnn⟩ : ∃ n, n = vs.length := ⟨_, rfl⟩
  have HF := hidm (Bld.fresh w)
  have HB := hidm ((Below.refl w.heap.size w).alloc (Nat.le_refl _) (.cells #[.pointer none, .slice none 0 0] 90))
  obtain ⟨F, hF⟩ : ∃ F, F = S (rB vs) := ⟨_, rfl⟩
  rw [← hF, ← hnn]
  have HFF := hidm hF
  have HN := hidm hnn
  have hn' : n ≤ 1000000 := by omega
  clear hF hnn hw
  go_enter Tryz.func92, Tryz.ntmps92
  go_wp2_with fail
  refine (uint_any n (by omega) _).mono ?_
  rintro e w1 ⟨rfl, hb1⟩
  have HF1 := hidm (HF.out.below hb1)
  have HB1 := hidm (HB.out.trans (hb1.mono HB.out.size))
  clear hb1
  go_wp2_with fail
  refine (Bld.writeString _ _ [] _ _ HF1.out (by rw [S_size]; have := uB_ten n (by omega); simp; omega) HB1.out.size).mono ?_
  rintro e w2 ⟨rfl, hf2, hb2⟩
  have HF2 : Hid (Bld.Is w.heap.size w.heap.size (rTo vs 0) w2) := by
    refine hidm ?_
    have e0 : rTo vs 0 = [] ++ (S (uB n)).data.toList := by unfold rTo; rw [HN.out]; simp
    rw [e0]; exact hf2
  have HB2 := hidm (HB1.out.trans hb2)
  clear hf2 hb2
  go_wp2_with fail
  go_loopw [14] (fun ii wr => ∃ i : Nat, ii = .int .i64 i ∧ i ≤ n ∧ Hid ((vs.take i).all V.right = true) ∧ Hid (Bld.Is w.heap.size w.heap.size (rTo vs i) wr) ∧ Hid (Below w.heap.size w wr)) (fun ii _ => (n - (intOf ii).toNat))
  case atStart => exact ⟨0, rfl, by omega, hidm (by simp), HF2, HB2⟩
  case round =>
    obtain ⟨i, rfl, hi, HA, HFr, HBr⟩ := hrel
    rcases Nat.eq_or_lt_of_le hi with hie | hie
    · have f1 : ¬ (i : Int) < n := by omega
      have HE := hidm hie
      clear hie
      go_wp2_with fail
      refine (Bld.string_any _ _ _ _ HFr.out HBr.out.size).mono ?_
      rintro e w3 ⟨rfl, _, hb3⟩
      have HB3 := hidm (HBr.out.trans hb3)
      clear hb3
      go_wp2_with fail
      go_ret
      refine ⟨congrArg (fun q => Ending.returned (.string q)) ?_, HB3.out⟩
      rw [HFF.out]
      have h1 := HA.out
      rw [HE.out, HN.out, List.take_length] at h1
      unfold rB
      rw [if_pos h1, HE.out, HN.out]
    · have f1 : (i : Int) < n := by omega
      have hiv : i < vs.length := by have := HN.out; omega
      obtain ⟨b, off, cap', he, hbl, q0, q1, q2, q3⟩ := (HRow.out.later HBr.out).at i hiv
      simp only [Value.slice.injEq, true_and] at he
      obtain ⟨rfl, rfl⟩ := he
      obtain ⟨v, hv⟩ : ∃ v, v = vs[i] := ⟨_, rfl⟩
      rw [← hv] at q0 q1 q2 q3
      have hva := value_any v (by rw [hv]; exact HW.out _ (List.getElem_mem hiv)) (wr.alloc (.cells #[.int .i64 v.k, .int .i64 v.n, .int .u64 v.b, .string (S v.s)] 52))
      simp only [V.agg] at hva
      have HVV := hidm hv
      obtain ⟨t, ht⟩ : ∃ t, t = S v.bytes := ⟨_, rfl⟩
      rw [← ht] at hva
      have HT := hidm ht
      have hsz := HBr.out.size
      clear hv ht
      rcases hr : v.right with _ | _
      · have ht0 : t = ⟨#[]⟩ := by rw [HT.out]; unfold V.bytes; rw [hr]; rfl
        subst ht0
        go_wp2_with fail
        refine hva.mono ?_
        rintro e w3 ⟨rfl, hb3⟩
        have HB3 := hidm ((HBr.out.alloc hsz (.cells #[.int .i64 v.k, .int .i64 v.n, .int .u64 v.b, .string (S v.s)] 52)).trans (hb3.mono (by simp; omega)))
        clear hb3
        go_wp2_with fail
        go_ret
        refine ⟨congrArg (fun q => Ending.returned (.string q)) ?_, HB3.out⟩
        rw [HFF.out]
        unfold rB
        rw [if_neg]
        intro hall
        have := List.all_eq_true.1 hall v (by rw [HVV.out]; exact List.getElem_mem hiv)
        rw [hr] at this; cases this
      · have ht2 : t.size ≤ 4107 := by rw [HT.out, S_size]; exact bytes_len v (by rw [HVV.out]; exact HW.out _ (List.getElem_mem hiv))
        have ht1 : t.toList.isEmpty = false := by
          rw [HT.out, ByteArray.toList_eq, S_list]; unfold V.bytes; rw [if_pos hr]; rfl
        have HT2 := hidm ht2
        clear ht2
        go_wp2_with fail
        refine hva.mono ?_
        rintro e w3 ⟨rfl, hb3⟩
        have HB3 := hidm ((HBr.out.alloc hsz (.cells #[.int .i64 v.k, .int .i64 v.n, .int .u64 v.b, .string (S v.s)] 52)).trans (hb3.mono (by simp; omega)))
        have HF3 := hidm ((HFr.out.below ((Below.refl _ _).alloc (Nat.le_refl _) (.cells #[.int .i64 v.k, .int .i64 v.n, .int .u64 v.b, .string (S v.s)] 52))).below hb3)
        clear hb3
        go_wp2_with fail
        have hrl := rTo_len vs HW.out (by have := HN.out; omega) i (by omega)
        refine (Bld.writeString _ _ _ _ _ HF3.out (by have := HT2.out; omega) HB3.out.size).mono ?_
        rintro e w4 ⟨rfl, hf4, hb4⟩
        have HF4 : Hid (Bld.Is w.heap.size w.heap.size (rTo vs (i + 1)) w4) := by
          refine hidm ?_
          rw [rTo_succ vs i hiv, ← HVV.out]
          rw [HT.out, S_list] at hf4
          exact hf4
        have HB4 := hidm (HB3.out.trans hb4)
        have HA4 : Hid ((vs.take (i + 1)).all V.right = true) := by
          refine hidm ?_
          rw [List.take_succ_eq_append_getElem hiv, List.all_append, HA.out, ← HVV.out]
          simp [hr]
        clear hf4 hb4
        go_wp2_with fail
        go_roundw
        case rel => exact ⟨i + 1, by go_num, by omega, HA4, HF4, HB4⟩
        case measure => simp [intOf]; omega
end Cod
end Go.Proofs.YtopmbhpjdmcabaaGreat
