/- The document's own writers (layer 2): Value, Row. Conditions: the fields are within their kinds' ranges; a row holds at most a million values. -/
/- The document's own Row (layer 2). Conditions: the slice holds at most a million values, whose fields are within their kinds' ranges. -/
import Derived.Test.YtopmbhpjdmcabaaGreatWr
import Derived.Test.YtopmbhpjdmcabaaGreatMk
namespace Go.Proofs.YtopmbhpjdmcabaaGreat
open Go.RowKit
namespace Wr
open Cod
set_option maxHeartbeats 1000000 in
theorem rvalue_wrong (v : V) (hv : v.b < 18446744073709551616) (hr : v.right = false) (w : World) :
    Calls Tryz.prog 66 #[v.agg] w fun e w' => e = .returned (.string ⟨#[]⟩) ∧ Below w.heap.size w w' := by
  have HV := hidm (Vb.new w v.k v.n v.b (S v.s))
  have HB := hidm ((Below.refl w.heap.size w).alloc (Nat.le_refl _) (.cells #[.int .i64 v.k, .int .i64 v.n, .int .u64 v.b, .string (S v.s)] 52))
  have hc := rref_any v hv (w.alloc (.cells #[.int .i64 v.k, .int .i64 v.n, .int .u64 v.b, .string (S v.s)] 52))
  rw [hr] at hc
  have q0 := HV.out.c0
  have q1 := HV.out.c1
  have q2 := HV.out.c2
  have q3 := HV.out.c3
  simp only [V.agg] at hc ⊢
  go_enter Tryz.func66, Tryz.ntmps66
  go_wp2_with fail
  refine hc.mono ?_
  rintro e w1 ⟨rfl, hb⟩
  have HB1 := hidm (HB.out.trans (hb.mono HB.out.size))
  clear hb q0 q1 q2 q3
  go_wp2_with fail
  go_ret
  exact ⟨rfl, HB1.out⟩
set_option maxHeartbeats 2000000 in
set_option maxRecDepth 100000 in
theorem rv_null  (hr : V.right ⟨0, 0, 0, []⟩ = true) (w : World) :
    Calls Tryz.prog 66 #[.agg #[.int .i64 0, .int .i64 0, .int .u64 0, .string (S [])]] w fun e w' => e = .returned (.string (S (V.bytes ⟨0, 0, 0, []⟩))) ∧ Below w.heap.size w w' := by
  have HV := hidm (Vb.new w 0 0 0 (S []))
  have HB := hidm ((Below.refl w.heap.size w).alloc (Nat.le_refl _) (.cells #[.int .i64 0, .int .i64 0, .int .u64 0, .string (S [])] 52))
  have hc := rref_any ⟨0, 0, 0, []⟩ (by show (0 : Nat) < _; omega) (w.alloc (.cells #[.int .i64 0, .int .i64 0, .int .u64 0, .string (S [])] 52))
  rw [hr] at hc
  simp only [V.agg] at hc
  obtain ⟨b1, hb1⟩ : ∃ x, x = S [(0 : Nat).toUInt8] := ⟨_, rfl⟩
  have l1 : b1.size = 1 := by rw [hb1, S_size]; rfl
  have E1 : ∀ w0 : World, (convert 88 9 (.slice (some ⟨w0.heap.size, 0, none⟩) 1 1)).run Tryz.prog (w0.alloc (.cells #[.int .u8 0] 5)) = .ok (.string b1) (w0.alloc (.cells #[.int .u8 0] 5)) := fun w0 => by
    rw [hb1]; exact str_one 0 (by omega) w0 _ (Below.refl _ _)
  have HE : Hid (b1 = S (V.bytes ⟨0, 0, 0, []⟩)) := by
    refine hidm ?_
    rw [hb1, bytes_of hr]; rfl
  clear hb1
  have q0 := HV.out.c0
  have q1 := HV.out.c1
  have q2 := HV.out.c2
  have q3 := HV.out.c3
  go_enter Tryz.func66, Tryz.ntmps66
  go_wp2_with fail
  refine hc.mono ?_
  rintro e w1 ⟨rfl, hb0⟩
  have HV1 := hidm (HV.out.later hb0)
  have HB1 := hidm (HB.out.trans (hb0.mono HB.out.size))
  clear hb0 q0 q1 q2 q3 hc
  have q0 := HV1.out.c0
  have HV2 := hidm (HV1.out.past (.cells #[.int .u8 0] 5))
  have HB2 := hidm (HB1.out.alloc HB1.out.size (.cells #[.int .u8 0] 5))
  have p0 := HV2.out.c0
  have p1 := HV2.out.c1
  have p2 := HV2.out.c2
  have p3 := HV2.out.c3
  go_wp2_with fail
  go_ret
  exact ⟨congrArg (fun q => Ending.returned (.string q)) HE.out, HB2.out⟩
set_option maxHeartbeats 2000000 in
set_option maxRecDepth 100000 in
theorem rv_bool0  (hr : V.right ⟨1, 0, 0, []⟩ = true) (w : World) :
    Calls Tryz.prog 66 #[.agg #[.int .i64 1, .int .i64 0, .int .u64 0, .string (S [])]] w fun e w' => e = .returned (.string (S (V.bytes ⟨1, 0, 0, []⟩))) ∧ Below w.heap.size w w' := by
  have HV := hidm (Vb.new w 1 0 0 (S []))
  have HB := hidm ((Below.refl w.heap.size w).alloc (Nat.le_refl _) (.cells #[.int .i64 1, .int .i64 0, .int .u64 0, .string (S [])] 52))
  have hc := rref_any ⟨1, 0, 0, []⟩ (by show (0 : Nat) < _; omega) (w.alloc (.cells #[.int .i64 1, .int .i64 0, .int .u64 0, .string (S [])] 52))
  rw [hr] at hc
  simp only [V.agg] at hc
  obtain ⟨b1, hb1⟩ : ∃ x, x = S [(1 : Nat).toUInt8] := ⟨_, rfl⟩
  have l1 : b1.size = 1 := by rw [hb1, S_size]; rfl
  have E1 : ∀ w0 : World, (convert 88 9 (.slice (some ⟨w0.heap.size, 0, none⟩) 1 1)).run Tryz.prog (w0.alloc (.cells #[.int .u8 1] 5)) = .ok (.string b1) (w0.alloc (.cells #[.int .u8 1] 5)) := fun w0 => by
    rw [hb1]; exact str_one 1 (by omega) w0 _ (Below.refl _ _)
  obtain ⟨b2, hb2⟩ : ∃ x, x = S [(0 : Nat).toUInt8] := ⟨_, rfl⟩
  have l2 : b2.size = 1 := by rw [hb2, S_size]; rfl
  have E2 : ∀ w0 : World, (convert 88 9 (.slice (some ⟨w0.heap.size, 0, none⟩) 1 1)).run Tryz.prog (w0.alloc (.cells #[.int .u8 0] 5)) = .ok (.string b2) (w0.alloc (.cells #[.int .u8 0] 5)) := fun w0 => by
    rw [hb2]; exact str_one 0 (by omega) w0 _ (Below.refl _ _)
  have HE : Hid (b1 ++ b2 = S (V.bytes ⟨1, 0, 0, []⟩)) := by
    refine hidm ?_
    rw [hb1, hb2, S_append, bytes_of hr]; rfl
  clear hb1 hb2
  have q0 := HV.out.c0
  have q1 := HV.out.c1
  have q2 := HV.out.c2
  have q3 := HV.out.c3
  go_enter Tryz.func66, Tryz.ntmps66
  go_wp2_with fail
  refine hc.mono ?_
  rintro e w1 ⟨rfl, hb0⟩
  have HV1 := hidm (HV.out.later hb0)
  have HB1 := hidm (HB.out.trans (hb0.mono HB.out.size))
  clear hb0 q0 q1 q2 q3 hc
  have q0 := HV1.out.c0
  have HV2 := hidm (HV1.out.past (.cells #[.int .u8 1] 5))
  have HB2 := hidm (HB1.out.alloc HB1.out.size (.cells #[.int .u8 1] 5))
  have p0 := HV2.out.c0
  have p1 := HV2.out.c1
  have p2 := HV2.out.c2
  have p3 := HV2.out.c3
  have hE2 := E2 (w1.alloc (.cells #[.int .u8 1] 5))
  rw [show (w1.alloc (.cells #[.int .u8 1] 5)).heap.size = w1.heap.size + 1 by simp] at hE2
  clear E2
  go_wp2_with fail
  go_ret
  exact ⟨congrArg (fun q => Ending.returned (.string q)) HE.out, HB2.out.alloc HB2.out.size _⟩
set_option maxHeartbeats 2000000 in
set_option maxRecDepth 100000 in
theorem rv_bool1  (hr : V.right ⟨1, 1, 0, []⟩ = true) (w : World) :
    Calls Tryz.prog 66 #[.agg #[.int .i64 1, .int .i64 1, .int .u64 0, .string (S [])]] w fun e w' => e = .returned (.string (S (V.bytes ⟨1, 1, 0, []⟩))) ∧ Below w.heap.size w w' := by
  have HV := hidm (Vb.new w 1 1 0 (S []))
  have HB := hidm ((Below.refl w.heap.size w).alloc (Nat.le_refl _) (.cells #[.int .i64 1, .int .i64 1, .int .u64 0, .string (S [])] 52))
  have hc := rref_any ⟨1, 1, 0, []⟩ (by show (0 : Nat) < _; omega) (w.alloc (.cells #[.int .i64 1, .int .i64 1, .int .u64 0, .string (S [])] 52))
  rw [hr] at hc
  simp only [V.agg] at hc
  obtain ⟨b1, hb1⟩ : ∃ x, x = S [(1 : Nat).toUInt8] := ⟨_, rfl⟩
  have l1 : b1.size = 1 := by rw [hb1, S_size]; rfl
  have E1 : ∀ w0 : World, (convert 88 9 (.slice (some ⟨w0.heap.size, 0, none⟩) 1 1)).run Tryz.prog (w0.alloc (.cells #[.int .u8 1] 5)) = .ok (.string b1) (w0.alloc (.cells #[.int .u8 1] 5)) := fun w0 => by
    rw [hb1]; exact str_one 1 (by omega) w0 _ (Below.refl _ _)
  obtain ⟨b2, hb2⟩ : ∃ x, x = S [(1 : Nat).toUInt8] := ⟨_, rfl⟩
  have l2 : b2.size = 1 := by rw [hb2, S_size]; rfl
  have E2 : ∀ w0 : World, (convert 88 9 (.slice (some ⟨w0.heap.size, 0, none⟩) 1 1)).run Tryz.prog (w0.alloc (.cells #[.int .u8 1] 5)) = .ok (.string b2) (w0.alloc (.cells #[.int .u8 1] 5)) := fun w0 => by
    rw [hb2]; exact str_one 1 (by omega) w0 _ (Below.refl _ _)
  have HE : Hid (b1 ++ b2 = S (V.bytes ⟨1, 1, 0, []⟩)) := by
    refine hidm ?_
    rw [hb1, hb2, S_append, bytes_of hr]; rfl
  clear hb1 hb2
  have q0 := HV.out.c0
  have q1 := HV.out.c1
  have q2 := HV.out.c2
  have q3 := HV.out.c3
  go_enter Tryz.func66, Tryz.ntmps66
  go_wp2_with fail
  refine hc.mono ?_
  rintro e w1 ⟨rfl, hb0⟩
  have HV1 := hidm (HV.out.later hb0)
  have HB1 := hidm (HB.out.trans (hb0.mono HB.out.size))
  clear hb0 q0 q1 q2 q3 hc
  have q0 := HV1.out.c0
  have HV2 := hidm (HV1.out.past (.cells #[.int .u8 1] 5))
  have HB2 := hidm (HB1.out.alloc HB1.out.size (.cells #[.int .u8 1] 5))
  have p0 := HV2.out.c0
  have p1 := HV2.out.c1
  have p2 := HV2.out.c2
  have p3 := HV2.out.c3
  have hE2 := E2 (w1.alloc (.cells #[.int .u8 1] 5))
  rw [show (w1.alloc (.cells #[.int .u8 1] 5)).heap.size = w1.heap.size + 1 by simp] at hE2
  clear E2
  go_wp2_with fail
  go_ret
  exact ⟨congrArg (fun q => Ending.returned (.string q)) HE.out, HB2.out.alloc HB2.out.size _⟩
set_option maxHeartbeats 2000000 in
set_option maxRecDepth 100000 in
theorem rv_int (n : Int) (h0 : -9223372036854775808 ≤ n) (h1 : n ≤ 9223372036854775807) (hr : V.right ⟨2, n, 0, []⟩ = true) (w : World) :
    Calls Tryz.prog 66 #[.agg #[.int .i64 2, .int .i64 n, .int .u64 0, .string (S [])]] w fun e w' => e = .returned (.string (S (V.bytes ⟨2, n, 0, []⟩))) ∧ Below w.heap.size w w' := by
  have HV := hidm (Vb.new w 2 n 0 (S []))
  have HB := hidm ((Below.refl w.heap.size w).alloc (Nat.le_refl _) (.cells #[.int .i64 2, .int .i64 n, .int .u64 0, .string (S [])] 52))
  have hc := rref_any ⟨2, n, 0, []⟩ (by show (0 : Nat) < _; omega) (w.alloc (.cells #[.int .i64 2, .int .i64 n, .int .u64 0, .string (S [])] 52))
  rw [hr] at hc
  simp only [V.agg] at hc
  obtain ⟨b1, hb1⟩ : ∃ x, x = S [(2 : Nat).toUInt8] := ⟨_, rfl⟩
  have l1 : b1.size = 1 := by rw [hb1, S_size]; rfl
  have E1 : ∀ w0 : World, (convert 88 9 (.slice (some ⟨w0.heap.size, 0, none⟩) 1 1)).run Tryz.prog (w0.alloc (.cells #[.int .u8 2] 5)) = .ok (.string b1) (w0.alloc (.cells #[.int .u8 2] 5)) := fun w0 => by
    rw [hb1]; exact str_one 2 (by omega) w0 _ (Below.refl _ _)
  have hcall := fun w => rint_any n h0 h1 w
  obtain ⟨b2, hb2⟩ : ∃ x, x = S (iB n) := ⟨_, rfl⟩
  rw [← hb2] at hcall
  have l2 : b2.size ≤ 281474976710700 := by rw [hb2, S_size]; have := uB_ten _ (zig_lt h0 h1); unfold iB; omega
  have HE : Hid (b1 ++ b2 = S (V.bytes ⟨2, n, 0, []⟩)) := by
    refine hidm ?_
    rw [hb1, hb2, S_append, bytes_of hr]; rfl
  clear hb1 hb2
  have q0 := HV.out.c0
  have q1 := HV.out.c1
  have q2 := HV.out.c2
  have q3 := HV.out.c3
  go_enter Tryz.func66, Tryz.ntmps66
  go_wp2_with fail
  refine hc.mono ?_
  rintro e w1 ⟨rfl, hb0⟩
  have HV1 := hidm (HV.out.later hb0)
  have HB1 := hidm (HB.out.trans (hb0.mono HB.out.size))
  clear hb0 q0 q1 q2 q3 hc
  have q0 := HV1.out.c0
  have HV2 := hidm (HV1.out.past (.cells #[.int .u8 2] 5))
  have HB2 := hidm (HB1.out.alloc HB1.out.size (.cells #[.int .u8 2] 5))
  have p0 := HV2.out.c0
  have p1 := HV2.out.c1
  have p2 := HV2.out.c2
  have p3 := HV2.out.c3
  go_wp2_with fail
  refine (hcall _).mono ?_
  rintro e w3 ⟨rfl, hb3⟩
  have HB3 := hidm (HB2.out.trans (hb3.mono HB2.out.size))
  clear hb3 q0 p0 p1 p2 p3
  go_wp2_with fail
  go_ret
  exact ⟨congrArg (fun q => Ending.returned (.string q)) HE.out, HB3.out⟩
set_option maxHeartbeats 2000000 in
set_option maxRecDepth 100000 in
theorem rv_float (b : Nat) (hb : b < 18446744073709551616) (hr : V.right ⟨3, 0, b, []⟩ = true) (w : World) :
    Calls Tryz.prog 66 #[.agg #[.int .i64 3, .int .i64 0, .int .u64 b, .string (S [])]] w fun e w' => e = .returned (.string (S (V.bytes ⟨3, 0, b, []⟩))) ∧ Below w.heap.size w w' := by
  have HV := hidm (Vb.new w 3 0 b (S []))
  have HB := hidm ((Below.refl w.heap.size w).alloc (Nat.le_refl _) (.cells #[.int .i64 3, .int .i64 0, .int .u64 b, .string (S [])] 52))
  have hc := rref_any ⟨3, 0, b, []⟩ (by exact hb) (w.alloc (.cells #[.int .i64 3, .int .i64 0, .int .u64 b, .string (S [])] 52))
  rw [hr] at hc
  simp only [V.agg] at hc
  obtain ⟨b1, hb1⟩ : ∃ x, x = S [(3 : Nat).toUInt8] := ⟨_, rfl⟩
  have l1 : b1.size = 1 := by rw [hb1, S_size]; rfl
  have E1 : ∀ w0 : World, (convert 88 9 (.slice (some ⟨w0.heap.size, 0, none⟩) 1 1)).run Tryz.prog (w0.alloc (.cells #[.int .u8 3] 5)) = .ok (.string b1) (w0.alloc (.cells #[.int .u8 3] 5)) := fun w0 => by
    rw [hb1]; exact str_one 3 (by omega) w0 _ (Below.refl _ _)
  have hcall := fun w => reight_any b hb w
  obtain ⟨b2, hb2⟩ : ∃ x, x = S (eB b) := ⟨_, rfl⟩
  rw [← hb2] at hcall
  have l2 : b2.size ≤ 281474976710700 := by rw [hb2, S_size, show (eB b).length = 8 from eTo_len _ _]; omega
  have HE : Hid (b1 ++ b2 = S (V.bytes ⟨3, 0, b, []⟩)) := by
    refine hidm ?_
    rw [hb1, hb2, S_append, bytes_of hr]; rfl
  clear hb1 hb2
  have q0 := HV.out.c0
  have q1 := HV.out.c1
  have q2 := HV.out.c2
  have q3 := HV.out.c3
  go_enter Tryz.func66, Tryz.ntmps66
  go_wp2_with fail
  refine hc.mono ?_
  rintro e w1 ⟨rfl, hb0⟩
  have HV1 := hidm (HV.out.later hb0)
  have HB1 := hidm (HB.out.trans (hb0.mono HB.out.size))
  clear hb0 q0 q1 q2 q3 hc
  have q0 := HV1.out.c0
  have HV2 := hidm (HV1.out.past (.cells #[.int .u8 3] 5))
  have HB2 := hidm (HB1.out.alloc HB1.out.size (.cells #[.int .u8 3] 5))
  have p0 := HV2.out.c0
  have p1 := HV2.out.c1
  have p2 := HV2.out.c2
  have p3 := HV2.out.c3
  go_wp2_with fail
  refine (hcall _).mono ?_
  rintro e w3 ⟨rfl, hb3⟩
  have HB3 := hidm (HB2.out.trans (hb3.mono HB2.out.size))
  clear hb3 q0 p0 p1 p2 p3
  go_wp2_with fail
  go_ret
  exact ⟨congrArg (fun q => Ending.returned (.string q)) HE.out, HB3.out⟩
set_option maxHeartbeats 2000000 in
set_option maxRecDepth 100000 in
theorem rv_bytes (s : List UInt8) (hs : s.length ≤ 281474976710656) (hr : V.right ⟨4, 0, 0, s⟩ = true) (w : World) :
    Calls Tryz.prog 66 #[.agg #[.int .i64 4, .int .i64 0, .int .u64 0, .string (S s)]] w fun e w' => e = .returned (.string (S (V.bytes ⟨4, 0, 0, s⟩))) ∧ Below w.heap.size w w' := by
  have HV := hidm (Vb.new w 4 0 0 (S s))
  have HB := hidm ((Below.refl w.heap.size w).alloc (Nat.le_refl _) (.cells #[.int .i64 4, .int .i64 0, .int .u64 0, .string (S s)] 52))
  have hc := rref_any ⟨4, 0, 0, s⟩ (by show (0 : Nat) < _; omega) (w.alloc (.cells #[.int .i64 4, .int .i64 0, .int .u64 0, .string (S s)] 52))
  rw [hr] at hc
  simp only [V.agg] at hc
  obtain ⟨b1, hb1⟩ : ∃ x, x = S [(4 : Nat).toUInt8] := ⟨_, rfl⟩
  have l1 : b1.size = 1 := by rw [hb1, S_size]; rfl
  have E1 : ∀ w0 : World, (convert 88 9 (.slice (some ⟨w0.heap.size, 0, none⟩) 1 1)).run Tryz.prog (w0.alloc (.cells #[.int .u8 4] 5)) = .ok (.string b1) (w0.alloc (.cells #[.int .u8 4] 5)) := fun w0 => by
    rw [hb1]; exact str_one 4 (by omega) w0 _ (Below.refl _ _)
  have hcall := fun w => rtext_any (S s) (by rw [S_size]; omega) w
  obtain ⟨b2, hb2⟩ : ∃ x, x = S (tB s) := ⟨_, rfl⟩
  simp only [← hb2] at hcall
  have l2 : b2.size ≤ 281474976710700 := by rw [hb2, S_size]; unfold tB; rw [List.length_append]; have := uB_ten s.length (by omega); omega
  have HE : Hid (b1 ++ b2 = S (V.bytes ⟨4, 0, 0, s⟩)) := by
    refine hidm ?_
    rw [hb1, hb2, S_append, bytes_of hr]; rfl
  clear hb1 hb2
  have q0 := HV.out.c0
  have q1 := HV.out.c1
  have q2 := HV.out.c2
  have q3 := HV.out.c3
  go_enter Tryz.func66, Tryz.ntmps66
  go_wp2_with fail
  refine hc.mono ?_
  rintro e w1 ⟨rfl, hb0⟩
  have HV1 := hidm (HV.out.later hb0)
  have HB1 := hidm (HB.out.trans (hb0.mono HB.out.size))
  clear hb0 q0 q1 q2 q3 hc
  have q0 := HV1.out.c0
  have HV2 := hidm (HV1.out.past (.cells #[.int .u8 4] 5))
  have HB2 := hidm (HB1.out.alloc HB1.out.size (.cells #[.int .u8 4] 5))
  have p0 := HV2.out.c0
  have p1 := HV2.out.c1
  have p2 := HV2.out.c2
  have p3 := HV2.out.c3
  go_wp2_with fail
  refine (hcall _).mono ?_
  rintro e w3 ⟨rfl, hb3⟩
  have HB3 := hidm (HB2.out.trans (hb3.mono HB2.out.size))
  clear hb3 q0 p0 p1 p2 p3
  go_wp2_with fail
  go_ret
  exact ⟨congrArg (fun q => Ending.returned (.string q)) HE.out, HB3.out⟩
set_option maxHeartbeats 2000000 in
set_option maxRecDepth 100000 in
theorem rv_text (s : List UInt8) (hs : s.length ≤ 281474976710656) (hr : V.right ⟨5, 0, 0, s⟩ = true) (w : World) :
    Calls Tryz.prog 66 #[.agg #[.int .i64 5, .int .i64 0, .int .u64 0, .string (S s)]] w fun e w' => e = .returned (.string (S (V.bytes ⟨5, 0, 0, s⟩))) ∧ Below w.heap.size w w' := by
  have HV := hidm (Vb.new w 5 0 0 (S s))
  have HB := hidm ((Below.refl w.heap.size w).alloc (Nat.le_refl _) (.cells #[.int .i64 5, .int .i64 0, .int .u64 0, .string (S s)] 52))
  have hc := rref_any ⟨5, 0, 0, s⟩ (by show (0 : Nat) < _; omega) (w.alloc (.cells #[.int .i64 5, .int .i64 0, .int .u64 0, .string (S s)] 52))
  rw [hr] at hc
  simp only [V.agg] at hc
  obtain ⟨b1, hb1⟩ : ∃ x, x = S [(5 : Nat).toUInt8] := ⟨_, rfl⟩
  have l1 : b1.size = 1 := by rw [hb1, S_size]; rfl
  have E1 : ∀ w0 : World, (convert 88 9 (.slice (some ⟨w0.heap.size, 0, none⟩) 1 1)).run Tryz.prog (w0.alloc (.cells #[.int .u8 5] 5)) = .ok (.string b1) (w0.alloc (.cells #[.int .u8 5] 5)) := fun w0 => by
    rw [hb1]; exact str_one 5 (by omega) w0 _ (Below.refl _ _)
  have hcall := fun w => rtext_any (S s) (by rw [S_size]; omega) w
  obtain ⟨b2, hb2⟩ : ∃ x, x = S (tB s) := ⟨_, rfl⟩
  simp only [← hb2] at hcall
  have l2 : b2.size ≤ 281474976710700 := by rw [hb2, S_size]; unfold tB; rw [List.length_append]; have := uB_ten s.length (by omega); omega
  have HE : Hid (b1 ++ b2 = S (V.bytes ⟨5, 0, 0, s⟩)) := by
    refine hidm ?_
    rw [hb1, hb2, S_append, bytes_of hr]; rfl
  clear hb1 hb2
  have q0 := HV.out.c0
  have q1 := HV.out.c1
  have q2 := HV.out.c2
  have q3 := HV.out.c3
  go_enter Tryz.func66, Tryz.ntmps66
  go_wp2_with fail
  refine hc.mono ?_
  rintro e w1 ⟨rfl, hb0⟩
  have HV1 := hidm (HV.out.later hb0)
  have HB1 := hidm (HB.out.trans (hb0.mono HB.out.size))
  clear hb0 q0 q1 q2 q3 hc
  have q0 := HV1.out.c0
  have HV2 := hidm (HV1.out.past (.cells #[.int .u8 5] 5))
  have HB2 := hidm (HB1.out.alloc HB1.out.size (.cells #[.int .u8 5] 5))
  have p0 := HV2.out.c0
  have p1 := HV2.out.c1
  have p2 := HV2.out.c2
  have p3 := HV2.out.c3
  go_wp2_with fail
  refine (hcall _).mono ?_
  rintro e w3 ⟨rfl, hb3⟩
  have HB3 := hidm (HB2.out.trans (hb3.mono HB2.out.size))
  clear hb3 q0 p0 p1 p2 p3
  go_wp2_with fail
  go_ret
  exact ⟨congrArg (fun q => Ending.returned (.string q)) HE.out, HB3.out⟩
theorem rvalue_any (v : V) (hw : v.wf) (w : World) :
    Calls Tryz.prog 66 #[v.agg] w fun e w' => e = .returned (.string (S v.bytes)) ∧ Below w.heap.size w w' := by
  rcases hr : v.right with _ | _
  · have h := rvalue_wrong v hw.b hr w
    unfold V.bytes
    rw [hr]
    exact h
  · rcases right_form hr with rfl | ⟨n, rfl, rfl | rfl⟩ | ⟨n, rfl⟩ | ⟨b, rfl⟩ | ⟨s, rfl, _⟩ | ⟨s, rfl, _⟩
    · exact rv_null hr w
    · exact rv_bool0 hr w
    · exact rv_bool1 hr w
    · exact rv_int n hw.n0 hw.n1 hr w
    · exact rv_float b hw.b hr w
    · exact rv_bytes s hw.s hr w
    · exact rv_text s hw.s hr w
end Wr
end Go.Proofs.YtopmbhpjdmcabaaGreat
namespace Go.Proofs.YtopmbhpjdmcabaaGreat
open Go.RowKit
namespace Wr
open Cod
set_option maxHeartbeats 4000000 in
set_option maxRecDepth 100000 in
theorem rrow_any (vs : List V) (sl : Value) (hw : ∀ v ∈ vs, v.wf) (hn : vs.length ≤ 1000000) (w : World) (h : RowAt vs sl w) :
    Calls Tryz.prog 37 #[sl] w fun e w' => e = .returned (.string (S (rB vs))) ∧ Below w.heap.size w w' := by
  obtain ⟨ao, cap, rfl, hrow⟩ := h
  have HRow : Hid (RowAt vs (.slice ao vs.length cap) w) := hidm ⟨ao, cap, rfl, hrow⟩
  clear hrow
  have HW := hidm hw
  obtain ⟨n, hnn⟩ : ∃ n, n = vs.length := ⟨_, rfl⟩
  obtain ⟨F, hF⟩ : ∃ F, F = S (rB vs) := ⟨_, rfl⟩
  rw [← hF, ← hnn]
  have HFF := hidm hF
  have HN := hidm hnn
  have hn' : n ≤ 1000000 := by omega
  clear hF hnn hw
  go_enter Tryz.func37, Tryz.ntmps37
  go_wp2_with fail
  refine (ruint_any n (by omega) _).mono ?_
  rintro e w1 ⟨rfl, hb1⟩
  have HB1 := hidm hb1
  clear hb1
  go_wp2_with fail
  go_loopw [3, 4] (fun ss ii wr => ∃ (i : Nat) (t : ByteArray), ss = .string t ∧ ii = .int .i64 i ∧ i ≤ n ∧ t.size ≤ 10 + i * 4107 ∧ Hid ((vs.take i).all V.right = true) ∧ Hid (t = S (rTo vs i)) ∧ Hid (Below w.heap.size w wr)) (fun _ ii _ => (n - (intOf ii).toNat))
  case atStart => exact ⟨0, S (uB n), rfl, rfl, by omega, by rw [S_size]; have := uB_ten n (by omega); omega, hidm (by simp), hidm (by unfold rTo; rw [HN.out]; simp), HB1⟩
  case round =>
    obtain ⟨i, t, rfl, rfl, hi, hts, HA, HT, HBr⟩ := hrel
    rcases Nat.eq_or_lt_of_le hi with hie | hie
    · have f1 : ¬ (i : Int) < n := by omega
      have HE := hidm hie
      clear hie
      go_wp2_with fail
      go_ret
      refine ⟨congrArg (fun q => Ending.returned (.string q)) ?_, HBr.out⟩
      rw [HFF.out, HT.out]
      have h1 := HA.out
      rw [HE.out, HN.out, List.take_length] at h1
      unfold rB
      rw [if_pos h1, HE.out, HN.out]
    · have f1 : (i : Int) < n := by omega
      have hiv : i < vs.length := by have := HN.out; omega
      obtain ⟨b, off, cap', he, hbl, q0, q1, q2, q3⟩ := (HRow.out.later HBr.out).at i hiv
      simp only [Value.slice.injEq, true_and] at he
      obtain ⟨rfl, rfl⟩ := he
      obtain ⟨v, hv⟩ : ∃ v, v = vs[i] := ⟨_, rfl⟩
      rw [← hv] at q0 q1 q2 q3
      have hva := rvalue_any v (by rw [hv]; exact HW.out _ (List.getElem_mem hiv)) wr
      simp only [V.agg] at hva
      have HVV := hidm hv
      obtain ⟨y, hy⟩ : ∃ y, y = S v.bytes := ⟨_, rfl⟩
      rw [← hy] at hva
      have HY := hidm hy
      clear hv hy
      rcases hr : v.right with _ | _
      · have hy0 : y = ⟨#[]⟩ := by rw [HY.out]; unfold V.bytes; rw [hr]; rfl
        subst hy0
        go_wp2_with fail
        refine hva.mono ?_
        rintro e w3 ⟨rfl, hb3⟩
        have HB3 := hidm (HBr.out.trans (hb3.mono HBr.out.size))
        clear hb3
        go_wp2_with fail
        go_ret
        refine ⟨congrArg (fun q => Ending.returned (.string q)) ?_, HB3.out⟩
        rw [HFF.out]
        unfold rB
        rw [if_neg]
        intro hall
        have := List.all_eq_true.1 hall v (by rw [HVV.out]; exact List.getElem_mem hiv)
        rw [hr] at this; cases this
      · have hy2 : y.size ≤ 4107 := by rw [HY.out, S_size]; exact bytes_len v (by rw [HVV.out]; exact HW.out _ (List.getElem_mem hiv))
        have hy1 : y.toList.isEmpty = false := by
          rw [HY.out, ByteArray.toList_eq, S_list]; unfold V.bytes; rw [if_pos hr]; rfl
        have HT2 : Hid (t ++ y = S (rTo vs (i + 1))) := by
          refine hidm ?_
          rw [rTo_succ vs i hiv, ← HVV.out, HT.out, HY.out, S_append]
        have HA2 : Hid ((vs.take (i + 1)).all V.right = true) := by
          refine hidm ?_
          rw [List.take_succ_eq_append_getElem hiv, List.all_append, HA.out, ← HVV.out]
          simp [hr]
        have hsum : (t ++ y).size ≤ 10 + (i + 1) * 4107 := by rw [ByteArray.size_append]; omega
        have HSUM := hidm hsum
        clear hsum
        go_wp2_with fail
        refine hva.mono ?_
        rintro e w3 ⟨rfl, hb3⟩
        have HB3 := hidm (HBr.out.trans (hb3.mono HBr.out.size))
        clear hb3
        have hcc : ¬ 9223372036854775807 < t.size + y.size := by omega
        go_wp2_with fail
        go_roundw
        case rel => exact ⟨i + 1, t ++ y, rfl, by go_num, by omega, HSUM.out, HA2, HT2, HB3⟩
        case measure => simp [intOf]; omega
end Wr
end Go.Proofs.YtopmbhpjdmcabaaGreat
