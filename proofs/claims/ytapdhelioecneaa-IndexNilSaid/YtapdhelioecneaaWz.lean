/- What a nil index answers, and one that New did not give. Condition: less than a thousand items. -/
import Derived.Test.YtapdhelioecneaaWu
import Derived.Test.YtapdhelioecneaaWh
namespace Go.Proofs.Ytapdhelioecneaa
open Go.RowKit
attribute [local go_sem] Oper.semAt_some
namespace Idx
set_option maxHeartbeats 1000000 in
theorem ninsert_any {p : Option Addr} {w : World} (h : NotGiven p w) (t : It) : Calls Try.prog 12 #[.pointer p, .agg #[.string (S t.k), .int .i64 t.s, .int .i64 t.e, .int .i64 t.id]] w fun e w' => e = .returned (.int .i64 13) ∧ Below w.heap.size w w' := by
  have HB := hide (below_alloc w (.cells #[.string (S t.k), .int .i64 t.s, .int .i64 t.e, .int .i64 t.id] 31))
  have CG := hide (given_no (h.later HB.out))
  clear h
  go_enter Try.func12, Try.ntmps12
  go_wp2_with fail
  refine CG.out.mono ?_
  rintro e w1 ⟨rfl, e9⟩
  obtain rfl : _ = w1 := e9.symm
  clear e9 CG
  go_wp2_with fail
  go_ret
  exact ⟨rfl, HB.out⟩
set_option maxHeartbeats 1000000 in
theorem nclose_any {p : Option Addr} {w : World} (h : NotGiven p w) (k : List UInt8) (s : Int) (e9 : Int) : Calls Try.prog 14 #[.pointer p, .string (S k), .int .i64 s, .int .i64 e9] w fun e w' => e = .returned (.int .i64 13) ∧ Below w.heap.size w w' := by
  have CP := hide (place_nil h k s)
  clear h
  go_enter Try.func14, Try.ntmps14
  go_wp2_with fail
  refine CP.out.mono ?_
  rintro e w1 ⟨rfl, hb⟩
  have HB := hide (hb.trans ((below_alloc w1 (.cells #[.int .i64 0, .int .i64 0] 74)).mono hb.size))
  clear hb CP
  go_wp2_with fail
  go_ret
  exact ⟨rfl, HB.out⟩
set_option maxHeartbeats 1000000 in
theorem ndelete_any {p : Option Addr} {w : World} (h : NotGiven p w) (k : List UInt8) (s : Int) : Calls Try.prog 16 #[.pointer p, .string (S k), .int .i64 s] w fun e w' => e = .returned (.int .i64 13) ∧ Below w.heap.size w w' := by
  have CP := hide (place_nil h k s)
  clear h
  go_enter Try.func16, Try.ntmps16
  go_wp2_with fail
  refine CP.out.mono ?_
  rintro e w1 ⟨rfl, hb⟩
  have HB := hide (hb.trans ((below_alloc w1 (.cells #[.int .i64 0, .int .i64 0] 74)).mono hb.size))
  clear hb CP
  go_wp2_with fail
  go_ret
  exact ⟨rfl, HB.out⟩
set_option maxHeartbeats 1000000 in
set_option maxRecDepth 100000 in
theorem nget_any {p : Option Addr} {w : World} (h : NotGiven p w) (k : List UInt8) (s : Int) : Calls Try.prog 24 #[.pointer p, .string (S k), .int .i64 s] w fun e w' => e = .returned (.tuple #[.agg #[.string (S []), .int .i64 0, .int .i64 0, .int .i64 0], .int .i64 13]) ∧ Below w.heap.size w w' := by
  obtain ⟨w0, hw0⟩ : ∃ w0, w0 = w.alloc (.cells #[.string ⟨#[]⟩, .int .i64 0, .int .i64 0, .int .i64 0] 31) := ⟨_, rfl⟩
  have hb0 : Below w.heap.size w w0 := by rw [hw0]; exact below_alloc _ _
  have CP := hide (place_nil (h.later hb0) k s)
  have HB0 := hide hb0
  have HZ := hide (show Bw zeroIt w.heap.size w0 from by rw [hw0]; exact Bw.new w zeroIt 31 rfl)
  have HW0 := hide hw0
  clear h hw0 hb0
  go_enter Try.func24, Try.ntmps24
  go_wp2_with fail
  rw [← HW0.out]
  refine CP.out.mono ?_
  rintro e w1 ⟨rfl, hb⟩
  have hq := below_alloc w1 (.cells #[.int .i64 0, .int .i64 0] 74)
  have ZB := hide ((HZ.out.later hb).later hq)
  have HB := hide (HB0.out.trans ((hb.mono HB0.out.size).trans (hq.mono (Nat.le_trans HB0.out.size hb.size))))
  obtain ⟨c0, c1, c2, c3, _⟩ := ZB.out.toBx
  have z0 := ZB.out.z 0
  have z1 := ZB.out.z 1
  have z2 := ZB.out.z 2
  have z3 := ZB.out.z 3
  clear hb CP hq
  go_wp2_with fail
  refine bodyPost_ret (results_cell_tmp rfl _ _ rfl (load_itX (ZB.out.set zeroIt).toBx)) rfl ?_
  exact ⟨rfl, (((HB.out.setCell (p := ⟨w.heap.size, 0, none⟩) (Nat.le_refl _) _).setCell (p := ⟨w.heap.size, 1, none⟩) (Nat.le_refl _) _).setCell (p := ⟨w.heap.size, 2, none⟩) (Nat.le_refl _) _).setCell (p := ⟨w.heap.size, 3, none⟩) (Nat.le_refl _) _⟩
set_option maxHeartbeats 1000000 in
set_option maxRecDepth 100000 in
theorem nwithin_any {p : Option Addr} {w : World} (h : NotGiven p w) (lo hi : List UInt8) (f t : Int) : Calls Try.prog 42 #[.pointer p, .string (S lo), .string (S hi), .int .i64 f, .int .i64 t] w fun e w' => e = .returned (.slice none 0 0) ∧ Below w.heap.size w w' := by
  obtain ⟨w1, hw1⟩ : ∃ w1, w1 = (((w.alloc (.cells #[.string (S lo)] 9)).alloc (.cells #[.string (S hi)] 9)).alloc (.cells #[.int .i64 f] 3)).alloc (.cells #[.int .i64 t] 3) := ⟨_, rfl⟩
  have hb1 : Below w.heap.size w w1 := by rw [hw1]; exact ((((Below.refl _ w).alloc (Nat.le_refl _) _).alloc (by simp) _).alloc (by simp; omega) _).alloc (by simp; omega) _
  have HW1 := hide hw1
  have HB := hide hb1
  have CG := hide (given_no (h.later hb1))
  clear h hw1 hb1
  go_enter Try.func42, Try.ntmps42
  go_wp2_with fail
  rw [← HW1.out]
  refine CG.out.mono ?_
  rintro e w9 ⟨rfl, e9⟩
  obtain rfl : w1 = w9 := e9.symm
  clear e9 CG
  go_wp2_with fail
  go_ret
  exact ⟨rfl, HB.out⟩
set_option maxHeartbeats 1000000 in
set_option maxRecDepth 100000 in
theorem nstab_any {p : Option Addr} {w : World} (h : NotGiven p w) (lo hi : List UInt8) (t : Int) : Calls Try.prog 20 #[.pointer p, .string (S lo), .string (S hi), .int .i64 t] w fun e w' => e = .returned (.slice none 0 0) ∧ Below w.heap.size w w' := by
  have CW := hide (nwithin_any h lo hi t t)
  clear h
  go_enter Try.func20, Try.ntmps20
  go_wp2_with fail
  refine CW.out.mono ?_
  rintro e w1 ⟨rfl, hb⟩
  have HB := hide hb
  clear hb CW
  go_wp2_with fail
  go_ret
  exact ⟨rfl, HB.out⟩
set_option maxHeartbeats 1000000 in
set_option maxRecDepth 100000 in
theorem nall_any {p : Option Addr} {w : World} (h : NotGiven p w) : Calls Try.prog 29 #[.pointer p] w fun e w' => e = .returned (.slice none 0 0) ∧ Below w.heap.size w w' := by
  have CW := hide (nwithin_any h [] [] 0 1099511627776)
  clear h
  go_enter Try.func29, Try.ntmps29
  go_wp2_with fail
  refine CW.out.mono ?_
  rintro e w1 ⟨rfl, hb⟩
  have HB := hide hb
  clear hb CW
  go_wp2_with fail
  go_ret
  exact ⟨rfl, HB.out⟩
set_option maxHeartbeats 1000000 in
set_option maxRecDepth 100000 in
theorem nover_any {p : Option Addr} {w : World} (h : NotGiven p w) (lo hi : List UInt8) (a b : Int) (ha : In64 a) (hb : In64 b) (hab : a < b) : Calls Try.prog 22 #[.pointer p, .string (S lo), .string (S hi), .agg #[.int .i64 a, .int .i64 b]] w fun e w' => e = .returned (.slice none 0 0) ∧ Below w.heap.size w w' := by
  have HQ := hide (below_alloc w (.cells #[.int .i64 a, .int .i64 b] 46))
  have CW := hide (nwithin_any (h.later HQ.out) lo hi a (b - 1))
  have g1 : ¬ a ≥ b := by omega
  have hw : IntKind.i64.wrap (b - 1) = b - 1 := by rw [IntKind.wrap_i64]; unfold In64 at ha hb; omega
  clear h ha hb hab
  go_enter Try.func22, Try.ntmps22
  go_wp2_with fail
  refine CW.out.mono ?_
  rintro e w1 ⟨rfl, hb⟩
  have HB := hide (HQ.out.trans (hb.mono HQ.out.size))
  clear hb CW
  go_wp2_with fail
  go_ret
  exact ⟨rfl, HB.out⟩
set_option maxHeartbeats 1000000 in
set_option maxRecDepth 100000 in
theorem nblocks_any {p : Option Addr} {w : World} (h : NotGiven p w) : Calls Try.prog 32 #[.pointer p] w fun e w' => e = .returned (.slice none 0 0) ∧ Below w.heap.size w w' := by
  have CG := hide (given_no h)
  have HB := hide (Below.refl w.heap.size w)
  clear h
  go_enter Try.func32, Try.ntmps32
  go_wp2_with fail
  refine CG.out.mono ?_
  rintro e w9 ⟨rfl, e9⟩
  obtain rfl : w = w9 := e9.symm
  clear e9 CG
  go_wp2_with fail
  go_ret
  exact ⟨rfl, HB.out⟩
set_option maxHeartbeats 1000000 in
set_option maxRecDepth 100000 in
theorem nmax_any {p : Option Addr} {w : World} (h : NotGiven p w) : Calls Try.prog 27 #[.pointer p] w fun e w' => e = .returned (.int .i64 0) ∧ Below w.heap.size w w' := by
  have CG := hide (given_no h)
  have HB := hide (Below.refl w.heap.size w)
  clear h
  go_enter Try.func27, Try.ntmps27
  go_wp2_with fail
  refine CG.out.mono ?_
  rintro e w9 ⟨rfl, e9⟩
  obtain rfl : w = w9 := e9.symm
  clear e9 CG
  go_wp2_with fail
  go_ret
  exact ⟨rfl, HB.out⟩
set_option maxHeartbeats 1000000 in
set_option maxRecDepth 100000 in
theorem nlen_any {p : Option Addr} {w : World} (h : NotGiven p w) : Calls Try.prog 26 #[.pointer p] w fun e w' => e = .returned (.int .i64 0) ∧ Below w.heap.size w w' := by
  have CB := hide (nblocks_any h)
  clear h
  go_enter Try.func26, Try.ntmps26
  go_wp2_with fail
  refine CB.out.mono ?_
  rintro e w1 ⟨rfl, hb⟩
  have HB := hide hb
  clear hb CB
  go_wp2_with fail
  go_loop [3, 9] (fun nv ii => nv = .int .i64 0 ∧ ii = .int .i64 0) (fun _ _ => 0)
  case atStart => exact ⟨rfl, rfl⟩
  case round =>
    obtain ⟨rfl, rfl⟩ := hrel
    go_wp2_with fail
    go_ret
    exact ⟨rfl, HB.out⟩
end Idx
end Go.Proofs.Ytapdhelioecneaa
