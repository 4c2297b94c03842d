/- Contracts of the inner calls of package value that only look at numbers: IsNaN, OfFloat, AsFloat, Right. No condition. -/
import Derived.Test.YtoacombaddknfaaRows
import Derived.Test.YtoacombaddknfaaFlo
import Derived.WalkKit
import Derived.WalkSpells
import Derived.WalkLawsBesides
import Derived.Deep.QuietTactic
import Derived.BigQuiet
import Derived.Deep.RegionHeld3
namespace Go.Proofs.Ytoacombaddknfaa
open Go.RowKit
namespace Val
/-- '==' between two values. -/
def eqV (k n b : Int) (s : ByteArray) (k' n' b' : Int) (s' : ByteArray) : Bool := k == k' && (n == n' && (b == b' && s.toList == s'.toList))
set_option maxHeartbeats 1000000 in
theorem run_eqV (k n b : Int) (s : ByteArray) (k' n' b' : Int) (s' : ByteArray) (w : World) :
    (binOp .eql 64 (.agg #[.int .i64 k, .int .i64 n, .int .u64 b, .string s]) (.agg #[.int .i64 k', .int .i64 n', .int .u64 b', .string s'])).run Try.prog w = .ok (.bool (eqV k n b s k' n' b' s')) w := by
  unfold eqV
  by_cases hk : k = k' <;> by_cases hn : n = n' <;> by_cases hb : b = b' <;> by_cases hs : s.toList = s'.toList <;> go_simp
attribute [go_sem ↓] run_eqV
set_option maxHeartbeats 400000 in
theorem isnan_any (n : Nat) (w : World) :
    Calls Try.prog 73 #[.float .f64 n] w fun e w' => e = .returned (.bool (Flo.nanB n)) ∧ w = w' := by
  have h : (FloatKind.f64.format.order n n != some Ordering.eq) = Flo.nanB n := by
    show (Ieee.double.order n n != some Ordering.eq) = _
    rw [Flo.order_self]; cases Flo.nanB n <;> rfl
  go_enter Try.func73, Try.ntmps73
  go_wp2
  go_ret
  exact ⟨rfl, rfl⟩
theorem run_bits (n : Nat) (w : World) : (callFunc 74 #[.float .f64 n]).run Try.prog w = .ok (.value (.int .u64 n)) w := by
  rw [run_callFunc_extern (e := Extern.MathFloatBits.float64bits) Try.func74 (by kernel_rfl) (by kernel_rfl) (by kernel_rfl) (by kernel_rfl)]
  rfl
theorem run_frombits (n : Int) (w : World) : (callFunc 65 #[.int .u64 n]).run Try.prog w = .ok (.value (.float .f64 n.toNat)) w := by
  rw [run_callFunc_extern (e := Extern.MathFloatBits.float64frombits) Try.func65 (by kernel_rfl) (by kernel_rfl) (by kernel_rfl) (by kernel_rfl)]
  rfl
attribute [go_sem] run_bits run_frombits
set_option maxRecDepth 100000 in
set_option maxHeartbeats 400000 in
theorem offloat_any (n : Nat) (w : World) :
    Calls Try.prog 64 #[.float .f64 n] w fun e w' => e = .returned (.agg #[.int .i64 3, .int .i64 0, .int .u64 (Flo.canon n : Nat), .string ⟨#[]⟩]) ∧ Below w.heap.size w w' := by
  have hz : (FloatKind.f64.format.order n 0 != some Ordering.eq) = !(!Flo.nanB n && Flo.zeroB n) := Flo.order_zero n
  cases h : Flo.nanB n
  · cases z : Flo.zeroB n
    · have hc : Flo.canon n = n := Flo.canon_else h z
      have hz1 : (FloatKind.f64.format.order n 0 != some Ordering.eq) = true := by rw [hz, h, z]; rfl
      clear hz z
      rw [hc]; clear hc
      go_enter Try.func64, Try.ntmps64
      go_wp2_with (first | (go_at_call 73; refine (isnan_any _ _).mono ?_; rintro e w' ⟨rfl, rfl⟩) | go_in)
      exact bodyPost_ret (v := .agg #[.int .i64 3, .int .i64 0, .int .u64 n, .string ⟨#[]⟩]) (by simp [results, Try.results64, go_sem]) rfl ⟨rfl, (((Below.refl _ _).alloc (Nat.le_refl _) _).alloc (by simp) _)⟩
    · have hc : Flo.canon n = 0 := Flo.canon_zero h z
      have hz1 : (FloatKind.f64.format.order n 0 != some Ordering.eq) = false := by rw [hz, h, z]; rfl
      clear hz z
      rw [hc]; clear hc
      go_enter Try.func64, Try.ntmps64
      go_wp2_with (first | (go_at_call 73; refine (isnan_any _ _).mono ?_; rintro e w' ⟨rfl, rfl⟩) | go_in)
      exact bodyPost_ret (v := .agg #[.int .i64 3, .int .i64 0, .int .u64 0, .string ⟨#[]⟩]) (by simp [results, Try.results64, go_sem]) rfl ⟨rfl, (((Below.refl _ _).alloc (Nat.le_refl _) _).alloc (by simp) _)⟩
  · have hc : ((Flo.canon n : Nat) : Int) = 9221120237041090560 := by rw [Flo.canon_nan h]; rfl
    clear hz
    rw [hc]; clear hc
    go_enter Try.func64, Try.ntmps64
    go_wp2_with (first | (go_at_call 73; refine (isnan_any _ _).mono ?_; rintro e w' ⟨rfl, rfl⟩) | go_in)
    exact bodyPost_ret (v := .agg #[.int .i64 3, .int .i64 0, .int .u64 9221120237041090560, .string ⟨#[]⟩]) (by simp [results, Try.results64, go_sem]) rfl ⟨rfl, (((Below.refl _ _).alloc (Nat.le_refl _) _).alloc (by simp) _)⟩

/-- Is the value of these four fields right? -/
def rightB (k n : Int) (b : Nat) (s : ByteArray) : Bool :=
  if k = 0 then eqV k n b s 0 0 0 ⟨#[]⟩
  else if k = 1 then eqV k n b s 1 n 0 ⟨#[]⟩ && (n == 0 || n == 1)
  else if k = 2 then eqV k n b s 2 n 0 ⟨#[]⟩
  else if k = 3 then eqV k n b s 3 0 (Flo.canon b : Nat) ⟨#[]⟩
  else if k = 4 ∨ k = 5 then eqV k n b s k 0 0 s && decide ((s.size : Int) ≤ 4096)
  else false
theorem bcell {W w1 : World} (hb : Below W.heap.size W w1) : (∀ b o, b < W.heap.size → w1.cell? ⟨b, o, none⟩ = W.cell? ⟨b, o, none⟩) ∧ (∀ b o, b < W.heap.size → w1.frozen? ⟨b, o, none⟩ = W.frozen? ⟨b, o, none⟩) :=
  ⟨fun b o h => hb.cell (p := ⟨b, o, none⟩) h, fun b o h => hb.frozen (p := ⟨b, o, none⟩) h⟩
theorem ret_bool {a b : Bool} (h : a = b) : Ending.returned (.bool a) = Ending.returned (.bool b) := by rw [h]
theorem ret_int {k : IntKind} {a b : Int} (h : a = b) : Ending.returned (.int k a) = .returned (.int k b) := by rw [h]
/-- What a region that loads one boxed value and makes memory keeps. -/
theorem box_step {w w1 w' : World} {k n b : Int} {s : ByteArray}
    (h : w1.cell? ⟨w.heap.size, 0, none⟩ = some (.int .i64 k) ∧ w1.cell? ⟨w.heap.size, 1, none⟩ = some (.int .i64 n) ∧ w1.cell? ⟨w.heap.size, 2, none⟩ = some (.int .u64 b) ∧ w1.cell? ⟨w.heap.size, 3, none⟩ = some (.string s) ∧ Below w.heap.size w w1 ∧ w.heap.size < w1.heap.size)
    (hb : Below w1.heap.size w1 w') :
    w'.cell? ⟨w.heap.size, 0, none⟩ = some (.int .i64 k) ∧ w'.cell? ⟨w.heap.size, 1, none⟩ = some (.int .i64 n) ∧ w'.cell? ⟨w.heap.size, 2, none⟩ = some (.int .u64 b) ∧ w'.cell? ⟨w.heap.size, 3, none⟩ = some (.string s) ∧ Below w.heap.size w w' ∧ w.heap.size < w'.heap.size := by
  obtain ⟨h0, h1, h2, h3, h4, h5⟩ := h
  exact ⟨by rw [hb.cell h5]; exact h0, by rw [hb.cell h5]; exact h1, by rw [hb.cell h5]; exact h2, by rw [hb.cell h5]; exact h3, h4.trans (hb.mono (Nat.le_of_lt h5)), Nat.lt_of_lt_of_le h5 hb.size⟩
theorem below_box (w : World) (o : Obj) : Below w.heap.size w (w.alloc o).drew ∧ w.heap.size < (w.alloc o).drew.heap.size :=
  ⟨((Below.refl _ _).alloc (Nat.le_refl _) _).drew, by show _ < (w.alloc o).heap.size; simp⟩
set_option maxRecDepth 100000 in
set_option maxHeartbeats 1000000 in
theorem right_float (n : Int) (b : Nat) (s : ByteArray) (w : World) :
    Calls Try.prog 54 #[.agg #[.int .i64 3, .int .i64 n, .int .u64 b, .string s]] w fun e w' => e = .returned (.bool (rightB 3 n b s)) ∧ Below w.heap.size w w' := by
  go_enter Try.func54, Try.ntmps54
  go_wp2_with fail
  go_region_held3 (fun w' => w'.cell? ⟨w.heap.size, 0, none⟩ = some (.int .i64 3) ∧ w'.cell? ⟨w.heap.size, 1, none⟩ = some (.int .i64 n) ∧ w'.cell? ⟨w.heap.size, 2, none⟩ = some (.int .u64 b) ∧ w'.cell? ⟨w.heap.size, 3, none⟩ = some (.string s) ∧ Below w.heap.size w w' ∧ w.heap.size < w'.heap.size)
    (first | (exact box_step (by assumption) hb) | (refine ⟨?_, ?_, ?_, ?_, ?_⟩; go_keep; go_keep; go_keep; go_keep; exact below_box _ _) | go_keep)
    (first | (go_at_call 64; refine (offloat_any _ _).mono ?_; rintro e w' ⟨rfl, hb⟩))
  go_wp2_with fail
  go_ret
  rename_i hq
  exact ⟨ret_bool (by simp [rightB]), hq.2.2.2.2.1⟩
set_option maxRecDepth 100000 in
set_option maxHeartbeats 1000000 in
theorem right_else (k n : Int) (b : Nat) (s : ByteArray) (w : World) (hk : (k == 3) = false) :
    Calls Try.prog 54 #[.agg #[.int .i64 k, .int .i64 n, .int .u64 b, .string s]] w fun e w' => e = .returned (.bool (rightB k n b s)) ∧ Below w.heap.size w w' := by
  go_enter Try.func54, Try.ntmps54
  go_wp2_with fail
  all_goals
    go_ret
    refine ⟨?_, (Below.refl _ _).alloc (Nat.le_refl _) _⟩
    refine ret_bool ?_
    simp_all [rightB]
theorem right_any (k n : Int) (b : Nat) (s : ByteArray) (w : World) :
    Calls Try.prog 54 #[.agg #[.int .i64 k, .int .i64 n, .int .u64 b, .string s]] w fun e w' => e = .returned (.bool (rightB k n b s)) ∧ Below w.heap.size w w' := by
  by_cases hk : k = 3
  · subst hk; exact right_float n b s w
  · exact right_else k n b s w (by simpa using hk)
end Val
end Go.Proofs.Ytoacombaddknfaa
