/- The document's own guess (layer 1): null, true, false, Ints. Conditions: which first byte the text has; it has at most 2^40 bytes. -/
import Derived.Test.YtppdebhcaodcnaaDoorTg
namespace Go.Proofs.YtppdebhcaodcnaaDoor
open Go.RowKit
namespace Ref
theorem dec_at (v : Nat) : v < 10 ^ (Lib.decDigits v).length ∧ ∀ j, j < (Lib.decDigits v).length → (Lib.decDigits v)[j]? = some (UInt8.ofNat (48 + v / 10 ^ ((Lib.decDigits v).length - 1 - j) % 10)) := by
  induction v using Nat.strongRecOn with
  | _ v ih =>
    by_cases h : v < 10
    · rw [dec_one v h]
      refine ⟨by simpa using h, fun j hj => ?_⟩
      obtain rfl : j = 0 := by simpa using hj
      simp
    · obtain ⟨h1, h2⟩ := ih (v / 10) (by omega)
      rw [dec_more v h]
      obtain ⟨n, hn⟩ : ∃ n, n = (Lib.decDigits (v / 10)).length := ⟨_, rfl⟩
      have hlen : (Lib.decDigits (v / 10) ++ [UInt8.ofNat (48 + v % 10)]).length = n + 1 := by rw [List.length_append, ← hn]; rfl
      rw [hlen]
      rw [← hn] at h1 h2
      refine ⟨by rw [Nat.pow_succ]; omega, fun j hj => ?_⟩
      rcases Nat.lt_succ_iff_lt_or_eq.mp hj with x | x
      · rw [List.getElem?_append_left (by omega), h2 j x]
        congr 4
        rw [Nat.div_div_eq_div_mul]
        congr 1
        rw [show n + 1 - 1 - j = (n - 1 - j) + 1 by omega, Nat.pow_succ, Nat.mul_comm]
      · rw [List.getElem?_append_right (by omega), ← hn, x]
        simp
theorem dig_step (s : ByteArray) (pre : List UInt8) (v i : Nat) (e : s.data.toList = pre ++ Lib.decDigits v) (hi : pre.length ≤ i) (h : i < s.size) :
    ∃ d, d < 10 ∧ s[i].toNat = 48 + d ∧ v / 10 ^ (s.size - (i + 1)) = 10 * (v / 10 ^ (s.size - i)) + d := by
  obtain ⟨h1, h2⟩ := dec_at v
  have hl : s.size = pre.length + (Lib.decDigits v).length := by
    have := congrArg List.length e
    simpa using this
  obtain ⟨n, hn⟩ : ∃ n, n = (Lib.decDigits v).length := ⟨_, rfl⟩
  rw [← hn] at h1 h2 hl
  obtain ⟨j, rfl⟩ : ∃ j, i = pre.length + j := ⟨i - pre.length, by omega⟩
  have h3 := h2 j (by omega)
  have h4 : s.data.toList[pre.length + j]? = some s[pre.length + j] := by
    rw [List.getElem?_eq_getElem (by simpa using h)]
    simp [ByteArray.getElem_eq_getElem_data]
  rw [e, List.getElem?_append_right (by omega), show pre.length + j - pre.length = j by omega, h3] at h4
  have h5 := Option.some.inj h4
  refine ⟨v / 10 ^ (n - 1 - j) % 10, Nat.mod_lt _ (by decide), ?_, ?_⟩
  · rw [← h5, UInt8.toNat_ofNat']
    have := Nat.mod_lt (v / 10 ^ (n - 1 - j)) (show 0 < 10 by decide)
    omega
  · rw [show s.size - (pre.length + j + 1) = n - 1 - j by omega, show s.size - (pre.length + j) = (n - 1 - j) + 1 by omega, Nat.pow_succ, ← Nat.div_div_eq_div_mul]
    omega
def GuessIs (s : ByteArray) (w : World) (k : Int) (n : Int) : Prop := Calls Tryd.prog 38 #[.string s] w fun e w' => e = .returned (.agg #[.int .i64 k, .int .i64 n, .int .u64 0, .string ⟨#[]⟩]) ∧ Below w.heap.size w w'
set_option maxHeartbeats 4000000 in
set_option maxRecDepth 100000 in
theorem guess_null (s : ByteArray) (w : World) (a1 : (s.toList == [110, 117, 108, 108]) = true) : GuessIs s w 0 0 := by
  unfold GuessIs
  go_enter Tryd.func38, Tryd.ntmps38
  go_wp2_with fail
  exact bodyPost_ret (v := .agg #[.int .i64 0, .int .i64 0, .int .u64 0, .string ⟨#[]⟩]) (by simp [results, Tryd.results38, go_sem]) rfl ⟨rfl, by first | exact (Below.refl _ _).alloc (Nat.le_refl _) _ | exact ((Below.refl _ _).alloc (Nat.le_refl _) _).alloc (by simp) _ | exact put4_below _ _ _ _ _ (Nat.le_refl _) (((Below.refl _ _).alloc (Nat.le_refl _) _).alloc (by simp) _) | exact put4_below _ _ _ _ _ (Nat.le_refl _) ((Below.refl _ _).alloc (Nat.le_refl _) _)⟩
set_option maxHeartbeats 4000000 in
set_option maxRecDepth 100000 in
theorem guess_true (s : ByteArray) (w : World) (a1 : (s.toList == [110, 117, 108, 108]) = false) (a2 : (s.toList == [116, 114, 117, 101]) = true) : GuessIs s w 1 1 := by
  unfold GuessIs
  go_enter Tryd.func38, Tryd.ntmps38
  go_wp2_with fail
  exact bodyPost_ret (v := .agg #[.int .i64 1, .int .i64 1, .int .u64 0, .string ⟨#[]⟩]) (by simp [results, Tryd.results38, go_sem]) rfl ⟨rfl, by first | exact (Below.refl _ _).alloc (Nat.le_refl _) _ | exact ((Below.refl _ _).alloc (Nat.le_refl _) _).alloc (by simp) _ | exact put4_below _ _ _ _ _ (Nat.le_refl _) (((Below.refl _ _).alloc (Nat.le_refl _) _).alloc (by simp) _) | exact put4_below _ _ _ _ _ (Nat.le_refl _) ((Below.refl _ _).alloc (Nat.le_refl _) _)⟩
set_option maxHeartbeats 4000000 in
set_option maxRecDepth 100000 in
theorem guess_false (s : ByteArray) (w : World) (a1 : (s.toList == [110, 117, 108, 108]) = false) (a2 : (s.toList == [116, 114, 117, 101]) = false) (a3 : (s.toList == [102, 97, 108, 115, 101]) = true) : GuessIs s w 1 0 := by
  unfold GuessIs
  go_enter Tryd.func38, Tryd.ntmps38
  go_wp2_with fail
  exact bodyPost_ret (v := .agg #[.int .i64 1, .int .i64 0, .int .u64 0, .string ⟨#[]⟩]) (by simp [results, Tryd.results38, go_sem]) rfl ⟨rfl, by first | exact (Below.refl _ _).alloc (Nat.le_refl _) _ | exact ((Below.refl _ _).alloc (Nat.le_refl _) _).alloc (by simp) _ | exact put4_below _ _ _ _ _ (Nat.le_refl _) (((Below.refl _ _).alloc (Nat.le_refl _) _).alloc (by simp) _) | exact put4_below _ _ _ _ _ (Nat.le_refl _) ((Below.refl _ _).alloc (Nat.le_refl _) _)⟩
end Ref
end Go.Proofs.YtppdebhcaodcnaaDoor
