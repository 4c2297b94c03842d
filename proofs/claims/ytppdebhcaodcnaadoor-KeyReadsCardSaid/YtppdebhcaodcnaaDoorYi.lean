/- number, turnedBack and size of package key. Conditions: number's text has at most eight bytes; size's is below 2^32 - 16, bytealg's MaxLen holds some number. -/
import Derived.Test.YtppdebhcaodcnaaDoorYh
namespace Go.Proofs.YtppdebhcaodcnaaDoor
open Go.RowKit Cod
namespace Ky
theorem un_take (l : List UInt8) (i : Nat) (h : i < l.length) : un (l.take (i + 1)) = un (l.take i) * 256 + l[i].toNat := by
  rw [List.take_succ_eq_append_getElem h, un_snoc]
theorem byte_get (s : ByteArray) (i : Nat) (h : i < s.size) : s.data.toList[i]'(by simpa using h) = s[i] := by simp [ByteArray.getElem_eq_getElem_data]
theorem or_low (m b : Nat) (hb : b < 256) (hm : 256 * m + b < 18446744073709551616) : bits .or .u64 ((256 * m : Nat) : Int) (b : Int) = ((256 * m + b : Nat) : Int) := by
  rw [u64_or_nat _ _ (by omega) (by omega)]
  have := Nat.two_pow_add_eq_or_of_lt (i := 8) (b := b) (by simpa using hb) m
  have e : (2 : Nat) ^ 8 = 256 := by decide
  rw [e] at this
  rw [this]
set_option maxHeartbeats 4000000 in
set_option maxRecDepth 100000 in
theorem number_any (s : ByteArray) (hs : s.size ≤ 8) (w : World) :
    Calls Tryd.prog 96 #[.string s] w fun e w' => e = .returned (.int .u64 (un s.data.toList : Nat)) ∧ Below w.heap.size w w' := by
  obtain ⟨F, hF⟩ : ∃ F, F = un s.data.toList := ⟨_, rfl⟩
  rw [← hF]
  have HF := hidm hF
  clear hF
  go_enter Tryd.func96, Tryd.ntmps96
  go_wp2_with fail
  go_loopw [3, 7] (fun x ii wr => ∃ i m : Nat, ii = .int .i64 i ∧ i ≤ s.size ∧ x = .int .u64 m ∧ Hid (m = un (s.data.toList.take i)) ∧ Hid (Below w.heap.size w wr)) (fun _ ii _ => (s.size - (intOf ii).toNat))
  case atStart => exact ⟨0, 0, rfl, by omega, rfl, hidm rfl, hidm (Below.refl _ _)⟩
  case round =>
    obtain ⟨i, m, rfl, hi, rfl, HM, HB⟩ := hrel
    have hm : m < 256 ^ i := by
      have := un_lt (s.data.toList.take i)
      rw [List.length_take] at this
      rw [HM.out]
      have e : s.data.toList.length = s.size := by simp
      rwa [e, Nat.min_eq_left hi] at this
    rcases Nat.eq_or_lt_of_le hi with h1 | h1
    · have f1 : ¬ (i : Int) < s.size := by omega
      have H1 := hidm h1
      clear h1 hm
      go_wp2_with fail
      go_ret
      refine ⟨congrArg (fun q : Nat => Ending.returned (.int .u64 (q : Int))) ?_, HB.out⟩
      rw [HF.out, HM.out, H1.out, List.take_of_length_le (by simp)]
    · have f1 : (i : Int) < s.size := by omega
      have hm7 : m < 72057594037927936 := by
        have h7 : 256 ^ i ≤ 256 ^ 7 := Nat.pow_le_pow_right (by decide) (by omega)
        have e7 : (256 : Nat) ^ 7 = 72057594037927936 := by decide
        omega
      have hc := s[i].toNat_lt
      have ho : bits .or .u64 ((m : Int) * 256) (s[i].toNat : Int) = ((256 * m + s[i].toNat : Nat) : Int) := by
        have := or_low m s[i].toNat hc (by omega)
        rw [← this]; congr 1; omega
      have hM2 : Hid (256 * m + s[i].toNat = un (s.data.toList.take (i + 1))) := hidm (by rw [un_take _ i (by simpa using h1), ← HM.out, byte_get s i h1]; omega)
      clear hm
      go_wp2_with fail
      go_roundw
      case rel => exact ⟨i + 1, 256 * m + s[i].toNat, by go_num, by omega, by first | (rw [ho]; done) | (push_cast; rfl) | go_num, hM2, HB⟩
      case measure => simp [intOf]; omega
theorem index_le (s : ByteArray) : Lib.index s.data.toList [0, 1] ≤ s.size := by
  have key : ∀ l : List UInt8, Lib.index l [0, 1] ≤ l.length := by
    intro l
    induction l with
    | nil => simp [Lib.index]
    | cons c l ih =>
      unfold Lib.index
      split
      · simp; omega
      · split
        · simp; omega
        · simp only [List.length_cons]; omega
  have := key s.data.toList
  have e : s.data.toList.length = s.size := by simp
  omega
/-- Turned bits, turned back. -/
def unturn (n : Nat) : Nat := if n < 9223372036854775808 then 18446744073709551615 - n else n - 9223372036854775808
theorem unturn_turn {b : Nat} (hb : b < 18446744073709551616) : unturn (turn b) = b := by
  unfold unturn turn
  split <;> split <;> omega
theorem turn_unturn {b : Nat} (hb : b < 18446744073709551616) : turn (unturn b) = b := by
  unfold unturn turn
  split <;> split <;> omega
theorem unturn_lt {n : Nat} (hn : n < 18446744073709551616) : unturn n < 18446744073709551616 := by unfold unturn; split <;> omega
set_option maxRecDepth 100000 in
set_option maxHeartbeats 1000000 in
theorem turnedBack_any (x : Nat) (hx : x < 18446744073709551616) (w : World) :
    Calls Tryd.prog 97 #[.int .u64 x] w fun e w' => e = .returned (.float .f64 (unturn x)) ∧ w = w' := by
  have hh := Ref.bits_high x hx
  have hxo := xor_top x hx
  by_cases h : x < 9223372036854775808
  · rw [if_neg (by omega)] at hh
    have e : unturn x = 18446744073709551615 - x := by unfold unturn; rw [if_pos h]
    rw [e]
    have g : (bits .and .u64 (x : Int) 9223372036854775808 != 0) = false := by rw [hh]; rfl
    have hf : bits .xor .u64 IntKind.u64.max (x : Int) = ((18446744073709551615 - x : Nat) : Int) := by
      have e2 : IntKind.u64.max = ((18446744073709551615 : Nat) : Int) := by decide
      rw [e2, u64_xor_nat _ _ (by decide) hx, xor_full x hx]
    obtain ⟨Y, hY⟩ : ∃ Y, Y = 18446744073709551615 - x := ⟨_, rfl⟩
    rw [← hY] at hf ⊢
    clear e hh hxo hY
    go_enter Tryd.func97, Tryd.ntmps97
    go_wp2_with fail
    go_ret
    exact ⟨rfl, rfl⟩
  · rw [if_pos (by omega)] at hh
    rw [if_neg h] at hxo
    have e : unturn x = x - 9223372036854775808 := by unfold unturn; rw [if_neg h]
    rw [e]
    have g : (bits .and .u64 (x : Int) 9223372036854775808 != 0) = true := by rw [hh]; rfl
    obtain ⟨Y, hY⟩ : ∃ Y, Y = x - 9223372036854775808 := ⟨_, rfl⟩
    rw [← hY] at hxo ⊢
    clear e hh hY
    go_enter Tryd.func97, Tryd.ntmps97
    go_wp2_with fail
    go_ret
    exact ⟨rfl, rfl⟩
/-- How many bytes a value has behind its kind. -/
def sizeI (k : Int) (l : List UInt8) : Int := if k = 0 then 0 else if k = 1 then 1 else if k = 2 ∨ k = 3 then 8 else if k = 4 ∨ k = 5 then (if 0 ≤ Lib.index l [0, 1] then Lib.index l [0, 1] + 2 else -1) else -1
set_option maxRecDepth 100000 in
set_option maxHeartbeats 4000000 in
theorem size_any (k : Int) (s : ByteArray) (hs : s.size ≤ 1000000) (w : World) (hm : ML w) :
    Calls Tryd.prog 77 #[.int .i64 k, .string s] w fun e w' => e = .returned (.int .i64 (sizeI k s.data.toList)) ∧ w = w' := by
  obtain ⟨m, hm⟩ := hm
  by_cases h0 : k = 0
  · subst h0
    go_enter Tryd.func77, Tryd.ntmps77
    go_wp2_with fail
    go_ret
    exact ⟨rfl, rfl⟩
  by_cases h1 : k = 1
  · subst h1
    go_enter Tryd.func77, Tryd.ntmps77
    go_wp2_with fail
    go_ret
    exact ⟨rfl, rfl⟩
  by_cases h2 : k = 2
  · subst h2
    go_enter Tryd.func77, Tryd.ntmps77
    go_wp2_with fail
    go_ret
    exact ⟨rfl, rfl⟩
  by_cases h3 : k = 3
  · subst h3
    go_enter Tryd.func77, Tryd.ntmps77
    go_wp2_with fail
    go_ret
    exact ⟨rfl, rfl⟩
  have g0 : (k == 0) = false := by simpa using h0
  have g1 : (k == 1) = false := by simpa using h1
  have g2 : (k == 2) = false := by simpa using h2
  have g3 : (k == 3) = false := by simpa using h3
  have hix := Tryd.strings_Index s ⟨#[0, 1]⟩ m w (by omega) hm
  have hge := Lib.index_ge s.data.toList [0, 1]
  have hle := index_le s
  have hE : (⟨#[0, 1]⟩ : ByteArray).data.toList = [0, 1] := rfl
  rw [hE] at hix
  obtain ⟨x, hx⟩ : ∃ x, x = Lib.index s.data.toList [0, 1] := ⟨_, rfl⟩
  rw [← hx] at hix hge hle
  have e : ∀ k : Int, k = 4 ∨ k = 5 → sizeI k s.data.toList = if 0 ≤ x then x + 2 else -1 := by
    intro k hk
    unfold sizeI
    rw [if_neg (by omega), if_neg (by omega), if_neg (by omega), if_pos hk, hx]
  have HXX := hidm hx
  clear hx hE
  by_cases h45 : k = 4 ∨ k = 5
  · have e4 := e k h45
    rcases Int.lt_or_le x 0 with hn | hp
    · have q : ¬ (0 : Int) ≤ x := by omega
      rw [if_neg q] at e4
      rw [e4]
      clear e e4 hge hle
      rcases h45 with rfl | rfl
      all_goals
        go_enter Tryd.func77, Tryd.ntmps77
        go_wp2_with fail
        refine hix.mono ?_
        rintro e w' ⟨rfl, rfl⟩
        go_wp2_with fail
        go_ret
        exact ⟨rfl, rfl⟩
    · rw [if_pos hp] at e4
      rw [e4]
      clear e e4
      rcases h45 with rfl | rfl
      all_goals
        go_enter Tryd.func77, Tryd.ntmps77
        go_wp2_with fail
        refine hix.mono ?_
        rintro e w' ⟨rfl, rfl⟩
        go_wp2_with fail
        go_ret
        exact ⟨rfl, rfl⟩
  · have e5 : sizeI k s.data.toList = -1 := by
      unfold sizeI
      rw [if_neg h0, if_neg h1, if_neg (by omega), if_neg h45]
    rw [e5]
    have g4 : (k == 4) = false := by simp; omega
    have g5 : (k == 5) = false := by simp; omega
    clear e5 e h45 hix hge hle
    go_enter Tryd.func77, Tryd.ntmps77
    go_wp2_with fail
    go_ret
    exact ⟨rfl, rfl⟩
theorem rest_size {u : V} (hr : u.right = true) (X : List UInt8) : sizeI u.k (rest u ++ X) = ((rest u).length : Int) := by
  rcases right_form hr with rfl | ⟨n, rfl, hn⟩ | ⟨n, rfl⟩ | ⟨x, rfl⟩ | ⟨s, rfl, hs⟩ | ⟨s, rfl, hs⟩
  · rfl
  · rfl
  · have e : rest ⟨2, n, 0, []⟩ = be 8 (top n) := rfl
    rw [e, be_len]; rfl
  · have e : rest ⟨3, 0, x, []⟩ = be 8 (turn x) := rfl
    rw [e, be_len]; rfl
  · have e : rest ⟨4, 0, 0, s⟩ = esc s ++ [0, 1] := rfl
    rw [e, List.append_assoc]
    have h := noOcc_esc 1 (by decide) X s
    unfold sizeI
    dsimp only
    rw [if_neg (by decide), if_neg (by decide), if_neg (by decide), if_pos (by decide)]
    show (if 0 ≤ Lib.index (esc s ++ 0 :: 1 :: X) [0, 1] then _ else _) = _
    rw [h, if_pos (by omega)]; simp; exact h
  · have e : rest ⟨5, 0, 0, s⟩ = esc s ++ [0, 1] := rfl
    rw [e, List.append_assoc]
    have h := noOcc_esc 1 (by decide) X s
    unfold sizeI
    dsimp only
    rw [if_neg (by decide), if_neg (by decide), if_neg (by decide), if_pos (by decide)]
    show (if 0 ≤ Lib.index (esc s ++ 0 :: 1 :: X) [0, 1] then _ else _) = _
    rw [h, if_pos (by omega)]; simp; exact h
end Ky
end Go.Proofs.YtppdebhcaodcnaaDoor
