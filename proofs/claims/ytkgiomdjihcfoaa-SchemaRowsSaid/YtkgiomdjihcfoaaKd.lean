/- The document's Name (layer 5). Condition: a text is at most 2^48 bytes. -/
import Derived.Test.YtkgiomdjihcfoaaJg
namespace Go.Proofs.Ytkgiomdjihcfoaa
open Go.RowKit
namespace Sch
open Cod
theorem nm_at {s : ByteArray} {i n : Nat} (hi : i < s.size) (hn : n = (s[i]'hi).toNat) : nmAt s.data.toList i = ((decide (97 ≤ n) && decide (n ≤ 122) || n == 95) || (i != 0 && (decide (48 ≤ n) && decide (n ≤ 57)))) := by
  rw [nmAt_at (show i < s.data.toList.length by simpa using hi), byte_at s i hi, hn]; rfl
set_option maxHeartbeats 4000000 in
set_option maxRecDepth 100000 in
theorem rname_any (s : ByteArray) (hs : s.size ≤ 281474976710656) (w : World) :
    Calls Try.prog 14 #[.string s] w fun e w' => e = .returned (.bool (nameB s.data.toList)) ∧ Below w.heap.size w w' := by
  have hsz : s.data.toList.length = s.size := Array.length_toList
  obtain ⟨F, hF⟩ : ∃ F, F = nameB s.data.toList := ⟨_, rfl⟩
  rw [← hF]
  have HF := hidm hF
  clear hF hsz
  go_enter Try.func14, Try.ntmps14
  go_wp2_with fail
  go_loop [3] (fun ii => ∃ i : Nat, i ≤ s.size ∧ ii = .int .i64 i ∧ Hid (∀ j, j < i → nmAt s.data.toList j = true)) (fun ii => s.size - (intOf ii).toNat)
  case atStart => exact ⟨0, by omega, rfl, hidm (fun j hj => by omega)⟩
  case round =>
    obtain ⟨i, hi, rfl, HP⟩ := hrel
    by_cases hp : i < s.size
    · have hpl : i < s.data.toList.length := by simpa using hp
      obtain ⟨n, hn⟩ : ∃ n, n = (s[i]'hp).toNat := ⟨_, rfl⟩
      have hat := nm_at hp hn
      have hn2 : ((s[i]'hp).toNat : Int) = (n : Int) := by rw [hn]
      have hnb : n < 256 := by rw [hn]; exact (s[i]'hp).toNat_lt
      clear hn
      have hcase : (97 ≤ n ∧ n ≤ 122) ∨ (n < 97 ∧ n = 95) ∨ (n < 97 ∧ n ≠ 95 ∧ 48 ≤ n ∧ n ≤ 57) ∨ (n < 97 ∧ n ≠ 95 ∧ n < 48) ∨ (n < 97 ∧ n ≠ 95 ∧ 57 < n) ∨ (122 < n) := by omega
      rcases hcase with ⟨h1, h2⟩ | ⟨h1, h2⟩ | ⟨h1, h2, h3, h4⟩ | ⟨h1, h2, h3⟩ | ⟨h1, h2, h3⟩ | h1
      · have HP2 := hidm (show ∀ j, j < i + 1 → nmAt s.data.toList j = true from fun j hj => by
          rcases Nat.lt_or_ge j i with h | h
          · exact HP.out j h
          · obtain rfl : j = i := by omega
            rw [hat]; simp; omega)
        have g1 : (97 : Int) ≤ n := by omega
        have g2 : (n : Int) ≤ 122 := by omega
        clear hat HP
        go_wp2_with fail
        go_round
        case rel => exact ⟨i + 1, by omega, by go_num, HP2⟩
        case measure => simp [intOf]; omega
      · have HP2 := hidm (show ∀ j, j < i + 1 → nmAt s.data.toList j = true from fun j hj => by
          rcases Nat.lt_or_ge j i with h | h
          · exact HP.out j h
          · obtain rfl : j = i := by omega
            rw [hat]; simp; omega)
        have g1 : (n : Int) < 97 := by omega
        have g2 : ((n : Int) == 95) = true := by simp; omega
        clear hat HP
        go_wp2_with fail
        go_round
        case rel => exact ⟨i + 1, by omega, by go_num, HP2⟩
        case measure => simp [intOf]; omega
      · rcases Nat.eq_zero_or_pos i with hi0 | hi0
        · have HF0 := hidm (show F = false from by rw [HF.out]; exact name_no hpl (by rw [hat]; subst hi0; simp; omega))
          subst hi0
          have g1 : (n : Int) < 97 := by omega
          have g2 : ((n : Int) == 95) = false := by simp; omega
          have g3 : (48 : Int) ≤ n := by omega
          have g4 : (n : Int) ≤ 57 := by omega
          clear hat HP
          go_wp2_with fail
          go_ret
          exact ⟨Val.ret_bool HF0.out.symm, Below.refl _ _⟩
        · have HP2 := hidm (show ∀ j, j < i + 1 → nmAt s.data.toList j = true from fun j hj => by
            rcases Nat.lt_or_ge j i with h | h
            · exact HP.out j h
            · obtain rfl : j = i := by omega
              rw [hat]; simp; omega)
          have hi1 : ((i : Int) == 0) = false := by simp; omega
          have g1 : (n : Int) < 97 := by omega
          have g2 : ((n : Int) == 95) = false := by simp; omega
          have g3 : (48 : Int) ≤ n := by omega
          have g4 : (n : Int) ≤ 57 := by omega
          clear hat HP
          go_wp2_with fail
          go_round
          case rel => exact ⟨i + 1, by omega, by go_num, HP2⟩
          case measure => simp [intOf]; omega
      · rcases Nat.eq_zero_or_pos i with hi0 | hi0
        · have HF0 := hidm (show F = false from by rw [HF.out]; exact name_no hpl (by rw [hat]; subst hi0; simp; omega))
          subst hi0
          have g1 : (n : Int) < 97 := by omega
          have g2 : ((n : Int) == 95) = false := by simp; omega
          have g3 : (n : Int) < 48 := by omega
          clear hat HP
          go_wp2_with fail
          go_ret
          exact ⟨Val.ret_bool HF0.out.symm, Below.refl _ _⟩
        · have HF0 := hidm (show F = false from by rw [HF.out]; exact name_no hpl (by rw [hat]; simp; omega))
          have hi1 : ((i : Int) == 0) = false := by simp; omega
          have g1 : (n : Int) < 97 := by omega
          have g2 : ((n : Int) == 95) = false := by simp; omega
          have g3 : (n : Int) < 48 := by omega
          clear hat HP
          go_wp2_with fail
          go_ret
          exact ⟨Val.ret_bool HF0.out.symm, Below.refl _ _⟩
      · rcases Nat.eq_zero_or_pos i with hi0 | hi0
        · have HF0 := hidm (show F = false from by rw [HF.out]; exact name_no hpl (by rw [hat]; subst hi0; simp; omega))
          subst hi0
          have g1 : (n : Int) < 97 := by omega
          have g2 : ((n : Int) == 95) = false := by simp; omega
          have g3 : (48 : Int) ≤ n := by omega
          have g4 : (57 : Int) < n := by omega
          clear hat HP
          go_wp2_with fail
          go_ret
          exact ⟨Val.ret_bool HF0.out.symm, Below.refl _ _⟩
        · have HF0 := hidm (show F = false from by rw [HF.out]; exact name_no hpl (by rw [hat]; simp; omega))
          have hi1 : ((i : Int) == 0) = false := by simp; omega
          have g1 : (n : Int) < 97 := by omega
          have g2 : ((n : Int) == 95) = false := by simp; omega
          have g3 : (48 : Int) ≤ n := by omega
          have g4 : (57 : Int) < n := by omega
          clear hat HP
          go_wp2_with fail
          go_ret
          exact ⟨Val.ret_bool HF0.out.symm, Below.refl _ _⟩
      · rcases Nat.eq_zero_or_pos i with hi0 | hi0
        · have HF0 := hidm (show F = false from by rw [HF.out]; exact name_no hpl (by rw [hat]; subst hi0; simp; omega))
          subst hi0
          have g0 : (97 : Int) ≤ n := by omega
          have g1 : decide ((n : Int) ≤ 122) = false := decide_eq_false (by omega)
          have g2 : ((n : Int) == 95) = false := by simp; omega
          have g3 : (48 : Int) ≤ n := by omega
          have g4 : (57 : Int) < n := by omega
          clear hat HP
          go_wp2_with fail
          go_ret
          exact ⟨Val.ret_bool HF0.out.symm, Below.refl _ _⟩
        · have HF0 := hidm (show F = false from by rw [HF.out]; exact name_no hpl (by rw [hat]; simp; omega))
          have hi1 : ((i : Int) == 0) = false := by simp; omega
          have g0 : (97 : Int) ≤ n := by omega
          have g1 : decide ((n : Int) ≤ 122) = false := decide_eq_false (by omega)
          have g2 : ((n : Int) == 95) = false := by simp; omega
          have g3 : (48 : Int) ≤ n := by omega
          have g4 : (57 : Int) < n := by omega
          clear hat HP
          go_wp2_with fail
          go_ret
          exact ⟨Val.ret_bool HF0.out.symm, Below.refl _ _⟩
    · have hF : F = (decide (1 ≤ s.size) && decide (s.size ≤ 32)) := by
        have hsz : s.data.toList.length = s.size := Array.length_toList
        rw [HF.out, name_end (fun j hj => HP.out j (by rw [hsz] at hj; omega)), hsz]
      have HFF := hidm hF
      clear hF HP
      have hc : s.size < 1 ∨ (1 ≤ s.size ∧ s.size ≤ 32) ∨ (1 ≤ s.size ∧ 32 < s.size) := by omega
      have hp2 : s.size ≤ i := by omega
      rcases hc with hc | ⟨hc, hc2⟩ | ⟨hc, hc2⟩
      · have HF2 := hidm (show F = false from by rw [HFF.out, decide_eq_false (by omega)]; rfl)
        go_wp2_with fail
        go_ret
        exact ⟨Val.ret_bool HF2.out.symm, Below.refl _ _⟩
      · have HF2 := hidm (show F = true from by rw [HFF.out, decide_eq_true hc, decide_eq_true hc2]; rfl)
        go_wp2_with fail
        go_ret
        exact ⟨Val.ret_bool (by rw [HF2.out]; exact decide_eq_true (by omega)), Below.refl _ _⟩
      · have HF2 := hidm (show F = false from by rw [HFF.out, decide_eq_true hc, decide_eq_false (by omega)]; rfl)
        go_wp2_with fail
        go_ret
        exact ⟨Val.ret_bool (by rw [HF2.out]; exact decide_eq_false (by omega)), Below.refl _ _⟩
end Sch
end Go.Proofs.Ytkgiomdjihcfoaa
