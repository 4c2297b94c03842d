/- The contract of the document's own digit (layer 1): whatever the byte, a number below 16; of a hex digit its number. No condition. -/
import Derived.Test.YtppdebhcaodcnaaDoorTe
namespace Go.Proofs.YtppdebhcaodcnaaDoor
open Go.RowKit
namespace Ref
theorem dig_sz (k : Nat) (hk : k < 16) (d : ByteArray) (hd : d = ⟨#[48, 49, 50, 51, 52, 53, 54, 55, 56, 57, 97, 98, 99, 100, 101, 102]⟩) (h : k < d.size) : d[k] = Txt.hexd k := by
  subst hd
  have : k = 0 ∨ k = 1 ∨ k = 2 ∨ k = 3 ∨ k = 4 ∨ k = 5 ∨ k = 6 ∨ k = 7 ∨ k = 8 ∨ k = 9 ∨ k = 10 ∨ k = 11 ∨ k = 12 ∨ k = 13 ∨ k = 14 ∨ k = 15 := by omega
  rcases this with rfl | rfl | rfl | rfl | rfl | rfl | rfl | rfl | rfl | rfl | rfl | rfl | rfl | rfl | rfl | rfl <;> rfl
theorem hexd_inj (k i : Nat) (hk : k < 16) (hi : i < 16) (h : Txt.hexd k = Txt.hexd i) : k = i := by
  have key : ∀ a : Fin 16, ∀ b : Fin 16, Txt.hexd a.1 = Txt.hexd b.1 → a.1 = b.1 := by decide
  exact key ⟨k, hk⟩ ⟨i, hi⟩ h
set_option maxHeartbeats 1000000 in
theorem digit_any (c : UInt8) (w : World) :
    Calls Tryd.prog 67 #[.int .u8 c.toNat] w fun e w' => ∃ r : Nat, e = .returned (.int .i64 r) ∧ ((∀ k, k < 16 → c = Txt.hexd k → r = k) ∧ ((∀ k, k < 16 → c ≠ Txt.hexd k) → r = 0)) ∧ w = w' := by
  go_enter Tryd.func67, Tryd.ntmps67
  go_wp2_with fail
  generalize hdd : (⟨#[48, 49, 50, 51, 52, 53, 54, 55, 56, 57, 97, 98, 99, 100, 101, 102]⟩ : ByteArray) = d
  have HD := Lib.hid hdd.symm
  have hd : d.size = 16 := by rw [← hdd]; rfl
  clear hdd
  go_loopw [4] (fun ii wr => ∃ (i : Nat), ii = .int .i64 i ∧ i ≤ 16 ∧ Hid (∀ k, k < i → c ≠ Txt.hexd k) ∧ Hid (w = wr)) (fun ii _ => (16 - intOf ii).toNat)
  case atStart => exact ⟨0, rfl, by omega, Lib.hid (fun k hk => by omega), Lib.hid rfl⟩
  case round =>
    obtain ⟨i, rfl, hi, HN, HW⟩ := hrel
    obtain rfl : w = wr := HW.out
    rcases Nat.eq_or_lt_of_le hi with h1 | h1
    · have f1 : ¬ (i : Int) < 16 := by omega
      have H1 := Lib.hid h1
      clear h1
      go_wp2_with fail
      go_ret
      exact ⟨0, rfl, ⟨fun k hk e => absurd e (HN.out k (by have := H1.out; omega)), fun _ => rfl⟩, rfl⟩
    · have f1 : (i : Int) < 16 := by omega
      have hlt : i < d.size := by omega
      have hE := Lib.hid (dig_sz i h1 d HD.out hlt)
      cases hc : (d[i] == c)
      · have g1 : (((d[i]).toNat : Int) == (c.toNat : Int)) = false := by
          rw [Bool.eq_false_iff]; intro q
          have q2 : (d[i]).toNat = c.toNat := by have := eq_of_beq q; omega
          have : d[i] = c := UInt8.toNat_inj.mp q2
          rw [this] at hc; simp at hc
        have hc2 := Lib.hid hc
        clear hc
        go_wp2_with fail
        go_roundw
        case rel => exact ⟨i + 1, by go_num, by omega, Lib.hid (fun k hk e => by
          rcases Nat.lt_succ_iff_lt_or_eq.mp hk with x | x
          · exact HN.out k x e
          · subst x; have := hc2.out; rw [hE.out, ← e] at this; simp at this), Lib.hid (by trivial)⟩
        case measure => simp [intOf]; omega
      · have q := eq_of_beq hc
        have g1 : (((d[i]).toNat : Int) == (c.toNat : Int)) = true := by rw [q]; simp
        have Q := Lib.hid q
        have H1 := Lib.hid h1
        clear hc q
        go_wp2_with fail
        go_ret
        exact ⟨i, rfl, ⟨fun k hk e => hexd_inj i k H1.out hk (by rw [← hE.out, Q.out, e]), fun hn => absurd (by rw [← hE.out, Q.out]) (hn i H1.out)⟩, rfl⟩
/-- What digit answers, the same in every world. -/
theorem digit_is (c : UInt8) : ∃ r : Nat, r < 16 ∧ (∀ k, k < 16 → c = Txt.hexd k → r = k) ∧ ∀ w, Calls Tryd.prog 67 #[.int .u8 c.toNat] w fun e w' => e = .returned (.int .i64 r) ∧ w = w' := by
  by_cases h : ∃ k, k < 16 ∧ c = Txt.hexd k
  · obtain ⟨k, hk, hc⟩ := h
    refine ⟨k, hk, fun j hj e => hexd_inj k j hk hj (by rw [← hc, e]), fun w => (digit_any c w).mono ?_⟩
    rintro e w' ⟨r, rfl, ⟨h1, _⟩, rfl⟩
    exact ⟨by rw [h1 k hk hc], rfl⟩
  · refine ⟨0, by omega, fun j hj e => absurd ⟨j, hj, e⟩ h, fun w => (digit_any c w).mono ?_⟩
    rintro e w' ⟨r, rfl, ⟨_, h2⟩, rfl⟩
    exact ⟨by rw [h2 fun j hj e => h ⟨j, hj, e⟩], rfl⟩
end Ref
end Go.Proofs.YtppdebhcaodcnaaDoor
