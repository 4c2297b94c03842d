/- The contracts of the document's own hex, Digits (layer 1). Conditions: at most 16 digits of base 16; words below 2^64. -/
import Derived.Test.YtppdebhcaodcnaaDoorTc
import Derived.Laws.IdiomStrings
import Derived.Lib.AppendStr
import Derived.Deep.WholeRow
namespace Go.Proofs.YtppdebhcaodcnaaDoor
open Go.RowKit
namespace Ref
abbrev Tx (l : List UInt8) : ByteArray := ⟨l.toArray⟩
theorem Tx_size (l : List UInt8) : (Tx l).size = l.length := by simp [ByteArray.size]
theorem Tx_append (a b : List UInt8) : Tx a ++ Tx b = Tx (a ++ b) := by apply ByteArray.ext; simp [Tx]
/-- The lowest digits of base 16, the highest first. -/
def lowhex (n : Nat) : Nat → List UInt8
  | 0 => []
  | i + 1 => Txt.hexd (n / 16 ^ i % 16) :: lowhex n i
theorem lowhex_len (n i : Nat) : (lowhex n i).length = i := by
  induction i with
  | zero => rfl
  | succ i ih => simp [lowhex, ih]
theorem dig_at (k : Nat) (hk : k < 16) : (⟨#[48, 49, 50, 51, 52, 53, 54, 55, 56, 57, 97, 98, 99, 100, 101, 102]⟩ : ByteArray).extract k (k + 1) = Tx [Txt.hexd k] := by
  have : k = 0 ∨ k = 1 ∨ k = 2 ∨ k = 3 ∨ k = 4 ∨ k = 5 ∨ k = 6 ∨ k = 7 ∨ k = 8 ∨ k = 9 ∨ k = 10 ∨ k = 11 ∨ k = 12 ∨ k = 13 ∨ k = 14 ∨ k = 15 := by omega
  rcases this with rfl | rfl | rfl | rfl | rfl | rfl | rfl | rfl | rfl | rfl | rfl | rfl | rfl | rfl | rfl | rfl <;> rfl
set_option maxHeartbeats 1000000 in
theorem hex_any (n m : Nat) (hn : n < 18446744073709551616) (hm : m ≤ 16) (w : World) :
    Calls Tryd.prog 70 #[.int .u64 n, .int .i64 m] w fun e w' => e = .returned (.string (Tx (lowhex n m))) ∧ w = w' := by
  go_enter Tryd.func70, Tryd.ntmps70
  go_wp2_with fail
  go_loopw [0, 6, 7] (fun nn ss ii wr => ∃ (i x : Nat) (t : ByteArray), ii = .int .i64 i ∧ nn = .int .u64 x ∧ ss = .string t ∧ i ≤ m ∧ x < 18446744073709551616 ∧ t.size ≤ 16 ∧ Hid (t = Tx (lowhex n i)) ∧ Hid (x = n / 16 ^ i) ∧ Hid (wr = w)) (fun _ _ ii _ => m - (intOf ii).toNat)
  case atStart => exact ⟨0, n, ⟨#[]⟩, rfl, rfl, rfl, by omega, hn, by decide, Lib.hid rfl, Lib.hid (by simp), Lib.hid rfl⟩
  case round =>
    obtain ⟨i, x, t, rfl, rfl, rfl, hi, hx, ht, HT, HX, HW⟩ := hrel
    obtain rfl : w = wr := HW.out.symm
    rcases Nat.eq_or_lt_of_le hi with h1 | h1
    · have f1 : ¬ (i : Int) < (m : Int) := by omega
      have H1 := Lib.hid h1
      clear h1
      go_wp2_with fail
      go_ret
      exact ⟨congrArg (fun q => Ending.returned (.string q)) (by rw [HT.out, H1.out]), rfl⟩
    · have f1 : (i : Int) < (m : Int) := by omega
      obtain ⟨k, hk⟩ : ∃ k, k = x % 16 := ⟨_, rfl⟩
      have hk16 : k < 16 := by omega
      have hki : (x : Int) % 16 = (k : Int) := by omega
      obtain ⟨f, hf⟩ : ∃ f, f = Tx [Txt.hexd k] := ⟨_, rfl⟩
      have hd := dig_at k hk16
      rw [← hf] at hd
      have hfs : f.size ≤ 1 := by rw [hf, Tx_size]; simp
      have hfe : f.size = 1 := by rw [hf, Tx_size]; rfl
      have HT2 : Hid (f ++ t = Tx (lowhex n (i + 1))) := Lib.hid (by rw [hf, HT.out, Tx_append]; show Tx (Txt.hexd k :: lowhex n i) = _; rw [hk, HX.out]; rfl)
      have HX2 : Hid (x / 16 = n / 16 ^ (i + 1)) := Lib.hid (by rw [HX.out, Nat.div_div_eq_div_mul, Nat.pow_succ])
      have ht2 : (f ++ t).size ≤ 16 := by rw [HT2.out, Tx_size, lowhex_len]; omega
      have hl : ¬ 9223372036854775807 < f.size + t.size := by omega
      have hk1 : (k : Int) + 1 ≤ 16 := by omega
      have hk2 : (k : Int) ≤ (k : Int) + 1 := by omega
      clear hk hf hfe
      go_wp2_with fail
      go_roundw
      case rel => exact ⟨i + 1, x / 16, f ++ t, by go_num, by go_num, rfl, by omega, by omega, ht2, HT2, HX2, Lib.hid (by trivial)⟩
      case measure => simp [intOf]; omega
theorem itoa_pos (v : Nat) : Lib.itoa (v : Int) = Lib.decDigits v := by unfold Lib.itoa; rw [if_neg (by omega)]; rfl
theorem itoa_neg (v : Nat) (h : 0 < v) : Lib.itoa (-(v : Int)) = 45 :: Lib.decDigits v := by
  unfold Lib.itoa; rw [if_pos (by omega)]; congr 1; congr 1; omega
theorem dec_one (v : Nat) (h : v < 10) : Lib.decDigits v = [UInt8.ofNat (48 + v % 10)] := by
  rw [Lib.decDigits, dif_pos h, Nat.mod_eq_of_lt h]
theorem dec_more (v : Nat) (h : ¬ v < 10) : Lib.decDigits v = Lib.decDigits (v / 10) ++ [UInt8.ofNat (48 + v % 10)] := by
  conv => lhs; rw [Lib.decDigits, dif_neg h]
theorem dec_len (v : Nat) (h : v ≤ 9223372036854775808) : (Lib.decDigits v).length ≤ 30 := by
  have key : ∀ k v, v < 10 ^ (k + 1) → (Lib.decDigits v).length ≤ k + 1 := by
    intro k
    induction k with
    | zero => intro v h; rw [dec_one v (by simpa using h)]; simp
    | succ k ih =>
      intro v h
      by_cases h10 : v < 10
      · rw [dec_one v h10]; simp
      · rw [dec_more v h10, List.length_append]
        have := ih (v / 10) (by rw [Nat.pow_succ] at h; omega)
        simp; omega
  have := key 19 v (by have : (10 : Nat) ^ 20 = 100000000000000000000 := by decide
                       omega)
  omega
/-- A text of one byte, out of a new block. -/
theorem chr_new (x : Nat) (hx : x < 256) (m : ByteArray) (hm : m = Tx [UInt8.ofNat x]) (w : World) :
    (convert 55 9 (.slice (some ⟨w.heap.size, 0, none⟩) 1 1)).run Tryd.prog (w.alloc (.cells #[.int .u8 x] 5)) = .ok (.string m) (w.alloc (.cells #[.int .u8 x] 5)) := by
  subst hm
  refine run_convert_bytes_back (P := Tryd.prog) _ 55 9 5 ⟨w.heap.size, 0, none⟩ 1 [UInt8.ofNat x] Tryd.underlying55 Tryd.underlying5 Tryd.underlying9 ?_
  intro j hj
  obtain rfl : j = 0 := by simpa using hj
  show World.cell? _ ⟨w.heap.size, 0, none⟩ = _
  rw [cell_of_row _ _ 0 _ _ (0, 0) (heap_alloc_last w _)]
  simp; omega
set_option maxHeartbeats 2000000 in
set_option maxRecDepth 100000 in
theorem digits_pos (v : Nat) : v ≤ 9223372036854775807 → ∀ w : World,
    Calls Tryd.prog 69 #[.int .i64 v] w fun e w' => e = .returned (.string (Tx (Lib.decDigits v))) ∧ Below w.heap.size w w' := by
  induction v using Nat.strongRecOn with
  | _ v ih =>
    intro hv w
    obtain ⟨d, hd⟩ : ∃ d, d = v % 10 := ⟨_, rfl⟩
    have hdi : (v : Int) % 10 = (d : Int) := by omega
    have hd10 : d < 10 := by omega
    obtain ⟨c, hc⟩ : ∃ c : Nat, c = 48 + d := ⟨_, rfl⟩
    have hci : (48 : Int) + (d : Int) = (c : Int) := by omega
    have hc58 : c < 58 := by omega
    obtain ⟨m, hm⟩ : ∃ m, m = Tx [UInt8.ofNat c] := ⟨_, rfl⟩
    have E := chr_new c (by omega) m hm w
    have hms : m.size ≤ 1 := by rw [hm, Tx_size]; simp
    have hcm : (c : Int) % 256 = (c : Int) := by omega
    have hdn : ¬ (d : Int) < 0 := by omega
    have hvn : ¬ (v : Int) < 0 := by omega
    by_cases h10 : v < 10
    · have hq : (v : Int) / 10 = 0 := by omega
      have HR : Hid (Tx (Lib.decDigits v) = m) := Lib.hid (by rw [dec_one v h10, hm, hc, hd])
      clear ih hd hc hm
      go_enter Tryd.func69, Tryd.ntmps69
      go_wp2_with fail
      go_ret
      exact ⟨congrArg (fun q => Ending.returned (.string q)) HR.out.symm, (Below.refl _ _).alloc (Nat.le_refl _) _⟩
    · obtain ⟨u, hu⟩ : ∃ u, u = v / 10 := ⟨_, rfl⟩
      have hq : (v : Int) / 10 = (u : Int) := by omega
      have hq0 : ((u : Int) == 0) = false := by simp; omega
      have hrec := ih u (by omega) (by omega)
      have hlen := dec_len u (by omega)
      obtain ⟨a, ha⟩ : ∃ a, a = Tx (Lib.decDigits u) := ⟨_, rfl⟩
      rw [← ha] at hrec
      have has : a.size ≤ 30 := by rw [ha, Tx_size]; exact hlen
      have HR : Hid (Tx (Lib.decDigits v) = a ++ m) := Lib.hid (by rw [dec_more v h10, ha, hm, hc, hd, hu, Tx_append])
      have hl : ¬ 9223372036854775807 < a.size + m.size := by omega
      clear ih hd hc hm hu ha hlen
      go_enter Tryd.func69, Tryd.ntmps69
      go_wp2_with fail
      refine (hrec _).mono ?_
      rintro e w1 ⟨rfl, hb⟩
      have HB := Lib.hid (((Below.refl w.heap.size w).alloc (Nat.le_refl _) _).trans (hb.mono (by simp)))
      clear hb hrec E
      go_wp2_with fail
      go_ret
      exact ⟨congrArg (fun q => Ending.returned (.string q)) HR.out.symm, HB.out⟩
set_option maxHeartbeats 2000000 in
set_option maxRecDepth 100000 in
theorem digits_neg (v : Nat) : 0 < v → v ≤ 9223372036854775808 → ∀ w : World,
    Calls Tryd.prog 69 #[.int .i64 (-(v : Int))] w fun e w' => e = .returned (.string (Tx (45 :: Lib.decDigits v))) ∧ Below w.heap.size w w' := by
  induction v using Nat.strongRecOn with
  | _ v ih =>
    intro hv0 hv w
    obtain ⟨n, hn⟩ : ∃ n : Int, n = -(v : Int) := ⟨_, rfl⟩
    rw [← hn]
    obtain ⟨d, hd⟩ : ∃ d, d = v % 10 := ⟨_, rfl⟩
    have htm : n.tmod 10 = -(d : Int) := by rw [hn, Int.neg_tmod, Int.tmod_eq_emod_of_nonneg (by omega)]; omega
    have hd10 : d < 10 := by omega
    obtain ⟨c, hc⟩ : ∃ c : Nat, c = 48 + d := ⟨_, rfl⟩
    have hci : (48 : Int) + (d : Int) = (c : Int) := by omega
    have hc58 : c < 58 := by omega
    obtain ⟨m, hm⟩ : ∃ m, m = Tx [UInt8.ofNat c] := ⟨_, rfl⟩
    have E := chr_new c (by omega) m hm w
    have hms : m.size ≤ 1 := by rw [hm, Tx_size]; simp
    have hcm : (c : Int) % 256 = (c : Int) := by omega
    have hnn : n < 0 := by omega
    have hn0 : -9223372036854775808 ≤ n := by omega
    by_cases h10 : v < 10
    · have htd : n.tdiv 10 = 0 := by rw [hn, Int.neg_tdiv, Int.tdiv_eq_ediv_of_nonneg (by omega)]; omega
      have HR : Hid (Tx (45 :: Lib.decDigits v) = (⟨#[45]⟩ : ByteArray) ++ m) := Lib.hid (by rw [dec_one v h10, hm, hc, hd]; exact (Tx_append [45] _).symm)
      have hl : ¬ 9223372036854775807 < 1 + m.size := by omega
      have hnt : ¬ (-(d : Int) < 0) ∨ -(d : Int) < 0 := by omega
      have hneg : -(-(d : Int)) = (d : Int) := by omega
      by_cases hd0 : d = 0
      · omega
      · have hdn : -(d : Int) < 0 := by omega
        clear ih hd hc hm hn hnt
        go_enter Tryd.func69, Tryd.ntmps69
        go_wp2_with fail
        go_ret
        exact ⟨congrArg (fun q => Ending.returned (.string q)) HR.out.symm, (Below.refl _ _).alloc (Nat.le_refl _) _⟩
    · obtain ⟨u, hu⟩ : ∃ u, u = v / 10 := ⟨_, rfl⟩
      have htd : n.tdiv 10 = -(u : Int) := by rw [hn, Int.neg_tdiv, Int.tdiv_eq_ediv_of_nonneg (by omega)]; omega
      have hq0 : (-(u : Int) == 0) = false := by simp; omega
      have hrec := ih u (by omega) (by omega) (by omega)
      have hlen := dec_len u (by omega)
      obtain ⟨a, ha⟩ : ∃ a, a = Tx (45 :: Lib.decDigits u) := ⟨_, rfl⟩
      rw [← ha] at hrec
      have has : a.size ≤ 31 := by rw [ha, Tx_size, List.length_cons]; omega
      have HR : Hid (Tx (45 :: Lib.decDigits v) = a ++ m) := Lib.hid (by rw [dec_more v h10, ha, hm, hc, hd, hu, Tx_append]; rfl)
      have hl : ¬ 9223372036854775807 < a.size + m.size := by omega
      have hneg : -(-(d : Int)) = (d : Int) := by omega
      have hwq : wrap64 (-(u : Int)) = -(u : Int) := by unfold wrap64; omega
      by_cases hd0 : 0 < d
      · have hd1 : -(d : Int) < 0 := by omega
        clear ih hd hc hm hu ha hlen hn
        go_enter Tryd.func69, Tryd.ntmps69
        go_wp2_with fail
        refine (hrec _).mono ?_
        rintro e w1 ⟨rfl, hb⟩
        have HB := Lib.hid (((Below.refl w.heap.size w).alloc (Nat.le_refl _) _).trans (hb.mono (by simp)))
        clear hb hrec E
        go_wp2_with fail
        go_ret
        exact ⟨congrArg (fun q => Ending.returned (.string q)) HR.out.symm, HB.out⟩
      · obtain rfl : d = 0 := by omega
        have hd1 : ¬ (0 : Int) < 0 := by omega
        obtain rfl : c = 48 := by omega
        have E2 : (convert 55 9 (.slice (some ⟨w.heap.size, 0, none⟩) 1 1)).run Tryd.prog (w.alloc (.cells #[.int .u8 48] 5)) = .ok (.string m) (w.alloc (.cells #[.int .u8 48] 5)) := E
        clear ih hd hc hm hu ha hlen hn
        go_enter Tryd.func69, Tryd.ntmps69
        go_wp2_with fail
        refine (hrec _).mono ?_
        rintro e w1 ⟨rfl, hb⟩
        have HB := Lib.hid (((Below.refl w.heap.size w).alloc (Nat.le_refl _) _).trans (hb.mono (by simp)))
        clear hb hrec E E2
        go_wp2_with fail
        go_ret
        exact ⟨congrArg (fun q => Ending.returned (.string q)) HR.out.symm, HB.out⟩
theorem digits_any (n : Int) (h0 : -9223372036854775808 ≤ n) (h1 : n ≤ 9223372036854775807) (w : World) :
    Calls Tryd.prog 69 #[.int .i64 n] w fun e w' => e = .returned (.string (Tx (Lib.itoa n))) ∧ Below w.heap.size w w' := by
  rcases Int.lt_or_le n 0 with h | h
  · obtain ⟨v, rfl⟩ : ∃ v : Nat, n = -(v : Int) := ⟨n.natAbs, by omega⟩
    rw [itoa_neg v (by omega)]
    exact digits_neg v (by omega) (by omega) w
  · obtain ⟨v, rfl⟩ := Int.eq_ofNat_of_zero_le h
    rw [itoa_pos v]
    exact digits_pos v (by omega) w
end Ref
end Go.Proofs.YtppdebhcaodcnaaDoor
