/- The program's sums: Of, fourBytes, Put, Take; the document's More, Of, Put, Take. Conditions: the bytes are at most 2^40. -/
import Derived.Test.YtpamffheapnoaaaKt
import Derived.Test.YtpamffheapnoaaaShelf
namespace Go.Proofs.Ytpamffheapnoaaa
open Go.RowKit
namespace Crc
/-- A text of these bytes. -/
abbrev S (l : List UInt8) : ByteArray := ⟨l.toArray⟩
theorem S_of (t : ByteArray) : S t.data.toList = t := by cases t; simp [S]
theorem S_size (l : List UInt8) : (S l).size = l.length := by simp [ByteArray.size]
theorem S_append (a b : List UInt8) : S a ++ S b = S (a ++ b) := by
  apply ByteArray.ext; simp [S]
theorem S_add (t : ByteArray) (l : List UInt8) : t ++ S l = S (t.data.toList ++ l) := by
  conv => lhs; rw [← S_of t]
  exact S_append _ _
theorem clone_any (s : ByteArray) (w : World) (hs : s.size ≤ 281474976710656) :
    Calls Try.prog 40 #[.string s] w fun e w' => e = .returned (.string s) ∧ Below w.heap.size w w' := by
  go_enter Try.func40, Try.ntmps40
  go_wp2_with fail
  refine (Try.stringslite_Clone s w hs).mono ?_
  rintro e w' ⟨rfl, hb⟩
  go_wp2_with fail
  go_ret
  exact ⟨rfl, hb⟩
theorem of_any (s : ByteArray) (hs : s.size ≤ 1099511627776) (w : World) :
    Calls Try.prog 47 #[.string s] w fun e w' => e = .returned (.int .u32 (more 0 s.data.toList : Nat)) ∧ Below w.heap.size w w' := by
  go_enter Try.func47, Try.ntmps47
  go_wp2_with fail
  refine (more_any 0 (by omega) s (by omega) w).mono ?_
  rintro e w1 ⟨rfl, hb⟩
  have HB := hidm hb
  clear hb
  go_wp2_with fail
  go_ret
  exact ⟨rfl, HB.out⟩
set_option maxRecDepth 100000 in
theorem four_any (n : Nat) (w : World) :
    Calls Try.prog 46 #[.int .u32 n] w fun e w' => e = .returned (.string (S (four n))) ∧ Below w.heap.size w w' := by
  have hc := run_convert_bytes_back (P := Try.prog) (w.alloc (.cells #[.int .u8 ((n : Int) % 256), .int .u8 ((n : Int) / 256 % 256), .int .u8 ((n : Int) / 65536 % 256), .int .u8 ((n : Int) / 16777216 % 256)] 5)) 57 9 5 ⟨w.heap.size, 0, none⟩ 4 (four n) Try.underlying57 Try.underlying5 Try.underlying9 (by
    intro j hj
    have hj' : j = 0 ∨ j = 1 ∨ j = 2 ∨ j = 3 := by rw [four_len] at hj; omega
    have hadd : (⟨w.heap.size, 0, none⟩ : Addr).add j = ⟨w.heap.size, j, none⟩ := by unfold Addr.add; split <;> simp_all
    rw [hadd, cell_of_row _ _ j _ _ (0, 0) (heap_alloc_last w _)]
    rcases hj' with rfl | rfl | rfl | rfl <;> simp [four])
  have HC : (convert 57 9 (.slice (some ⟨w.heap.size, 0, none⟩) 4 4)).run Try.prog (w.alloc (.cells #[.int .u8 ((n : Int) % 256), .int .u8 ((n : Int) / 256 % 256), .int .u8 ((n : Int) / 65536 % 256), .int .u8 ((n : Int) / 16777216 % 256)] 5)) = .ok (.string (S (four n))) (w.alloc (.cells #[.int .u8 ((n : Int) % 256), .int .u8 ((n : Int) / 256 % 256), .int .u8 ((n : Int) / 65536 % 256), .int .u8 ((n : Int) / 16777216 % 256)] 5)) := hc
  clear hc
  go_enter Try.func46, Try.ntmps46
  go_wp2_with fail
  go_ret
  exact ⟨rfl, (Below.refl _ _).alloc (Nat.le_refl _) _⟩
theorem put_any (s : ByteArray) (hs : s.size ≤ 1099511627776) (w : World) :
    Calls Try.prog 29 #[.string s] w fun e w' => e = .returned (.string (S (put s.data.toList))) ∧ Below w.heap.size w w' := by
  obtain ⟨n, hn⟩ : ∃ n, n = more 0 s.data.toList := ⟨_, rfl⟩
  have ho := of_any s hs w
  rw [← hn] at ho
  obtain ⟨f, hf⟩ : ∃ f, f = S (four n) := ⟨_, rfl⟩
  have h4 := fun w => four_any n w
  simp only [← hf] at h4
  have hfs : f.size = 4 := by rw [hf, S_size, four_len]
  have hsum : s ++ f = S (put s.data.toList) := by rw [hf, S_add, hn]; rfl
  have HS := hidm hsum
  have hl : ¬ 9223372036854775807 < s.size + f.size := by omega
  have hl' : f.size ≤ 4 := by omega
  clear hn hf hsum hfs
  go_enter Try.func29, Try.ntmps29
  go_wp2_with fail
  refine ho.mono ?_
  rintro e w1 ⟨rfl, hb⟩
  have HB1 := hidm hb
  clear hb ho
  go_wp2_with fail
  refine (h4 w1).mono ?_
  rintro e w2 ⟨rfl, hb⟩
  have HB2 := hidm (HB1.out.trans (hb.mono HB1.out.size))
  clear hb h4
  go_wp2_with fail
  go_ret
  exact ⟨congrArg (fun x => Ending.returned (.string x)) HS.out, HB2.out⟩
set_option maxHeartbeats 1000000 in
/-- The document's More. -/
theorem rmore_any (n : Nat) (hn : n < 4294967296) (s : ByteArray) (hs : s.size ≤ 1099511627776) (w : World) :
    Calls Try.prog 60 #[.int .u32 n, .string s] w fun e w' => e = .returned (.int .u32 (more n s.data.toList : Nat)) ∧ w = w' := by
  have HM := hidm (show more n s.data.toList = 4294967295 - run (4294967295 - n) s.data.toList from rfl)
  have hsub : (4294967295 : Int) - (n : Int) = ((4294967295 - n : Nat) : Int) := by omega
  have hn2 : (4294967295 : Nat) - n < 4294967296 := by omega
  go_enter Try.func60, Try.ntmps60
  go_wp2_with fail
  clear hsub
  go_loopg [5, 6] s.size (fun g nn ii wx => ∃ k m : Nat, k + g = s.size ∧ ii = .int .i64 k ∧ m < 4294967296 ∧ nn = .int .u32 m ∧ Hid (m = run (4294967295 - n) (s.data.toList.take k)) ∧ Hid (wx = w))
  case atStart => exact ⟨0, 4294967295 - n, by omega, rfl, by omega, rfl, hidm rfl, hidm rfl⟩
  case round =>
    obtain ⟨k, m, hkg, rfl, hm, rfl, HR, HW⟩ := hrel
    cases gk with
    | zero =>
      obtain rfl : k = s.size := by omega
      have hmm := hidm (show 4294967295 - m = more n s.data.toList by rw [HM.out, HR.out, List.take_of_length_le (by simp)])
      have hnl : ¬ (s.size : Int) < s.size := by omega
      have hsub : (4294967295 : Int) - (m : Int) = ((4294967295 - m : Nat) : Int) := by omega
      obtain rfl : w = wr := HW.out.symm
      go_wp2_with fail
      go_ret
      refine ⟨?_, ?_⟩
      · rw [← hmm.out]; rfl
      · rfl
    | succ g =>
      have hlt : k < s.size := by omega
      obtain rfl : w = wr := HW.out.symm
      obtain ⟨c, hc⟩ : ∃ c : UInt8, s[k] = c := ⟨_, rfl⟩
      have hcl := c.toNat_lt
      have hx32 := u32_xor_nat m c.toNat hm (by omega)
      obtain ⟨z, hz⟩ : ∃ z, z = stp m c := ⟨_, rfl⟩
      have hzl := stp_lt hm c
      rw [← hz] at hzl
      obtain ⟨y, hy⟩ : ∃ y, y = m ^^^ c.toNat := ⟨_, rfl⟩
      have hyl : y < 4294967296 := by rw [hy]; exact Nat.xor_lt_two_pow (n := 32) hm (by omega)
      have HY : Hid (hvs 8 y = z) := by refine hidm ?_; rw [hz, hy]; rfl
      rw [← hy] at hx32
      have HS : Hid (z = run (4294967295 - n) (s.data.toList.take (k + 1))) := by
        refine hidm ?_
        rw [take_succ' s k hlt, run_snoc, ← HR.out, hc, hz]
      clear hy hz
      go_wp2_with fail
      clear hx32
      go_loopg [5, 7] 8 (fun g nn jj wx => ∃ j m : Nat, j + g = 8 ∧ jj = .int .i64 j ∧ m < 4294967296 ∧ nn = .int .u32 m ∧ Hid (hvs g m = z) ∧ Hid (wx = w))
      case atStart => exact ⟨0, y, by omega, rfl, hyl, rfl, HY, hidm rfl⟩
      case round =>
        obtain ⟨j, m, hjg, rfl, hm, rfl, HH, HW⟩ := hrel
        cases gk with
        | zero =>
          obtain rfl : j = 8 := by omega
          obtain rfl : m = z := HH.out
          obtain rfl : w = wr := HW.out.symm
          go_wp2_with fail
          go_roundg g
          case measure => omega
          case rel => exact ⟨k + 1, m, by omega, by go_num, hm, rfl, HS, hidm rfl⟩
        | succ g2 =>
          obtain rfl : w = wr := HW.out.symm
          have hx := u32_xor_nat (m / 2) 3988292384 (by omega) (by omega)
          have HH2 : Hid (hvs g2 (hv m) = z) := hidm HH.out
          have hml := hv_lt hm
          have hj8 : (j : Int) < 8 := by omega
          rcases Nat.mod_two_eq_zero_or_one m with h | h
          · have e : hv m = m / 2 := by unfold hv; rw [if_neg (by omega)]
            have gg : ((m : Int) % 2 == 1) = false := by simp; omega
            have hml2 : m / 2 < 4294967296 := by omega
            have HE := hidm e
            clear hx e h
            go_wp2_with fail
            go_roundg g2
            case measure => omega
            case rel => exact ⟨j + 1, m / 2, by omega, by go_num, hml2, by go_num, hidm (by rw [← HE.out]; exact HH2.out), hidm rfl⟩
          · have e : hv m = m / 2 ^^^ 3988292384 := by unfold hv; rw [if_pos h]
            have gg : ((m : Int) % 2 == 1) = true := by simp; omega
            obtain ⟨q, hq⟩ : ∃ q, q = m / 2 ^^^ 3988292384 := ⟨_, rfl⟩
            rw [← hq] at e hx
            have HE := hidm e
            have hx2 : bits .xor .u32 ((m : Int) / 2) 3988292384 = (q : Int) := by rw [← hx]; rfl
            clear hx e h hq
            go_wp2_with fail
            go_roundg g2
            case measure => omega
            case rel => exact ⟨j + 1, q, by omega, by go_num, by rw [← HE.out]; exact hml, rfl, hidm (by rw [← HE.out]; exact HH2.out), hidm rfl⟩
theorem rof_any (s : ByteArray) (hs : s.size ≤ 1099511627776) (w : World) :
    Calls Try.prog 48 #[.string s] w fun e w' => e = .returned (.int .u32 (more 0 s.data.toList : Nat)) ∧ w = w' := by
  go_enter Try.func48, Try.ntmps48
  go_wp2_with fail
  refine (rmore_any 0 (by omega) s (by omega) w).mono ?_
  rintro e w1 ⟨rfl, rfl⟩
  go_wp2_with fail
  go_ret
  exact ⟨rfl, rfl⟩
def fours (n k : Nat) : List UInt8 := (four n).take k
theorem fours_succ (n k : Nat) (h : k < 4) : fours n (k + 1) = fours n k ++ [UInt8.ofNat (n / 256 ^ k)] := by
  have : k = 0 ∨ k = 1 ∨ k = 2 ∨ k = 3 := by omega
  rcases this with rfl | rfl | rfl | rfl <;> simp [fours, four]
set_option maxHeartbeats 1000000 in
set_option maxRecDepth 100000 in
theorem rput_any (s : ByteArray) (hs : s.size ≤ 1099511627776) (w : World) :
    Calls Try.prog 30 #[.string s] w fun e w' => e = .returned (.string (S (put s.data.toList))) ∧ Below w.heap.size w w' := by
  obtain ⟨n, hn⟩ : ∃ n, n = more 0 s.data.toList := ⟨_, rfl⟩
  have ho := rof_any s hs w
  have HP : Hid (put s.data.toList = s.data.toList ++ fours n 4) := hidm (by rw [hn]; rfl)
  have hnl : n < 4294967296 := by rw [hn]; exact more_lt _ _
  rw [← hn] at ho
  clear hn
  go_enter Try.func30, Try.ntmps30
  go_wp2_with fail
  refine ho.mono ?_
  rintro e w1 ⟨rfl, rfl⟩
  clear ho
  go_wp2_with fail
  go_loopg [3, 4, 5] 4 (fun g mm tt ii wx => ∃ i m : Nat, i + g = 4 ∧ ii = .int .i64 i ∧ m < 4294967296 ∧ mm = .int .u32 m ∧ Hid (m = n / 256 ^ i) ∧ (∃ t : ByteArray, tt = .string t ∧ t.size ≤ s.size + 4 - g ∧ Hid (t = S (s.data.toList ++ fours n i))) ∧ Hid (Below w.heap.size w wx) ∧ w.heap.size ≤ wx.heap.size)
  case atStart => exact ⟨0, n, by omega, rfl, hnl, rfl, hidm (by simp), ⟨s, rfl, by omega, hidm (by rw [show fours n 0 = [] from rfl, List.append_nil])⟩, hidm (Below.refl _ _), Nat.le_refl _⟩
  case round =>
    obtain ⟨i, m, hig, rfl, hm, rfl, HM, ⟨t, rfl, htl, HT⟩, HB, hsz⟩ := hrel
    cases gk with
    | zero =>
      obtain rfl : i = 4 := by omega
      go_wp2_with fail
      go_ret
      exact ⟨congrArg (fun x => Ending.returned (.string x)) (by rw [HT.out, HP.out]), HB.out⟩
    | succ g =>
      have hi4 : (i : Int) < 4 := by omega
      obtain ⟨f, hf⟩ : ∃ f, f = S [UInt8.ofNat m] := ⟨_, rfl⟩
      have hfs : f.size ≤ 1 := by rw [hf, S_size]; simp
      have hc : (convert 57 9 (.slice (some ⟨wr.heap.size, 0, none⟩) 1 1)).run Try.prog (wr.alloc (.cells #[.int .u8 ((m : Int) % 256)] 5)) = .ok (.string f) (wr.alloc (.cells #[.int .u8 ((m : Int) % 256)] 5)) := by
        rw [hf]
        refine run_convert_bytes_back (P := Try.prog) _ 57 9 5 ⟨wr.heap.size, 0, none⟩ 1 [UInt8.ofNat m] Try.underlying57 Try.underlying5 Try.underlying9 ?_
        intro j hj
        obtain rfl : j = 0 := by simpa using hj
        show World.cell? _ ⟨wr.heap.size, 0, none⟩ = _
        rw [cell_of_row _ _ 0 _ _ (0, 0) (heap_alloc_last wr _)]
        simp
      have HTF : Hid (t ++ f = S (s.data.toList ++ fours n (i + 1))) := by
        refine hidm ?_
        rw [HT.out, hf, S_append, fours_succ n i (by omega), List.append_assoc, ← HM.out]
      have hl : ¬ 9223372036854775807 < t.size + f.size := by omega
      have HMM : Hid (m / 256 = n / 256 ^ (i + 1)) := hidm (by rw [HM.out, Nat.div_div_eq_div_mul, Nat.pow_succ])
      clear hf
      go_wp2_with fail
      rw [show ((i : Int) + 1) = ((i + 1 : Nat) : Int) by omega, show ((m : Int) / 256) = ((m / 256 : Nat) : Int) by omega]
      go_roundg g
      case measure => omega
      case rel => exact ⟨i + 1, m / 256, by omega, rfl, by omega, rfl, HMM, ⟨t ++ f, rfl, by rw [ByteArray.size_append]; omega, HTF⟩, hidm (HB.out.alloc hsz _), by simp; omega⟩
theorem cut_take (s : ByteArray) (k : Nat) : (s.extract 0 k).data.toList = s.data.toList.take k := by simp
theorem cut_drop (s : ByteArray) (k : Nat) : (s.extract k s.size).data.toList = s.data.toList.drop k := by
  simp only [ByteArray.data_extract, Array.toList_extract, List.extract_eq_take_drop]
  exact List.take_of_length_le (by simp)
theorem keep_b {w w1 w' : World} (h : Hid (Below w.heap.size w w1)) (hb : Below w1.heap.size w1 w') : Hid (Below w.heap.size w w') := hidm (h.out.trans (hb.mono h.out.size))
theorem beq_S (p s : ByteArray) : (p.toList == s.toList) = (p.data.toList == s.data.toList) := by rw [ByteArray.toList_eq, ByteArray.toList_eq]
theorem beq_no {p s : ByteArray} (h : ¬ p = s) : (p.toList == s.toList) = false := by
  rw [beq_S, beq_eq_false_iff_ne]
  intro e
  apply h
  rw [← S_of p, ← S_of s, e]
theorem beq_yes {p s : ByteArray} (h : p = s) : (p.toList == s.toList) = true := by rw [h]; simp
theorem len_eq (s : ByteArray) : s.data.toList.length = s.size := by simp
set_option maxHeartbeats 1000000 in
theorem rtake_any (s : ByteArray) (hs : s.size ≤ 1099511627776) (w : World) :
    Calls Try.prog 28 #[.string s] w fun e w' => e = .returned (.tuple #[.string (S (took s.data.toList)), .bool (good s.data.toList)]) ∧ Below w.heap.size w w' := by
  rcases Nat.lt_or_ge s.size 4 with h | h
  · have hg := good_short (l := s.data.toList) (by rw [len_eq]; exact h)
    have hi : (s.size : Int) < 4 := by omega
    have ht : took s.data.toList = [] := by unfold took; rw [if_neg (by rw [hg]; simp)]
    rw [hg, ht]
    clear hg ht
    go_enter Try.func28, Try.ntmps28
    go_wp2_with fail
    go_ret2
    exact ⟨rfl, Below.refl _ _⟩
  · have hg := good_iff s.data.toList (by rw [len_eq]; exact h)
    have hi : ¬ (s.size : Int) < 4 := by omega
    have hi2 : (4 : Int) ≤ s.size := by omega
    obtain ⟨k, hk⟩ : ∃ k : Nat, s.size = k + 4 := ⟨s.size - 4, by omega⟩
    have hsub : (s.size : Int) - 4 = (k : Int) := by omega
    have hk0 : k ≤ s.size := by omega
    obtain ⟨a, ha⟩ : ∃ a, a = s.extract 0 k := ⟨_, rfl⟩
    have hal : a.size ≤ 1099511627776 := by rw [ha, ByteArray.size_extract]; omega
    have hat : a.data.toList = s.data.toList.take (s.data.toList.length - 4) := by rw [ha, cut_take, len_eq, hk]; rfl
    rw [← hat] at hg
    have hp := fun w => rput_any a hal w
    obtain ⟨p, hpp⟩ : ∃ p, p = S (put a.data.toList) := ⟨_, rfl⟩
    rw [← hpp] at hp
    have hps : p = s ↔ put a.data.toList = s.data.toList := by
      rw [hpp]
      constructor
      · intro e; rw [← e]
      · intro e; rw [e, S_of]
    rcases hq : good s.data.toList with _ | _
    · have hne : ¬ p = s := by rw [hps, ← hg, hq]; simp
      have ht : took s.data.toList = [] := by unfold took; rw [if_neg (by rw [hq]; simp)]
      rw [ht]
      have HA := hidm ha.symm
      have hbq := beq_no hne
      clear hq ht hps hg hat hpp hk ha hne
      go_enter Try.func28, Try.ntmps28
      go_wp2_with fail
      rw [HA.out]
      refine (hp w).mono ?_
      rintro e w1 ⟨rfl, hb⟩
      have HB := hidm hb
      clear hb hp
      go_wp2_with fail
      go_ret2
      exact ⟨rfl, HB.out⟩
    · have hne : p = s := by rw [hps, ← hg, hq]
      have ht : S (took s.data.toList) = a := by unfold took; rw [if_pos hq, ← hat, S_of]
      rw [ht]
      have HA := hidm ha.symm
      have HP := hidm hne
      clear hq ht hps hg hat hpp hk ha
      rw [hne] at hp
      clear hne
      go_enter Try.func28, Try.ntmps28
      go_wp2_with fail
      rw [HA.out]
      refine (hp w).mono ?_
      rintro e w1 ⟨rfl, hb⟩
      have HB := hidm hb
      clear hb hp
      go_wp2_with fail
      go_ret2
      refine ⟨?_, HB.out⟩
      rw [← HA.out]
      rfl
set_option maxHeartbeats 2000000 in
set_option maxRecDepth 100000 in
theorem take_any (s : ByteArray) (hs : s.size ≤ 1099511627776) (w : World) :
    Calls Try.prog 27 #[.string s] w fun e w' => e = .returned (.tuple #[.string (S (took s.data.toList)), .bool (good s.data.toList)]) ∧ Below w.heap.size w w' := by
  rcases Nat.lt_or_ge s.size 4 with h | h
  · have hg := good_short (l := s.data.toList) (by rw [len_eq]; exact h)
    have hi : (s.size : Int) < 4 := by omega
    have ht : took s.data.toList = [] := by unfold took; rw [if_neg (by rw [hg]; simp)]
    rw [hg, ht]
    clear hg ht
    go_enter Try.func27, Try.ntmps27
    go_wp2_with fail
    go_ret2
    exact ⟨rfl, Below.refl _ _⟩
  · have hi : ¬ (s.size : Int) < 4 := by omega
    obtain ⟨k, hk⟩ : ∃ k : Nat, s.size = k + 4 := ⟨s.size - 4, by omega⟩
    have hsub : (s.size : Int) - 4 = (k : Int) := by omega
    have hk0 : k ≤ s.size := by omega
    have hk1 : (k : Int) ≤ s.size := by omega
    obtain ⟨a, ha⟩ : ∃ a, a = s.extract 0 k := ⟨_, rfl⟩
    obtain ⟨d, hd⟩ : ∃ d, d = s.extract k s.size := ⟨_, rfl⟩
    have hal : a.size ≤ 1099511627776 := by rw [ha, ByteArray.size_extract]; omega
    have hat : a.data.toList = s.data.toList.take (s.data.toList.length - 4) := by rw [ha, cut_take, len_eq, hk]; rfl
    have hdt : d.data.toList = s.data.toList.drop (s.data.toList.length - 4) := by rw [hd, cut_drop, len_eq, hk]; rfl
    have hg : good s.data.toList = (d.data.toList == four (more 0 a.data.toList)) := by
      unfold good
      rw [← hat, ← hdt]
      simp only [len_eq, h, decide_true, Bool.true_and]
    obtain ⟨n, hn⟩ : ∃ n, n = more 0 a.data.toList := ⟨_, rfl⟩
    have hp := fun w => of_any a hal w
    rw [← hn] at hp hg
    obtain ⟨f, hf⟩ : ∃ f, f = S (four n) := ⟨_, rfl⟩
    have h4 := fun w => four_any n w
    rw [← hf] at h4
    have hbq : (d.toList == f.toList) = good s.data.toList := by rw [beq_S, hg, hf]
    have hcl := fun w => clone_any a w (by omega)
    have HA := hidm ha.symm
    have HD := hidm hd.symm
    have HN := hidm hk
    have ht : S (took s.data.toList) = if good s.data.toList then a else ⟨#[]⟩ := by
      unfold took
      split
      · rw [← hat, S_of]
      · rfl
    rw [ht]
    obtain ⟨g, hgg⟩ : ∃ g, g = good s.data.toList := ⟨_, rfl⟩
    rw [← hgg] at hbq ⊢
    clear ht hgg hn hf hg hat hdt hd ha hk
    go_enter Try.func27, Try.ntmps27
    go_wp2_with fail
    have hx1 : s.extract 0 k = a := HA.out
    have hx2 : s.extract k s.size = d := HD.out
    go_region_held3 (fun w' => Hid (Below w.heap.size w w'))
      (first | (exact keep_b (by assumption) hb) | (exact hidm (Below.refl _ _)) | (exact hidm (below_drewN (Below.refl _ _) 1)) | go_keep)
      (first | (go_at_call 47; (with_reducible refine (hp _).mono ?_); rintro e w' ⟨rfl, hb⟩) | (go_at_call 46; (with_reducible refine (h4 _).mono ?_); rintro e w' ⟨rfl, hb⟩))
    rename_i hS
    have HB := hidm hS.out
    clear hS hp h4 hbq hx2
    cases g with
    | false =>
      go_wp2_with fail
      go_ret2
      exact ⟨rfl, HB.out⟩
    | true =>
      go_wp2_with fail
      refine (hcl _).mono ?_
      rintro e w2 ⟨rfl, hb⟩
      have HB2 := hidm (HB.out.trans (hb.mono HB.out.size))
      clear hb hcl
      go_wp2_with fail
      go_ret2
      exact ⟨rfl, HB2.out⟩
end Crc
end Go.Proofs.Ytpamffheapnoaaa
