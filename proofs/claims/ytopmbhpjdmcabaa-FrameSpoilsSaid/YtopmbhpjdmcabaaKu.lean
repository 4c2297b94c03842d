/- The program's sums: Of, fourBytes, Put, Take; the document's More, Of, Put, Take. Conditions: the bytes are at most 2^40. -/
import Derived.Test.YtopmbhpjdmcabaaKt
import Derived.Test.YtopmbhpjdmcabaaShelf
namespace Go.Proofs.Ytopmbhpjdmcabaa
open Go.RowKit
namespace Crc
/-- A text of these bytes. -/
abbrev S (l : List UInt8) : ByteArray := ⟨l.toArray⟩
theorem S_of (t : ByteArray) : S t.data.toList = t := by cases t; simp [S]
theorem S_size (l : List UInt8) : (S l).size = l.length := by simp [ByteArray.size]
theorem S_append (a b : List UInt8) : S a ++ S b = S (a ++ b) := by
  apply ByteArray.ext; simp [S]
theorem S_add (t : ByteArray) (l : List UInt8) : t ++ S l = S (t.data.toList ++ l) := by
  conv => lhs; rw [← S_of t]
  exact S_append _ _
theorem clone_any (s : ByteArray) (w : World) (hs : s.size ≤ 281474976710656) :
    Calls Try.prog 60 #[.string s] w fun e w' => e = .returned (.string s) ∧ Below w.heap.size w w' := by
  go_enter Try.func60, Try.ntmps60
  go_wp2_with fail
  refine (Try.stringslite_Clone s w hs).mono ?_
  rintro e w' ⟨rfl, hb⟩
  go_wp2_with fail
  go_ret
  exact ⟨rfl, hb⟩
theorem of_any (s : ByteArray) (hs : s.size ≤ 1099511627776) (w : World) :
    Calls Try.prog 66 #[.string s] w fun e w' => e = .returned (.int .u32 (more 0 s.data.toList : Nat)) ∧ Below w.heap.size w w' := by
  go_enter Try.func66, Try.ntmps66
  go_wp2_with fail
  refine (more_any 0 (by omega) s (by omega) w).mono ?_
  rintro e w1 ⟨rfl, hb⟩
  have HB := hidm hb
  clear hb
  go_wp2_with fail
  go_ret
  exact ⟨rfl, HB.out⟩
set_option maxRecDepth 100000 in
theorem four_any (n : Nat) (w : World) :
    Calls Try.prog 65 #[.int .u32 n] w fun e w' => e = .returned (.string (S (four n))) ∧ Below w.heap.size w w' := by
  have hc := run_convert_bytes_back (P := Try.prog) (w.alloc (.cells #[.int .u8 ((n : Int) % 256), .int .u8 ((n : Int) / 256 % 256), .int .u8 ((n : Int) / 65536 % 256), .int .u8 ((n : Int) / 16777216 % 256)] 5)) 48 9 5 ⟨w.heap.size, 0, none⟩ 4 (four n) Try.underlying48 Try.underlying5 Try.underlying9 (by
    intro j hj
    have hj' : j = 0 ∨ j = 1 ∨ j = 2 ∨ j = 3 := by rw [four_len] at hj; omega
    have hadd : (⟨w.heap.size, 0, none⟩ : Addr).add j = ⟨w.heap.size, j, none⟩ := by unfold Addr.add; split <;> simp_all
    rw [hadd, cell_of_row _ _ j _ _ (0, 0) (heap_alloc_last w _)]
    rcases hj' with rfl | rfl | rfl | rfl <;> simp [four])
  have HC : (convert 48 9 (.slice (some ⟨w.heap.size, 0, none⟩) 4 4)).run Try.prog (w.alloc (.cells #[.int .u8 ((n : Int) % 256), .int .u8 ((n : Int) / 256 % 256), .int .u8 ((n : Int) / 65536 % 256), .int .u8 ((n : Int) / 16777216 % 256)] 5)) = .ok (.string (S (four n))) (w.alloc (.cells #[.int .u8 ((n : Int) % 256), .int .u8 ((n : Int) / 256 % 256), .int .u8 ((n : Int) / 65536 % 256), .int .u8 ((n : Int) / 16777216 % 256)] 5)) := hc
  clear hc
  go_enter Try.func65, Try.ntmps65
  go_wp2_with fail
  go_ret
  exact ⟨rfl, (Below.refl _ _).alloc (Nat.le_refl _) _⟩
theorem put_any (s : ByteArray) (hs : s.size ≤ 1099511627776) (w : World) :
    Calls Try.prog 37 #[.string s] w fun e w' => e = .returned (.string (S (put s.data.toList))) ∧ Below w.heap.size w w' := by
  obtain ⟨n, hn⟩ : ∃ n, n = more 0 s.data.toList := ⟨_, rfl⟩
  have ho := of_any s hs w
  rw [← hn] at ho
  obtain ⟨f, hf⟩ : ∃ f, f = S (four n) := ⟨_, rfl⟩
  have h4 := fun w => four_any n w
  simp only [← hf] at h4
  have hfs : f.size = 4 := by rw [hf, S_size, four_len]
  have hsum : s ++ f = S (put s.data.toList) := by rw [hf, S_add, hn]; rfl
  have HS := hidm hsum
  have hl : ¬ 9223372036854775807 < s.size + f.size := by omega
  have hl' : f.size ≤ 4 := by omega
  clear hn hf hsum hfs
  go_enter Try.func37, Try.ntmps37
  go_wp2_with fail
  refine ho.mono ?_
  rintro e w1 ⟨rfl, hb⟩
  have HB1 := hidm hb
  clear hb ho
  go_wp2_with fail
  refine (h4 w1).mono ?_
  rintro e w2 ⟨rfl, hb⟩
  have HB2 := hidm (HB1.out.trans (hb.mono HB1.out.size))
  clear hb h4
  go_wp2_with fail
  go_ret
  exact ⟨congrArg (fun x => Ending.returned (.string x)) HS.out, HB2.out⟩
def fours (n k : Nat) : List UInt8 := (four n).take k
theorem fours_succ (n k : Nat) (h : k < 4) : fours n (k + 1) = fours n k ++ [UInt8.ofNat (n / 256 ^ k)] := by
  have : k = 0 ∨ k = 1 ∨ k = 2 ∨ k = 3 := by omega
  rcases this with rfl | rfl | rfl | rfl <;> simp [fours, four]
theorem cut_take (s : ByteArray) (k : Nat) : (s.extract 0 k).data.toList = s.data.toList.take k := by simp
theorem cut_drop (s : ByteArray) (k : Nat) : (s.extract k s.size).data.toList = s.data.toList.drop k := by
  simp only [ByteArray.data_extract, Array.toList_extract, List.extract_eq_take_drop]
  exact List.take_of_length_le (by simp)
theorem keep_b {w w1 w' : World} (h : Hid (Below w.heap.size w w1)) (hb : Below w1.heap.size w1 w') : Hid (Below w.heap.size w w') := hidm (h.out.trans (hb.mono h.out.size))
theorem beq_S (p s : ByteArray) : (p.toList == s.toList) = (p.data.toList == s.data.toList) := by rw [ByteArray.toList_eq, ByteArray.toList_eq]
theorem beq_no {p s : ByteArray} (h : ¬ p = s) : (p.toList == s.toList) = false := by
  rw [beq_S, beq_eq_false_iff_ne]
  intro e
  apply h
  rw [← S_of p, ← S_of s, e]
theorem beq_yes {p s : ByteArray} (h : p = s) : (p.toList == s.toList) = true := by rw [h]; simp
theorem len_eq (s : ByteArray) : s.data.toList.length = s.size := by simp
set_option maxHeartbeats 2000000 in
set_option maxRecDepth 100000 in
theorem take_any (s : ByteArray) (hs : s.size ≤ 1099511627776) (w : World) :
    Calls Try.prog 44 #[.string s] w fun e w' => e = .returned (.tuple #[.string (S (took s.data.toList)), .bool (good s.data.toList)]) ∧ Below w.heap.size w w' := by
  rcases Nat.lt_or_ge s.size 4 with h | h
  · have hg := good_short (l := s.data.toList) (by rw [len_eq]; exact h)
    have hi : (s.size : Int) < 4 := by omega
    have ht : took s.data.toList = [] := by unfold took; rw [if_neg (by rw [hg]; simp)]
    rw [hg, ht]
    clear hg ht
    go_enter Try.func44, Try.ntmps44
    go_wp2_with fail
    go_ret2
    exact ⟨rfl, Below.refl _ _⟩
  · have hi : ¬ (s.size : Int) < 4 := by omega
    obtain ⟨k, hk⟩ : ∃ k : Nat, s.size = k + 4 := ⟨s.size - 4, by omega⟩
    have hsub : (s.size : Int) - 4 = (k : Int) := by omega
    have hk0 : k ≤ s.size := by omega
    have hk1 : (k : Int) ≤ s.size := by omega
    obtain ⟨a, ha⟩ : ∃ a, a = s.extract 0 k := ⟨_, rfl⟩
    obtain ⟨d, hd⟩ : ∃ d, d = s.extract k s.size := ⟨_, rfl⟩
    have hal : a.size ≤ 1099511627776 := by rw [ha, ByteArray.size_extract]; omega
    have hat : a.data.toList = s.data.toList.take (s.data.toList.length - 4) := by rw [ha, cut_take, len_eq, hk]; rfl
    have hdt : d.data.toList = s.data.toList.drop (s.data.toList.length - 4) := by rw [hd, cut_drop, len_eq, hk]; rfl
    have hg : good s.data.toList = (d.data.toList == four (more 0 a.data.toList)) := by
      unfold good
      rw [← hat, ← hdt]
      simp only [len_eq, h, decide_true, Bool.true_and]
    obtain ⟨n, hn⟩ : ∃ n, n = more 0 a.data.toList := ⟨_, rfl⟩
    have hp := fun w => of_any a hal w
    rw [← hn] at hp hg
    obtain ⟨f, hf⟩ : ∃ f, f = S (four n) := ⟨_, rfl⟩
    have h4 := fun w => four_any n w
    rw [← hf] at h4
    have hbq : (d.toList == f.toList) = good s.data.toList := by rw [beq_S, hg, hf]
    have hcl := fun w => clone_any a w (by omega)
    have HA := hidm ha.symm
    have HD := hidm hd.symm
    have HN := hidm hk
    have ht : S (took s.data.toList) = if good s.data.toList then a else ⟨#[]⟩ := by
      unfold took
      split
      · rw [← hat, S_of]
      · rfl
    rw [ht]
    obtain ⟨g, hgg⟩ : ∃ g, g = good s.data.toList := ⟨_, rfl⟩
    rw [← hgg] at hbq ⊢
    clear ht hgg hn hf hg hat hdt hd ha hk
    go_enter Try.func44, Try.ntmps44
    go_wp2_with fail
    have hx1 : s.extract 0 k = a := HA.out
    have hx2 : s.extract k s.size = d := HD.out
    go_region_held3 (fun w' => Hid (Below w.heap.size w w'))
      (first | (exact keep_b (by assumption) hb) | (exact hidm (Below.refl _ _)) | (exact hidm (below_drewN (Below.refl _ _) 1)) | go_keep)
      (first | (go_at_call 66; (with_reducible refine (hp _).mono ?_); rintro e w' ⟨rfl, hb⟩) | (go_at_call 65; (with_reducible refine (h4 _).mono ?_); rintro e w' ⟨rfl, hb⟩))
    rename_i hS
    have HB := hidm hS.out
    clear hS hp h4 hbq hx2
    cases g with
    | false =>
      go_wp2_with fail
      go_ret2
      exact ⟨rfl, HB.out⟩
    | true =>
      go_wp2_with fail
      refine (hcl _).mono ?_
      rintro e w2 ⟨rfl, hb⟩
      have HB2 := hidm (HB.out.trans (hb.mono HB.out.size))
      clear hb hcl
      go_wp2_with fail
      go_ret2
      exact ⟨rfl, HB2.out⟩
end Crc
end Go.Proofs.Ytopmbhpjdmcabaa
