/- schema.isLetter, isDigit, Name, and the document's Name. Condition: a text is at most 2^48 bytes. -/
import Derived.Test.YtopmbhpjdmcabaaJa
import Derived.Test.YtopmbhpjdmcabaaCa
import Derived.Test.YtopmbhpjdmcabaaValA
import Derived.Laws.RangeString
import Derived.Laws.RangeAny
import Derived.Laws.Strings
namespace Go.Proofs.Ytopmbhpjdmcabaa
open Go.RowKit
namespace Sch
open Cod
def ltrI (c : Int) : Bool := decide (97 ≤ c) && decide (c ≤ 122) || c == 95
def dgtI (c : Int) : Bool := decide (48 ≤ c) && decide (c ≤ 57)
theorem ltrI_nat (c : UInt8) : ltrI (c.toNat : Int) = ltr c := by
  unfold ltrI ltr
  rw [Bool.eq_iff_iff]
  simp only [Bool.or_eq_true, Bool.and_eq_true, decide_eq_true_eq, beq_iff_eq]
  omega
theorem dgtI_nat (c : UInt8) : dgtI (c.toNat : Int) = dgt c := by
  unfold dgtI dgt
  rw [Bool.eq_iff_iff]
  simp only [Bool.and_eq_true, decide_eq_true_eq]
  omega
theorem ltrI_high {c : Int} (h : 128 ≤ c) : ltrI c = false ∧ dgtI c = false := by
  unfold ltrI dgtI
  constructor
  · rw [Bool.eq_false_iff]; simp only [ne_eq, Bool.or_eq_true, Bool.and_eq_true, decide_eq_true_eq, beq_iff_eq]; omega
  · rw [Bool.eq_false_iff]; simp only [ne_eq, Bool.and_eq_true, decide_eq_true_eq]; omega
theorem ltr_high {c : UInt8} (h : 128 ≤ c.toNat) : ltr c = false ∧ dgt c = false := by
  have := ltrI_high (c := (c.toNat : Int)) (by omega)
  rwa [ltrI_nat, dgtI_nat] at this
theorem isletter_any (c : Int) (w : World) : Calls Try.prog 55 #[.int .i32 c] w fun e w' => e = .returned (.bool (ltrI c)) ∧ w = w' := by
  go_enter Try.func55, Try.ntmps55
  go_wp2_with fail
  all_goals
    go_ret
    refine ⟨Val.ret_bool ?_, rfl⟩
    simp_all [ltrI]
    try omega
theorem isdigit_any (c : Int) (w : World) : Calls Try.prog 56 #[.int .i32 c] w fun e w' => e = .returned (.bool (dgtI c)) ∧ w = w' := by
  go_enter Try.func56, Try.ntmps56
  go_wp2_with fail
  all_goals
    go_ret
    refine ⟨Val.ret_bool ?_, rfl⟩
    simp_all [dgtI]
    try omega
theorem isletter_is {c : Int} {b : Bool} (h : ltrI c = b) (w : World) : Calls Try.prog 55 #[.int .i32 c] w fun e w' => e = .returned (.bool b) ∧ w = w' := h ▸ isletter_any c w
theorem isdigit_is {c : Int} {b : Bool} (h : dgtI c = b) (w : World) : Calls Try.prog 56 #[.int .i32 c] w fun e w' => e = .returned (.bool b) ∧ w = w' := h ▸ isdigit_any c w
theorem byte_at (s : ByteArray) (i : Nat) (h : i < s.size) : s.data.toList[i]'(by simpa using h) = s[i]'h := rfl
set_option maxHeartbeats 1000000 in
set_option maxRecDepth 100000 in
theorem name_any (s : ByteArray) (hs : s.size ≤ 281474976710656) (w : World) :
    Calls Try.prog 28 #[.string s] w fun e w' => e = .returned (.bool (nameB s.data.toList)) ∧ Below w.heap.size w w' := by
  have hsz : s.data.toList.length = s.size := Array.length_toList
  obtain ⟨F, hF⟩ : ∃ F, F = nameB s.data.toList := ⟨_, rfl⟩
  rw [← hF]
  have HF := hidm hF
  have HZ := hidm hsz
  clear hF hsz
  go_enter Try.func28, Try.ntmps28
  go_wp2_with fail
  go_loopw [] (fun w' => ∃ pos : Nat, Hid (w' = w.iter s pos) ∧ Hid (∀ j, j < pos → nmAt s.data.toList j = true)) (fun w' => s.size - w'.iterPos w.heap.size)
  case atStart => exact ⟨0, hidm rfl, hidm (fun j hj => by omega)⟩
  case round =>
    obtain ⟨pos, HW, HP⟩ := hrel
    obtain rfl := HW.out
    clear HW
    by_cases hp : pos < s.size
    · have hpl : pos < s.data.toList.length := by rw [HZ.out]; exact hp
      have hb := byte_at s pos hp
      have hat := nmAt_at hpl
      rw [hb] at hat
      rcases hm : nmAt s.data.toList pos with _ | _
      · -- no letter: false
        have hF : F = false := by rw [HF.out]; exact name_no hpl hm
        rw [hm] at hat
        have hat' := hat.symm
        rw [Bool.or_eq_false_iff, Bool.and_eq_false_iff] at hat'
        obtain ⟨r, q, hr, hl, hd⟩ : ∃ (r : Int) (q : Nat), (∀ ty, (Instr.next (.pointer (some ⟨w.heap.size, 0, none⟩)) true ty).run Try.prog (w.iter s pos) = .ok (.tuple #[.bool true, .int .i64 pos, .int .i32 r]) (w.iter s q)) ∧ ltrI r = false ∧ ((pos != 0) = false ∨ dgtI r = false) := by
          rcases Nat.lt_or_ge (s[pos]'hp).toNat 128 with ha | ha
          · exact ⟨_, _, fun ty => run_next_ascii w s pos ty hp ha, by rw [ltrI_nat]; exact hat'.1, by rw [dgtI_nat]; exact hat'.2⟩
          · have hh := (decode_high s pos hp ha).1
            exact ⟨_, _, fun ty => run_next_any w s pos ty hp, (ltrI_high (by omega)).1, .inr (ltrI_high (by omega)).2⟩
        have HL := hidm hl
        have HD := hidm hd
        have HFF := hidm hF
        clear hat hat' hm hb hl hd hF
        rcases Nat.eq_zero_or_pos pos with h0 | h0
        · subst h0
          go_wp2_with (first | (go_at_call 55; refine (isletter_is HL.out _).mono ?_; rintro e w1 ⟨rfl, rfl⟩))
          go_ret
          exact ⟨Val.ret_bool HFF.out.symm, (Below.refl _ _).alloc (Nat.le_refl _) _⟩
        · have h0' : ((pos : Int) == 0) = false := by simp; omega
          have hd2 : dgtI r = false := by
            rcases HD.out with h | h
            · simp at h; omega
            · exact h
          have HD2 := hidm hd2
          clear hd2
          go_wp2_with (first | (go_at_call 55; refine (isletter_is HL.out _).mono ?_; rintro e w1 ⟨rfl, rfl⟩) | (go_at_call 56; refine (isdigit_is HD2.out _).mono ?_; rintro e w1 ⟨rfl, rfl⟩))
          go_ret
          exact ⟨Val.ret_bool HFF.out.symm, (Below.refl _ _).alloc (Nat.le_refl _) _⟩
      · have ha : (s[pos]'hp).toNat < 128 := by
          rcases Nat.lt_or_ge (s[pos]'hp).toNat 128 with ha | ha
          · exact ha
          · have := ltr_high ha
            rw [hm, this.1, this.2] at hat
            simp at hat
        have hnx := fun ty => run_next_ascii (P := Try.prog) w s pos ty hp ha
        have HP2 := hidm (show ∀ j, j < pos + 1 → nmAt s.data.toList j = true from fun j hj => by
          rcases Nat.lt_or_ge j pos with h | h
          · exact HP.out j h
          · obtain rfl : j = pos := by omega
            exact hm)
        rw [hm] at hat
        rcases hl : ltrI ((s[pos]'hp).toNat : Int) with _ | _
        · have hl2 := hl
          rw [ltrI_nat] at hl2
          rw [hl2, Bool.false_or] at hat
          have hat' := hat.symm
          rw [Bool.and_eq_true] at hat'
          have h0' : ((pos : Int) == 0) = false := by have := hat'.1; simp at this; simp; omega
          have HD2 := hidm (show dgtI ((s[pos]'hp).toNat : Int) = true from by rw [dgtI_nat]; exact hat'.2)
          have HL := hidm hl
          clear hat hat' hm hb hl hl2 HP
          go_wp2_with (first | (go_at_call 55; refine (isletter_is HL.out _).mono ?_; rintro e w1 ⟨rfl, rfl⟩) | (go_at_call 56; refine (isdigit_is HD2.out _).mono ?_; rintro e w1 ⟨rfl, rfl⟩))
          go_roundw
          case rel => exact ⟨pos + 1, hidm rfl, HP2⟩
          case measure => simp; omega
        · have HL := hidm hl
          clear hat hm hb hl HP
          go_wp2_with (first | (go_at_call 55; refine (isletter_is HL.out _).mono ?_; rintro e w1 ⟨rfl, rfl⟩))
          go_roundw
          case rel => exact ⟨pos + 1, hidm rfl, HP2⟩
          case measure => simp; omega
    · have hnx := fun ty => run_next_end (P := Try.prog) w s pos ty hp
      have hF : F = (decide (1 ≤ s.size) && decide (s.size ≤ 32)) := by
        rw [HF.out, name_end (fun j hj => HP.out j (by rw [HZ.out] at hj; omega)), HZ.out]
      have HFF := hidm hF
      clear hF HP
      rcases Nat.eq_zero_or_pos s.size with h0 | h0
      · have hE : s = ⟨#[]⟩ := by
          apply ByteArray.ext; exact Array.size_eq_zero_iff.1 h0
        have hF2 : F = false := by rw [HFF.out, h0]; rfl
        have HF2 := hidm hF2
        clear HFF hF2 HF
        subst hE
        go_wp2_with fail
        go_ret
        exact ⟨Val.ret_bool HF2.out.symm, (Below.refl _ _).alloc (Nat.le_refl _) _⟩
      · have hne : s.toList ≠ [] := by
          rw [ByteArray.toList_eq]; intro h; have h2 := congrArg List.length h; rw [show s.data.toList.length = s.size from Array.length_toList, List.length_nil] at h2; omega
        have HF2 := hidm (show F = decide (s.size ≤ 32) from by rw [HFF.out, decide_eq_true (show 1 ≤ s.size from h0), Bool.true_and])
        go_wp2_with fail
        all_goals
          go_ret
          refine ⟨Val.ret_bool ?_, (Below.refl _ _).alloc (Nat.le_refl _) _⟩
          rw [HF2.out]
          have he : s.toList.isEmpty = false := by rw [List.isEmpty_eq_false_iff]; exact hne
          rw [he, Bool.not_false, Bool.true_and]
          exact decide_eq_decide.2 (by omega)
end Sch
end Go.Proofs.Ytopmbhpjdmcabaa
