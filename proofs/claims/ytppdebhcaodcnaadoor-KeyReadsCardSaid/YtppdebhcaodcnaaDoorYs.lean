/- The document's own bytes of a value and of a key (layer 4), with Bytes and Texts. Conditions: the values are right where one is asked for, their numbers fit their kinds; a key's slice holds at most a million values. -/
import Derived.Test.YtppdebhcaodcnaaDoorYr
import Derived.Test.YtppdebhcaodcnaaDoorTg
namespace Go.Proofs.YtppdebhcaodcnaaDoor
open Go.RowKit Cod
namespace Ky
theorem esc_snoc (l : List UInt8) (c : UInt8) : esc (l ++ [c]) = esc l ++ (if c = 0 then [0, 255] else [c]) := by
  induction l with
  | nil => by_cases h : c = 0 <;> simp [esc, h]
  | cons d l ih =>
    simp only [List.cons_append]
    unfold esc
    split <;> simp [ih]
theorem cut_one (T : ByteArray) (i : Nat) (h : i < T.size) : T.extract i (i + 1) = S [T[i]] := by
  have e := Lib.extract_toList T i (i + 1)
  rw [ByteArray.toList_eq] at e
  rw [← S_of (T.extract i (i + 1)), e]
  congr 1
  have hl : i < T.data.toList.length := by simpa using h
  rw [show i + 1 - i = 1 by omega, List.drop_eq_getElem_cons hl, List.take_succ_cons, List.take_zero, byte_get T i h]
set_option maxHeartbeats 4000000 in
set_option maxRecDepth 100000 in
theorem rone_text4 (T : ByteArray) (hs : T.size ≤ 4096) (w : World) :
    Calls Tryd.prog 43 #[.agg #[.int .i64 4, .int .i64 0, .int .u64 0, .string T]] w fun e w' => e = .returned (.string (S (one ⟨4, 0, 0, T.data.toList⟩))) ∧ Below w.heap.size w w' := by
  have E1 : ∀ (w0 : World) (H : Nat), H = w0.heap.size → (convert 55 9 (.slice (some ⟨H, 0, none⟩) 1 1)).run Tryd.prog (w0.alloc (.cells #[.int .u8 5] 5)) = .ok (.string (S [5])) (w0.alloc (.cells #[.int .u8 5] 5)) := fun w0 H hH => by
    subst hH; exact str_one 5 (by decide) w0 _ (Below.refl _ _)
  have e1 := E1 (w.alloc (.cells #[.int .i64 4, .int .i64 0, .int .u64 0, .string T] 25)) (w.heap.size + 1) (by simp)
  have HB0 := Lib.hid (((Below.refl w.heap.size w).alloc (Nat.le_refl _) (.cells #[.int .i64 4, .int .i64 0, .int .u64 0, .string T] 25)).alloc (by simp) (.cells #[.int .u8 5] 5))
  have HV0 := Lib.hid ((Ref.Vb.new w 4 0 0 T).past (.cells #[.int .u8 5] 5))
  clear E1
  go_enter Tryd.func43, Tryd.ntmps43
  go_wp2_with fail
  clear e1
  go_loopw [3, 4] (fun ss ii wr => ∃ (i : Nat) (A : ByteArray), ss = .string A ∧ ii = .int .i64 i ∧ i ≤ T.size ∧ A.size ≤ 1 + 2 * i ∧ Hid (A = S (5 :: esc (T.data.toList.take i))) ∧ Hid (Ref.Vb w.heap.size 4 0 0 T wr) ∧ Hid (Below w.heap.size w wr)) (fun _ ii _ => (T.size - (intOf ii).toNat))
  case atStart => exact ⟨0, S [5], rfl, rfl, by omega, by simp [S_size], Lib.hid (by simp [esc]), HV0, HB0⟩
  case round =>
    clear HV0 HB0
    obtain ⟨i, A, rfl, rfl, hi, hA, HA, HV, HB⟩ := hrel
    have k0 := HV.out.c0
    have k1 := HV.out.c1
    have k2 := HV.out.c2
    have k3 := HV.out.c3
    have n1 : ¬ 9223372036854775807 < A.size + 1 := by omega
    have n2 : ¬ 9223372036854775807 < A.size + 1 + 1 := by omega
    have n3 : ¬ 9223372036854775807 < A.size + 2 := by omega
    rcases Nat.eq_or_lt_of_le hi with h1 | h1
    · have f1 : ¬ (i : Int) < T.size := by omega
      have H1 := Lib.hid h1
      clear h1
      go_wp2_with fail
      go_ret
      refine ⟨congrArg (fun q => Ending.returned (.string q)) ?_, HB.out⟩
      have e : one ⟨4, 0, 0, T.data.toList⟩ = (5 :: esc T.data.toList) ++ [0, 1] := by simp [one, rest]
      rw [e, HA.out, H1.out, List.take_of_length_le (by simp)]
      exact S_append _ [0, 1]
    · have f1 : (i : Int) < T.size := by omega
      have f2 : (i : Int) + 1 ≤ T.size := by omega
      have f3 : i + 1 ≤ T.size := by omega
      have hc := cut_one T i h1
      have htk : Hid (esc (T.data.toList.take (i + 1)) = esc (T.data.toList.take i) ++ (if T[i] = 0 then [0, 255] else [T[i]])) := Lib.hid (by
        rw [List.take_succ_eq_append_getElem (by simpa using h1), esc_snoc, byte_get T i h1])
      obtain ⟨c, hcc⟩ : ∃ c, c = T[i] := ⟨_, rfl⟩
      obtain ⟨Q, hQ⟩ : ∃ Q, Q = S [T[i]] := ⟨_, rfl⟩
      have hQs : Q.size = 1 := by rw [hQ]; rfl
      rw [← hQ] at hc
      have HQ := Lib.hid hQ
      have HCC := Lib.hid hcc
      clear hcc hQ
      by_cases hz : T[i] = 0
      · have g : ((T[i].toNat : Int) == 0) = true := by rw [hz]; rfl
        have HZ := Lib.hid hz
        clear hz
        go_wp2_with fail
        go_roundw
        case rel => exact ⟨i + 1, A ++ Q ++ ⟨#[255]⟩, by rfl, by go_num, by omega, by rw [ByteArray.size_append, ByteArray.size_append, hQs]; show A.size + 1 + 1 ≤ _; omega, Lib.hid (by
          rw [htk.out, if_pos HZ.out, HA.out, HQ.out, HZ.out]
          have : (⟨#[255]⟩ : ByteArray) = S [255] := rfl
          rw [this, S_append, S_append]; simp), HV, HB⟩
        case measure => simp [intOf]; omega
      · have g : ((T[i].toNat : Int) == 0) = false := by
          rw [Bool.eq_false_iff]; intro q
          exact hz (UInt8.toNat_inj.1 (by have := eq_of_beq q; have e9 : (0 : UInt8).toNat = 0 := rfl; omega))
        have HZ := Lib.hid hz
        clear hz
        go_wp2_with fail
        go_roundw
        case rel => exact ⟨i + 1, A ++ Q, by rfl, by go_num, by omega, by rw [ByteArray.size_append, hQs]; omega, Lib.hid (by
          rw [htk.out, if_neg HZ.out, HA.out, HQ.out, S_append]; simp), HV, HB⟩
        case measure => simp [intOf]; omega
set_option maxHeartbeats 4000000 in
set_option maxRecDepth 100000 in
theorem rone_text5 (T : ByteArray) (hs : T.size ≤ 4096) (w : World) :
    Calls Tryd.prog 43 #[.agg #[.int .i64 5, .int .i64 0, .int .u64 0, .string T]] w fun e w' => e = .returned (.string (S (one ⟨5, 0, 0, T.data.toList⟩))) ∧ Below w.heap.size w w' := by
  have E1 : ∀ (w0 : World) (H : Nat), H = w0.heap.size → (convert 55 9 (.slice (some ⟨H, 0, none⟩) 1 1)).run Tryd.prog (w0.alloc (.cells #[.int .u8 6] 5)) = .ok (.string (S [6])) (w0.alloc (.cells #[.int .u8 6] 5)) := fun w0 H hH => by
    subst hH; exact str_one 6 (by decide) w0 _ (Below.refl _ _)
  have e1 := E1 (w.alloc (.cells #[.int .i64 5, .int .i64 0, .int .u64 0, .string T] 25)) (w.heap.size + 1) (by simp)
  have HB0 := Lib.hid (((Below.refl w.heap.size w).alloc (Nat.le_refl _) (.cells #[.int .i64 5, .int .i64 0, .int .u64 0, .string T] 25)).alloc (by simp) (.cells #[.int .u8 6] 5))
  have HV0 := Lib.hid ((Ref.Vb.new w 5 0 0 T).past (.cells #[.int .u8 6] 5))
  clear E1
  go_enter Tryd.func43, Tryd.ntmps43
  go_wp2_with fail
  clear e1
  go_loopw [3, 4] (fun ss ii wr => ∃ (i : Nat) (A : ByteArray), ss = .string A ∧ ii = .int .i64 i ∧ i ≤ T.size ∧ A.size ≤ 1 + 2 * i ∧ Hid (A = S (6 :: esc (T.data.toList.take i))) ∧ Hid (Ref.Vb w.heap.size 5 0 0 T wr) ∧ Hid (Below w.heap.size w wr)) (fun _ ii _ => (T.size - (intOf ii).toNat))
  case atStart => exact ⟨0, S [6], rfl, rfl, by omega, by simp [S_size], Lib.hid (by simp [esc]), HV0, HB0⟩
  case round =>
    clear HV0 HB0
    obtain ⟨i, A, rfl, rfl, hi, hA, HA, HV, HB⟩ := hrel
    have k0 := HV.out.c0
    have k1 := HV.out.c1
    have k2 := HV.out.c2
    have k3 := HV.out.c3
    have n1 : ¬ 9223372036854775807 < A.size + 1 := by omega
    have n2 : ¬ 9223372036854775807 < A.size + 1 + 1 := by omega
    have n3 : ¬ 9223372036854775807 < A.size + 2 := by omega
    rcases Nat.eq_or_lt_of_le hi with h1 | h1
    · have f1 : ¬ (i : Int) < T.size := by omega
      have H1 := Lib.hid h1
      clear h1
      go_wp2_with fail
      go_ret
      refine ⟨congrArg (fun q => Ending.returned (.string q)) ?_, HB.out⟩
      have e : one ⟨5, 0, 0, T.data.toList⟩ = (6 :: esc T.data.toList) ++ [0, 1] := by simp [one, rest]
      rw [e, HA.out, H1.out, List.take_of_length_le (by simp)]
      exact S_append _ [0, 1]
    · have f1 : (i : Int) < T.size := by omega
      have f2 : (i : Int) + 1 ≤ T.size := by omega
      have f3 : i + 1 ≤ T.size := by omega
      have hc := cut_one T i h1
      have htk : Hid (esc (T.data.toList.take (i + 1)) = esc (T.data.toList.take i) ++ (if T[i] = 0 then [0, 255] else [T[i]])) := Lib.hid (by
        rw [List.take_succ_eq_append_getElem (by simpa using h1), esc_snoc, byte_get T i h1])
      obtain ⟨c, hcc⟩ : ∃ c, c = T[i] := ⟨_, rfl⟩
      obtain ⟨Q, hQ⟩ : ∃ Q, Q = S [T[i]] := ⟨_, rfl⟩
      have hQs : Q.size = 1 := by rw [hQ]; rfl
      rw [← hQ] at hc
      have HQ := Lib.hid hQ
      have HCC := Lib.hid hcc
      clear hcc hQ
      by_cases hz : T[i] = 0
      · have g : ((T[i].toNat : Int) == 0) = true := by rw [hz]; rfl
        have HZ := Lib.hid hz
        clear hz
        go_wp2_with fail
        go_roundw
        case rel => exact ⟨i + 1, A ++ Q ++ ⟨#[255]⟩, by rfl, by go_num, by omega, by rw [ByteArray.size_append, ByteArray.size_append, hQs]; show A.size + 1 + 1 ≤ _; omega, Lib.hid (by
          rw [htk.out, if_pos HZ.out, HA.out, HQ.out, HZ.out]
          have : (⟨#[255]⟩ : ByteArray) = S [255] := rfl
          rw [this, S_append, S_append]; simp), HV, HB⟩
        case measure => simp [intOf]; omega
      · have g : ((T[i].toNat : Int) == 0) = false := by
          rw [Bool.eq_false_iff]; intro q
          exact hz (UInt8.toNat_inj.1 (by have := eq_of_beq q; have e9 : (0 : UInt8).toNat = 0 := rfl; omega))
        have HZ := Lib.hid hz
        clear hz
        go_wp2_with fail
        go_roundw
        case rel => exact ⟨i + 1, A ++ Q, by rfl, by go_num, by omega, by rw [ByteArray.size_append, hQs]; omega, Lib.hid (by
          rw [htk.out, if_neg HZ.out, HA.out, HQ.out, S_append]; simp), HV, HB⟩
        case measure => simp [intOf]; omega
end Ky
end Go.Proofs.YtppdebhcaodcnaaDoor
