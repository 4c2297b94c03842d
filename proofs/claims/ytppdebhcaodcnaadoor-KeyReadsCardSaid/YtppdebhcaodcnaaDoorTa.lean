/- The contracts of the document's own Ints, Bytes, less (layer 1). Conditions: texts below 2^62, words below 2^64; less: canonical words. -/
import Derived.Test.YtppdebhcaodcnaaDoorRef
import Derived.Test.YtppdebhcaodcnaaDoorValC
import Derived.Deep.LoopGhost
namespace Go.Proofs.YtppdebhcaodcnaaDoor
open Go.RowKit
namespace Ref
theorem ints_any (a b : Int) (w : World) : Calls Tryd.prog 46 #[.int .i64 a, .int .i64 b] w fun e w' => e = .returned (.int .i64 (Val.cmpI a b)) ∧ w = w' := by
  rcases Int.lt_trichotomy a b with h | h | h
  · have e : Val.cmpI a b = -1 := by unfold Val.cmpI; rw [if_pos h]
    rw [e]; clear e
    go_enter Tryd.func46, Tryd.ntmps46
    go_wp2_with fail
    go_ret
    exact ⟨rfl, rfl⟩
  · have e : Val.cmpI a b = 0 := by unfold Val.cmpI; rw [if_neg (by omega), if_neg (by omega)]
    rw [e]; clear e
    subst h
    have h1 : ¬ a < a := by omega
    go_enter Tryd.func46, Tryd.ntmps46
    go_wp2_with fail
    go_ret
    exact ⟨rfl, rfl⟩
  · have e : Val.cmpI a b = 1 := by unfold Val.cmpI; rw [if_neg (by omega), if_pos h]
    have h1 : ¬ a < b := by omega
    rw [e]; clear e
    go_enter Tryd.func46, Tryd.ntmps46
    go_wp2_with fail
    go_ret
    exact ⟨rfl, rfl⟩
/-- Which text is ahead, plain. -/
def cmpL (A B : List UInt8) : Int := if Op.bytesLess A B = true then -1 else if A = B then 0 else 1
theorem cmpL_same (c : UInt8) (A B : List UInt8) : cmpL (c :: A) (c :: B) = cmpL A B := by
  unfold cmpL
  have h : Op.bytesLess (c :: A) (c :: B) = Op.bytesLess A B := by simp [Op.bytesLess]
  rw [h]; simp
theorem cmpL_less {c d : UInt8} (h : c < d) (A B : List UInt8) : cmpL (c :: A) (d :: B) = -1 := by
  unfold cmpL
  rw [if_pos (by simp [Op.bytesLess, h])]
theorem cmpL_more {c d : UInt8} (h : d < c) (A B : List UInt8) : cmpL (c :: A) (d :: B) = 1 := by
  unfold cmpL
  have h1 : ¬ c < d := by have := UInt8.lt_iff_toNat_lt.1 h; rw [UInt8.lt_iff_toNat_lt]; omega
  have h2 : ¬ c = d := fun e => by subst e; exact h1 h
  rw [if_neg (by simp [Op.bytesLess, h1, h2]), if_neg (by simp [h2])]
theorem cmpL_nil : cmpL [] [] = 0 := by unfold cmpL; simp [Op.bytesLess]
theorem cmpL_short (d : UInt8) (B : List UInt8) : cmpL [] (d :: B) = -1 := by unfold cmpL; simp [Op.bytesLess]
theorem cmpL_long (c : UInt8) (A : List UInt8) : cmpL (c :: A) [] = 1 := by unfold cmpL; simp [Op.bytesLess]
theorem drop_one (s : ByteArray) (p : Nat) (hp : p < s.size) : s.data.toList.drop p = s[p] :: s.data.toList.drop (p + 1) := by
  rw [List.drop_eq_getElem_cons (by simpa using hp)]; rfl
theorem drop_all (s : ByteArray) : s.data.toList.drop s.size = [] := List.drop_of_length_le (by simp)
set_option maxHeartbeats 2000000 in
theorem bytes_any (a b : ByteArray) (w : World) (ha : a.size < 4611686018427387904) (hb : b.size < 4611686018427387904) :
    Calls Tryd.prog 27 #[.string a, .string b] w fun e w' => e = .returned (.int .i64 (Val.cmpS a b)) ∧ Below w.heap.size w w' := by
  have hF : Val.cmpS a b = cmpL a.data.toList b.data.toList := by
    unfold Val.cmpS cmpL; rw [ByteArray.toList_eq, ByteArray.toList_eq]
  obtain ⟨F, hFF⟩ : ∃ F, F = Val.cmpS a b := ⟨_, rfl⟩
  rw [← hFF] at hF ⊢
  have HF := Lib.hid hF
  clear hF hFF
  go_enter Tryd.func27, Tryd.ntmps27
  go_wp2_with fail
  go_loopw [5] (fun ii wr => ∃ i : Nat, ii = .int .i64 i ∧ i ≤ a.size ∧ i ≤ b.size ∧ Hid (F = cmpL (a.data.toList.drop i) (b.data.toList.drop i)) ∧ Hid (Below w.heap.size w wr)) (fun ii _ => a.size - (intOf ii).toNat)
  case atStart => exact ⟨0, rfl, by omega, by omega, HF, Lib.hid (Below.refl _ _)⟩
  case round =>
    clear HF
    obtain ⟨i, rfl, hia, hib, HF, HB⟩ := hrel
    rcases Nat.eq_or_lt_of_le hia with h1 | h1
    · have f1 : ¬ (i : Int) < (a.size : Int) := by omega
      rcases Nat.eq_or_lt_of_le hib with h2 | h2
      · have e : F = 0 := by rw [HF.out]; conv => lhs; arg 1; rw [h1, drop_all]
                             conv => lhs; arg 2; rw [h2, drop_all]
                             exact cmpL_nil
        have f2 : ((a.size : Int) == (b.size : Int)) = true := by simp; omega
        subst e
        clear h1 h2
        go_wp2_with fail
        go_ret
        exact ⟨rfl, HB.out⟩
      · have e : F = -1 := by rw [HF.out]; conv => lhs; arg 1; rw [h1, drop_all]
                              rw [drop_one b i h2]; exact cmpL_short _ _
        have f2 : ((a.size : Int) == (b.size : Int)) = false := by simp; omega
        have f3 : (a.size : Int) < (b.size : Int) := by omega
        subst e
        clear h1 h2
        go_wp2_with fail
        go_ret
        exact ⟨rfl, HB.out⟩
    · have f1 : (i : Int) < (a.size : Int) := by omega
      rcases Nat.eq_or_lt_of_le hib with h2 | h2
      · have e : F = 1 := by rw [HF.out]; conv => lhs; arg 2; rw [h2, drop_all]
                             rw [drop_one a i h1]; exact cmpL_long _ _
        have f2 : ((a.size : Int) == (b.size : Int)) = false := by simp; omega
        have f3 : ¬ (a.size : Int) < (b.size : Int) := by omega
        have f4 : ¬ (i : Int) < (b.size : Int) := by omega
        subst e
        clear h1 h2
        go_wp2_with fail
        go_ret
        exact ⟨rfl, HB.out⟩
      · have f2 : (i : Int) < (b.size : Int) := by omega
        obtain ⟨c, hc⟩ : ∃ c : UInt8, a[i] = c := ⟨_, rfl⟩
        obtain ⟨d, hd⟩ : ∃ d : UInt8, b[i] = d := ⟨_, rfl⟩
        have hF := HF.out
        rw [drop_one a i h1, drop_one b i h2, hc, hd] at hF
        have k1 : ∀ n, (wr.drewN n).heap.size = wr.heap.size := fun _ => rfl
        rcases Nat.lt_trichotomy c.toNat d.toNat with hlt | heq | hgt
        · have e : F = -1 := by rw [hF]; exact cmpL_less (UInt8.lt_iff_toNat_lt.2 hlt) _ _
          have g1 : ((c.toNat : Int) == (d.toNat : Int)) = false := by simp; omega
          have g2 : (c.toNat : Int) < (d.toNat : Int) := by omega
          subst e
          clear hF HF k1
          go_wp2_with fail
          go_quiet (fail)
          go_wp2_with fail
          go_quiet (fail)
          go_wp2_with fail
          go_ret
          exact ⟨rfl, (below_drewN (below_drewN HB.out _) _)⟩
        · have e : c = d := UInt8.toNat_inj.1 heq
          subst e
          have HF2 : Hid (F = cmpL (a.data.toList.drop (i + 1)) (b.data.toList.drop (i + 1))) := Lib.hid (by rw [hF]; exact cmpL_same _ _ _)
          clear hF HF k1 heq
          go_wp2_with fail
          go_quiet (fail)
          go_wp2_with fail
          go_roundw
          case rel => exact ⟨i + 1, by go_num, by omega, by omega, HF2, Lib.hid (below_drewN HB.out _)⟩
          case measure => simp [intOf]; omega
        · have e : F = 1 := by rw [hF]; exact cmpL_more (UInt8.lt_iff_toNat_lt.2 hgt) _ _
          have g1 : ((c.toNat : Int) == (d.toNat : Int)) = false := by simp; omega
          have g2 : ¬ (c.toNat : Int) < (d.toNat : Int) := by omega
          subst e
          clear hF HF k1
          go_wp2_with fail
          go_quiet (fail)
          go_wp2_with fail
          go_quiet (fail)
          go_wp2_with fail
          go_ret
          exact ⟨rfl, (below_drewN (below_drewN HB.out _) _)⟩
end Ref
end Go.Proofs.YtppdebhcaodcnaaDoor
