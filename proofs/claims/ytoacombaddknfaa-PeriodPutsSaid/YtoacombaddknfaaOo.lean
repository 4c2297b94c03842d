/- The law's build, given what the program's Put and Drop do (PutC, DropC). Condition: rows of values in their kinds. -/
import Derived.Test.YtoacombaddknfaaOn
namespace Go.Proofs.Ytoacombaddknfaa
open Go.RowKit
namespace Prd
open Spn (Sp hide At below_alloc Right rcut Has)
open Cod (V RowAt)
def PutC : Prop := ∀ (l : List Pm) (sl : Value) (w : World), PcsAt l sl w → Rows3 l w → Small l → l.length ≤ 400 → ∀ x0 : Pm, RowAt x0.r x0.sl w → x0.r.length ≤ 1000000 → (∀ v ∈ x0.r, v.inn) →
  Calls Try.prog 18 #[sl, .agg #[.int .i64 x0.s.1, .int .i64 x0.s.2], .slice x0.ro x0.r.length x0.rc] w fun e w' => ∃ (m : List Pm) (v : Value), e = .returned v ∧ PcsAt m v w' ∧ Rows3 m w' ∧ pcs m = putP (pcs l) x0.s x0.r ∧ Below w.heap.size w w'
def DropC : Prop := ∀ (l : List Pm) (sl : Value) (w : World), PcsAt l sl w → Rows3 l w → Small l → l.length ≤ 400 → ∀ a b : Int,
  Calls Try.prog 20 #[sl, .agg #[.int .i64 a, .int .i64 b]] w fun e w' => ∃ (m : List Pm) (v : Value), e = .returned v ∧ PcsAt m v w' ∧ Rows3 m w' ∧ pcs m = dropP (pcs l) (a, b) ∧ Below w.heap.size w w'
theorem drop_from {l : List (Sp × List V)} {s : Sp} {p : Sp × List V} (h : p ∈ dropP l s) : ∃ q, q ∈ l ∧ p.2 = q.2 := by
  unfold dropP at h
  split at h
  · obtain ⟨q, hq, _, e⟩ := mem_away.1 h
    exact ⟨q, hq, e⟩
  · exact ⟨p, h, rfl⟩
theorem put_from {l : List (Sp × List V)} {s : Sp} {r : List V} {p : Sp × List V} (h : p ∈ putP l s r) : p.2 = r ∨ ∃ q, q ∈ l ∧ p.2 = q.2 := by
  unfold putP at h
  split at h
  · rcases mem_lay.1 h with rfl | h
    · exact .inl rfl
    · obtain ⟨q, hq, _, e⟩ := mem_away.1 h
      exact .inr ⟨q, hq, e⟩
  · exact .inr ⟨p, h, rfl⟩
/-- Rows of a script's pieces are rows of the script's, and short. -/
theorem steps_rows {os : List Opv} : ∀ (k : Nat), k ≤ os.length → ∀ p, p ∈ steps [] (os.take k) → ∃ o, o ∈ os ∧ p.2 = o.x.r ∧ o.x.r.length ≤ 20 := by
  intro k
  induction k with
  | zero => intro _ p hp; simp [steps] at hp
  | succ k ih =>
    intro hk p hp
    have hk2 : k < os.length := by omega
    rw [steps_take hk2] at hp
    unfold step1 at hp
    split at hp
    · exact ih (by omega) p hp
    · next h20 =>
      split at hp
      · obtain ⟨q, hq, e⟩ := drop_from hp
        obtain ⟨o, ho, e2, e3⟩ := ih (by omega) q hq
        exact ⟨o, ho, e.trans e2, e3⟩
      · rcases put_from hp with e | ⟨q, hq, e⟩
        · exact ⟨os[k], List.getElem_mem hk2, e, by omega⟩
        · obtain ⟨o, ho, e2, e3⟩ := ih (by omega) q hq
          exact ⟨o, ho, e.trans e2, e3⟩
theorem steps_small {os : List Opv} (hi : ∀ o, o ∈ os → o.x.inn) {k : Nat} (hk : k ≤ os.length) (hk2 : k ≤ 30) {m : List Pm} (h : pcs m = steps [] (os.take k)) : m.length ≤ 60 ∧ Small m := by
  have h1 := (steps_right (os.take k) (l := []) ok_nil).2
  rw [← h, pcs_len, List.length_take] at h1
  have h2 : m.length ≤ 60 := by simp at h1; omega
  have key : ∀ x, x ∈ m → ∃ o, o ∈ os ∧ x.r = o.x.r ∧ o.x.r.length ≤ 20 := fun x hx => by
    have : x.pc ∈ pcs m := List.mem_map.2 ⟨x, hx, rfl⟩
    rw [h] at this
    exact steps_rows k hk _ this
  refine ⟨h2, by omega, fun x hx => ?_, fun x hx => ?_⟩
  · obtain ⟨o, _, e, h9⟩ := key x hx
    rw [e]; omega
  · obtain ⟨o, ho, e, _⟩ := key x hx
    rw [e]; exact (hi o ho).r
/-- What the script makes: of its first thirty steps. -/
noncomputable def made (os : List Opv) : List (Sp × List V) := steps [] (os.take 30)
set_option maxHeartbeats 8000000 in
set_option maxRecDepth 100000 in
theorem build_any (hP : PutC) (hD : DropC) {os : List Opv} {sv : Value} {w : World} (h : OpsAt os sv w) (hr : OpRows os w) (hi : ∀ o, o ∈ os → o.x.inn) :
    Calls Try.prog 28 #[sv] w fun e w' => ∃ (m : List Pm) (v : Value), e = .returned v ∧ PcsAt m v w' ∧ Rows3 m w' ∧ pcs m = made os ∧ m.length ≤ 60 ∧ Small m ∧ Below w.heap.size w w' := by
  obtain ⟨so, sc, rfl, _, hsm⟩ := h.form
  have HA := hide h
  have HR := hide hr
  have HI := hide hi
  have HP := hide hP
  have HD := hide hD
  obtain ⟨n, hn⟩ : ∃ n, n = os.length := ⟨_, rfl⟩
  have hnm : n ≤ 9223372036854775807 := by rw [hn]; omega
  rw [← hn]
  have HN := hide hn
  clear h hn hr hi hP hD hsm
  go_enter Try.func28, Try.ntmps28
  go_wp2_with fail
  go_loopw [3, 4] (fun lv ii wr => ∃ (i : Nat) (m : List Pm), ii = .int .i64 i ∧ i ≤ n ∧ i ≤ 30 ∧ Hid (PcsAt m lv wr) ∧ Hid (Rows3 m wr) ∧ Hid (Below w.heap.size w wr) ∧ Hid (pcs m = steps [] (os.take i))) (fun _ ii _ => (n - (intOf ii).toNat))
  case atStart => exact ⟨0, [], rfl, by omega, by omega, hide (Row3.nil 0 0 _).pieces, hide (Rows3.nil _), hide (Below.refl _ _), hide rfl⟩
  case round =>
    rename World => wr
    obtain ⟨i, m, rfl, hi, hi3, HM, HMR, HB, HPM⟩ := hrel
    have HSM := hide (steps_small HI.out (by rw [← HN.out]; exact hi) hi3 HPM.out)
    rcases Nat.lt_or_ge i n with hlt | hge
    · have g1 : (i : Int) < (n : Int) := by omega
      rcases Nat.lt_or_ge i 30 with hlt3 | hge3
      · have g2 : (i : Int) < 30 := by omega
        have hil : i < os.length := by rw [← HN.out]; exact hlt
        obtain ⟨b0, off, cap, he, hb0, k0, k1, k2, k3⟩ := (HA.out.later HB.out (Nat.le_refl _)).at i hil
        rw [← HN.out] at he
        simp only [Value.slice.injEq] at he
        obtain ⟨rfl, _, rfl⟩ := he
        obtain ⟨o, ho⟩ : ∃ o, o = os[i] := ⟨_, rfl⟩
        have HOM := hide (show o ∈ os from by rw [ho]; exact List.getElem_mem _)
        have HST := hide (show steps [] (os.take (i + 1)) = step1 (pcs m) o from by rw [steps_take hil, ← HPM.out, ho])
        rw [← ho] at k0 k1 k2 k3
        clear ho hb0
        by_cases h20 : 20 < o.x.r.length
        · have g3 : (20 : Int) < (o.x.r.length : Int) := by omega
          have HBA := hide (HB.out.trans ((below_alloc wr (.cells #[.bool o.d, .int .i64 o.x.s.1, .int .i64 o.x.s.2, .slice o.x.ro o.x.r.length o.x.rc] 27)).mono HB.out.size))
          have HMA := hide (HM.out.later (below_alloc wr (.cells #[.bool o.d, .int .i64 o.x.s.1, .int .i64 o.x.s.2, .slice o.x.ro o.x.r.length o.x.rc] 27)) (Nat.le_refl _))
          have HMRA := hide (HMR.out.later (below_alloc wr (.cells #[.bool o.d, .int .i64 o.x.s.1, .int .i64 o.x.s.2, .slice o.x.ro o.x.r.length o.x.rc] 27)))
          have HPM2 := hide (show pcs m = steps [] (os.take (i + 1)) from by rw [HST.out]; exact (if_pos h20).symm)
          go_wp2_with fail
          go_roundw
          case rel => exact ⟨i + 1, m, by go_num, by omega, by omega, HMA, HMRA, HBA, HPM2⟩
          case measure => simp [intOf]; omega
        · have g3 : ¬ (20 : Int) < (o.x.r.length : Int) := by omega
          have HOR := hide (HR.out o HOM.out)
          cases hd : o.d with
          | true =>
            rw [hd] at k0
            have HBA := hide (HB.out.trans ((below_alloc wr (.cells #[.bool true, .int .i64 o.x.s.1, .int .i64 o.x.s.2, .slice o.x.ro o.x.r.length o.x.rc] 27)).mono HB.out.size))
            have HMA := hide (HM.out.later (below_alloc wr (.cells #[.bool true, .int .i64 o.x.s.1, .int .i64 o.x.s.2, .slice o.x.ro o.x.r.length o.x.rc] 27)) (Nat.le_refl _))
            have HMRA := hide (HMR.out.later (below_alloc wr (.cells #[.bool true, .int .i64 o.x.s.1, .int .i64 o.x.s.2, .slice o.x.ro o.x.r.length o.x.rc] 27)))
            have C1 := hide (HD.out m u3 _ HMA.out HMRA.out HSM.out.2 (by have := HSM.out.1; omega) o.x.s.1 o.x.s.2)
            have HS2 := hide (show steps [] (os.take (i + 1)) = dropP (pcs m) (o.x.s.1, o.x.s.2) from by rw [HST.out]; unfold step1; rw [if_neg h20, if_pos hd])
            clear h20 hd
            go_wp2_with fail
            refine C1.out.mono ?_
            rintro e w3 ⟨m2, v2, rfl, hm2, hr2, hp2, hb⟩
            have HM2 := hide hm2
            have HR2 := hide hr2
            have HB2 := hide (HBA.out.trans (hb.mono HBA.out.size))
            have HPM2 := hide (show pcs m2 = steps [] (os.take (i + 1)) from by rw [hp2, HS2.out])
            clear hm2 hr2 hp2 hb C1
            go_wp2_with fail
            go_roundw
            case rel => exact ⟨i + 1, m2, by go_num, by omega, by omega, HM2, HR2, HB2, HPM2⟩
            case measure => simp [intOf]; omega
          | false =>
            rw [hd] at k0
            have HBA := hide (HB.out.trans ((below_alloc wr (.cells #[.bool false, .int .i64 o.x.s.1, .int .i64 o.x.s.2, .slice o.x.ro o.x.r.length o.x.rc] 27)).mono HB.out.size))
            have HMA := hide (HM.out.later (below_alloc wr (.cells #[.bool false, .int .i64 o.x.s.1, .int .i64 o.x.s.2, .slice o.x.ro o.x.r.length o.x.rc] 27)) (Nat.le_refl _))
            have HMRA := hide (HMR.out.later (below_alloc wr (.cells #[.bool false, .int .i64 o.x.s.1, .int .i64 o.x.s.2, .slice o.x.ro o.x.r.length o.x.rc] 27)))
            have C1 := hide (HP.out m u3 _ HMA.out HMRA.out HSM.out.2 (by have := HSM.out.1; omega) o.x (HOR.out.later HBA.out) (by omega) (HI.out o HOM.out).r)
            have HS2 := hide (show steps [] (os.take (i + 1)) = putP (pcs m) o.x.s o.x.r from by rw [HST.out]; unfold step1; rw [if_neg h20, if_neg (by rw [hd]; decide)])
            clear h20 hd
            go_wp2_with fail
            refine C1.out.mono ?_
            rintro e w3 ⟨m2, v2, rfl, hm2, hr2, hp2, hb⟩
            have HM2 := hide hm2
            have HR2 := hide hr2
            have HB2 := hide (HBA.out.trans (hb.mono HBA.out.size))
            have HPM2 := hide (show pcs m2 = steps [] (os.take (i + 1)) from by rw [hp2, HS2.out])
            clear hm2 hr2 hp2 hb C1
            go_wp2_with fail
            go_roundw
            case rel => exact ⟨i + 1, m2, by go_num, by omega, by omega, HM2, HR2, HB2, HPM2⟩
            case measure => simp [intOf]; omega
      · obtain rfl : i = 30 := by omega
        have g2 : ¬ ((30 : Nat) : Int) < 30 := by omega
        have HE := hide (show pcs m = made os from HPM.out)
        go_wp2_with fail
        go_ret
        exact ⟨m, _, rfl, HM.out, HMR.out, HE.out, HSM.out.1, HSM.out.2, HB.out⟩
    · obtain rfl : i = n := by omega
      have g1 : ¬ (i : Int) < (i : Int) := by omega
      have HE := hide (show pcs m = made os from by rw [HPM.out]; unfold made; rw [List.take_of_length_le (by rw [← HN.out]; exact Nat.le_refl _), List.take_of_length_le (by rw [← HN.out]; exact hi3)])
      go_wp2_with fail
      go_ret
      exact ⟨m, _, rfl, HM.out, HMR.out, HE.out, HSM.out.1, HSM.out.2, HB.out⟩
end Prd
end Go.Proofs.Ytoacombaddknfaa
