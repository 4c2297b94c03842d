/- The contract of Parse, whole. Conditions: the text takes at most 2^45 bytes; the listed variables read as the rows list them. -/
import Derived.Test.YtppdebhcaodcnaaDoorRi
namespace Go.Proofs.YtppdebhcaodcnaaDoor
open Go.RowKit
namespace Rd
theorem atoi_bd {l : List UInt8} {v : Int} (h : Lib.atoiAll l = .ok v) : -9223372036854775808 ≤ v ∧ v ≤ 9223372036854775807 := by
  unfold Lib.atoiAll at h
  split at h
  · cases h
  · simp only at h
    split at h
    · cases h
    · cases h
    · split at h
      · cases h
      · split at h
        · cases h
        · rename_i h1 h2
          simp only [Lib.NumEnd.ok.injEq] at h
          subst h
          split <;> omega
theorem rd_bd {l : List UInt8} {v : V} (h : rd l = some v) : (-9223372036854775808 ≤ v.n ∧ v.n ≤ 9223372036854775807) ∧ v.b < 18446744073709551616 := by
  rw [rd.eq_def] at h
  split at h
  · cases h; simp
  · split at h
    · cases h; simp
    · split at h
      · cases h; simp
      · split at h
        · cases h
        · split at h
          · split at h
            · rename_i x hx
              cases h
              refine ⟨by simp, ?_⟩
              unfold puAll at hx
              split at hx
              · cases hx
              · have := pu_le (by omega) hx
                show x < _
                omega
            · cases h
          · split at h
            · split at h
              · cases h; simp
              · cases h
            · split at h
              · split at h
                · cases h; simp
                · cases h
              · split at h
                · rename_i hx
                  cases h
                  exact ⟨atoi_bd hx, by simp⟩
                · cases h
theorem parse_any (s : ByteArray) (hmax : s.size ≤ 35184372088832) (w : World) (he : Val.Env w) :
    Calls Tryd.prog 12 #[.string s] w (ParseTo (parse s.data.toList) w) := by
  unfold parse
  cases h : rd s.data.toList with
  | none => exact parse_bad s hmax w he h
  | some v =>
    obtain ⟨⟨n0, n1⟩, vb⟩ := rd_bd h
    simp only
    cases hr : right v
    · rw [if_neg (by simp)]
      exact parse_wrong s hmax w he v h hr
    · by_cases ht : text v = s.data.toList
      · rw [if_pos ⟨rfl, ht⟩]
        exact parse_good s hmax w he v h hr n0 n1 vb ht
      · rw [if_neg (fun x => ht x.2)]
        exact parse_other s hmax w he v h hr n0 n1 vb ht
end Rd
end Go.Proofs.YtppdebhcaodcnaaDoor
