/- What Parse finds of a right value's text, and of the three texts that 'known' holds: plain. Condition: the numbers fit their kinds. -/
import Derived.Test.YtppdebhcaodcnaaDoorSpec
namespace Go.Proofs.YtppdebhcaodcnaaDoor
open Go.RowKit
namespace Rd
theorem eqV_iff (k n b : Int) (s : ByteArray) (k' n' b' : Int) (s' : ByteArray) : Val.eqV k n b s k' n' b' s' = true ↔ k = k' ∧ n = n' ∧ b = b' ∧ s.data.toList = s'.data.toList := by
  unfold Val.eqV
  rw [ByteArray.toList_eq, ByteArray.toList_eq]
  simp
theorem right_shape {v : V} (h : right v = true) : v = ⟨0, 0, 0, []⟩ ∨ v = ⟨1, 0, 0, []⟩ ∨ v = ⟨1, 1, 0, []⟩ ∨ (∃ n, v = ⟨2, n, 0, []⟩) ∨ (∃ b, v = ⟨3, 0, b, []⟩ ∧ b = Flo.canon b) ∨ (∃ s, v = ⟨4, 0, 0, s⟩ ∧ s.length ≤ 4096) ∨ (∃ s, v = ⟨5, 0, 0, s⟩ ∧ s.length ≤ 4096) := by
  obtain ⟨k, n, b, s⟩ := v
  unfold right Val.rightB at h
  simp only at h
  split at h
  · rw [eqV_iff] at h
    obtain ⟨h1, h2, h3, h4⟩ := h
    have h3' : b = 0 := by omega
    have h4' : s = [] := h4
    subst h1 h2 h3' h4'
    exact Or.inl rfl
  · split at h
    · rw [Bool.and_eq_true, eqV_iff] at h
      obtain ⟨⟨h1, h2, h3, h4⟩, h5⟩ := h
      have h3' : b = 0 := by omega
      have h4' : s = [] := h4
      simp only [Bool.or_eq_true, beq_iff_eq] at h5
      subst h1 h3' h4'
      rcases h5 with rfl | rfl
      · exact Or.inr (Or.inl rfl)
      · exact Or.inr (Or.inr (Or.inl rfl))
    · split at h
      · rw [eqV_iff] at h
        obtain ⟨h1, h2, h3, h4⟩ := h
        have h3' : b = 0 := by omega
        have h4' : s = [] := h4
        subst h1 h3' h4'
        exact Or.inr (Or.inr (Or.inr (Or.inl ⟨n, rfl⟩)))
      · split at h
        · rw [eqV_iff] at h
          obtain ⟨h1, h2, h3, h4⟩ := h
          have h3' : b = Flo.canon b := by omega
          have h4' : s = [] := h4
          subst h1 h2 h4'
          exact Or.inr (Or.inr (Or.inr (Or.inr (Or.inl ⟨b, rfl, h3'⟩))))
        · split at h
          · rename_i hk
            rw [Bool.and_eq_true, eqV_iff] at h
            obtain ⟨⟨h1, h2, h3, h4⟩, h5⟩ := h
            have h3' : b = 0 := by omega
            have h5' : s.length ≤ 4096 := by
              have := of_decide_eq_true h5
              have e : (⟨s.toArray⟩ : ByteArray).size = s.length := by simp [ByteArray.size]
              rw [e] at this; omega
            subst h2 h3'
            rcases hk with rfl | rfl
            · exact Or.inr (Or.inr (Or.inr (Or.inr (Or.inr (Or.inl ⟨s, rfl, h5'⟩)))))
            · exact Or.inr (Or.inr (Or.inr (Or.inr (Or.inr (Or.inr ⟨s, rfl, h5'⟩)))))
          · cases h
theorem text_of {v : V} (h : right v = true) : text v = if v.k = 0 then [110, 117, 108, 108] else if v.k = 1 then Lib.formatBool (v.n == 1) else if v.k = 2 then Lib.itoa v.n else if v.k = 3 then Txt.showBits v.b else if v.k = 4 then Txt.showBytes v.s else Txt.showText v.s := by
  have h' : Val.rightB v.k v.n v.b ⟨v.s.toArray⟩ = true := h
  unfold text Val.showL
  rw [if_neg (by simp [h'])]
theorem getLast_snoc (l : List UInt8) (c : UInt8) : (l ++ [c]).getLast? = some c := by simp
theorem rd_text {v : V} (h : right v = true) (n0 : -9223372036854775808 ≤ v.n) (n1 : v.n ≤ 9223372036854775807) (vb : v.b < 18446744073709551616) : rd (text v) = some v := by
  rw [text_of h]
  rcases right_shape h with rfl | rfl | rfl | ⟨n, rfl⟩ | ⟨b, rfl, _⟩ | ⟨s, rfl, _⟩ | ⟨s, rfl, _⟩
  · rfl
  · rfl
  · rfl
  · show rd (Lib.itoa n) = _
    obtain ⟨c, r, e, h1, h2⟩ := itoa_head n
    have ha := atoi_itoa n n0 n1
    rw [e] at ha ⊢
    rw [rd.eq_def]
    have ne : ∀ (x : UInt8) (t : List UInt8), 57 < x.toNat → ¬ (c :: r = x :: t) := by
      intro x t hx hh
      injection hh with h3 _
      subst h3; omega
    have ne1 : ∀ x : UInt8, (57 < x.toNat ∨ x.toNat < 45) → ¬ c = x := by
      rintro x hx rfl; omega
    rw [if_neg (ne _ _ (by decide)), if_neg (ne _ _ (by decide)), if_neg (ne _ _ (by decide))]
    simp only
    rw [if_neg (ne1 _ (by decide)), if_neg (ne1 _ (by decide)), if_neg (fun x => ne1 34 (by decide) x.1), ha]
  · show rd (Txt.showBits b) = _
    unfold Txt.showBits Txt.bitsTo
    rw [rd.eq_def, if_neg (fun x => by injection x with h1 _; exact absurd h1 (by decide)), if_neg, if_neg (fun x => by injection x with h1 _; exact absurd h1 (by decide))]
    · simp only
      rw [if_pos trivial, rdBits b vb]
    · intro x
      have := congrArg List.length x
      simp [List.range, List.range.loop, Txt.hex2] at this
  · show rd (Txt.showBytes s) = _
    unfold Txt.showBytes Txt.bytesTo
    rw [List.take_length, rd.eq_def, if_neg (fun x => by injection x with h1 _; exact absurd h1 (by decide)), if_neg (fun x => by injection x with h1 _; exact absurd h1 (by decide)), if_neg (fun x => by injection x with h1 _; exact absurd h1 (by decide))]
    simp only
    rw [if_neg (by decide), if_pos trivial, rdBytes_show]
  · show rd (Txt.showText s) = _
    unfold Txt.showText Txt.textTo
    rw [List.take_length, rd.eq_def, if_neg (fun x => by injection x with h1 _; exact absurd h1 (by decide)), if_neg (fun x => by injection x with h1 _; exact absurd h1 (by decide)), if_neg (fun x => by injection x with h1 _; exact absurd h1 (by decide))]
    simp only [List.cons_append]
    rw [if_neg (by decide), if_neg (by decide), if_pos ⟨trivial, by simp, by rw [← List.cons_append]; exact getLast_snoc _ _⟩]
    have hin : inside (34 :: (s.flatMap Txt.letter ++ [34])) = s.flatMap Txt.letter := by
      unfold inside
      rw [List.drop_succ_cons, List.drop_zero]
      simp
    rw [hin, rdText_show _ _ (by rw [List.length_cons, List.length_append]; omega)]
theorem parse_text {v : V} (h : right v = true) (n0 : -9223372036854775808 ≤ v.n) (n1 : v.n ≤ 9223372036854775807) (vb : v.b < 18446744073709551616) : parse (text v) = some v := by
  unfold parse
  rw [rd_text h n0 n1 vb]
  simp only
  rw [if_pos ⟨h, trivial⟩]
theorem parse_sound {l : List UInt8} {v : V} (h : parse l = some v) : rd l = some v ∧ right v = true ∧ text v = l := by
  unfold parse at h
  split at h
  · cases h
  · rename_i u hu
    split at h
    · rename_i hc
      cases h
      exact ⟨hu, hc.1, hc.2⟩
    · cases h
theorem right2 (n : Int) : right ⟨2, n, 0, []⟩ = true := by
  unfold right Val.rightB
  simp only
  rw [if_neg (by decide), if_neg (by decide), if_pos trivial, eqV_iff]
  exact ⟨rfl, rfl, rfl, rfl⟩
theorem right3 (b : Nat) (h : Flo.canon b = b) : right ⟨3, 0, b, []⟩ = true := by
  unfold right Val.rightB
  simp only
  rw [if_neg (by decide), if_neg (by decide), if_neg (by decide), if_pos trivial, eqV_iff, h]
  exact ⟨rfl, rfl, rfl, rfl⟩
theorem right5 (s : List UInt8) (h : s.length ≤ 4096) : right ⟨5, 0, 0, s⟩ = true := by
  unfold right Val.rightB
  simp only
  rw [if_neg (by decide), if_neg (by decide), if_neg (by decide), if_neg (by decide), if_pos (Or.inr trivial), Bool.and_eq_true, eqV_iff]
  refine ⟨⟨rfl, rfl, rfl, rfl⟩, decide_eq_true ?_⟩
  have e : (⟨s.toArray⟩ : ByteArray).size = s.length := by simp [ByteArray.size]
  rw [e]; omega
theorem known1 : parse [34, 97, 92, 34, 98, 34] = some ⟨5, 0, 0, [97, 34, 98]⟩ := by
  have h : right ⟨5, 0, 0, [97, 34, 98]⟩ = true := right5 _ (by decide)
  have t : text ⟨5, 0, 0, [97, 34, 98]⟩ = [34, 97, 92, 34, 98, 34] := by
    rw [text_of h]
    show Txt.showText [97, 34, 98] = _
    decide
  rw [← t]
  exact parse_text h (by decide) (by decide) (by decide)
theorem known2 : parse [48, 49] = none := by
  have t : text ⟨2, 1, 0, []⟩ = [49] := by
    rw [text_of (right2 1)]
    show Lib.itoa 1 = _
    unfold Lib.itoa
    rw [if_neg (by decide)]
    show Lib.decDigits 1 = _
    rw [Lib.decDigits, dif_pos (by decide)]
    rfl
  have r : rd [48, 49] = some ⟨2, 1, 0, []⟩ := rfl
  unfold parse
  rw [r]
  simp only
  rw [t, if_neg (fun x => absurd x.2 (by decide))]
theorem known3 : parse [102, 55, 102, 102, 56, 48, 48, 48, 48, 48, 48, 48, 48, 48, 48, 48, 48] = some ⟨3, 0, 9221120237041090560, []⟩ := by
  have h : right ⟨3, 0, 9221120237041090560, []⟩ = true := right3 _ (by decide)
  have t : text ⟨3, 0, 9221120237041090560, []⟩ = [102, 55, 102, 102, 56, 48, 48, 48, 48, 48, 48, 48, 48, 48, 48, 48, 48] := by
    rw [text_of h]
    show Txt.showBits 9221120237041090560 = _
    decide
  rw [← t]
  exact parse_text h (by decide) (by decide) (by decide)
end Rd
end Go.Proofs.YtppdebhcaodcnaaDoor
