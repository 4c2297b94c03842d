/- The document's own guess and Parse (layer 1), at every text. Condition: the text has at most 2^40 bytes. -/
import Derived.Test.YtppdebhcaodcnaaDoorTr
import Derived.Test.YtppdebhcaodcnaaDoorTi
import Derived.Test.YtppdebhcaodcnaaDoorTj
import Derived.Test.YtppdebhcaodcnaaDoorTk
namespace Go.Proofs.YtppdebhcaodcnaaDoor
open Go.RowKit
namespace Ref
theorem text_cases {v : Rd.V} (hr : Rd.right v = true) : (v = ⟨0, 0, 0, []⟩ ∧ Rd.text v = [110, 117, 108, 108]) ∨ (v = ⟨1, 0, 0, []⟩ ∧ Rd.text v = [102, 97, 108, 115, 101]) ∨ (v = ⟨1, 1, 0, []⟩ ∧ Rd.text v = [116, 114, 117, 101]) ∨ (∃ n, v = ⟨2, n, 0, []⟩ ∧ Rd.text v = Lib.itoa n) ∨
    (∃ b, v = ⟨3, 0, b, []⟩ ∧ Rd.text v = 102 :: lowhex b 16) ∨ (∃ l, v = ⟨4, 0, 0, l⟩ ∧ Rd.text v = 120 :: l.flatMap Txt.hex2) ∨ (∃ l, v = ⟨5, 0, 0, l⟩ ∧ Rd.text v = 34 :: (l.flatMap Txt.letter ++ [34])) := by
  have T := Rd.text_of hr
  rcases Rd.right_shape hr with rfl | rfl | rfl | ⟨n, rfl⟩ | ⟨b, rfl, _⟩ | ⟨l, rfl, _⟩ | ⟨l, rfl, _⟩
  · exact .inl ⟨rfl, T⟩
  · exact .inr (.inl ⟨rfl, T⟩)
  · exact .inr (.inr (.inl ⟨rfl, T⟩))
  · exact .inr (.inr (.inr (.inl ⟨n, rfl, T⟩)))
  · refine .inr (.inr (.inr (.inr (.inl ⟨b, rfl, ?_⟩))))
    have h := bits_low16 b
    have T2 : Rd.text ⟨3, 0, b, []⟩ = Txt.showBits b := T
    rw [T2]
    have := congrArg (fun q : ByteArray => q.data.toList) h
    exact this.symm
  · refine .inr (.inr (.inr (.inr (.inr (.inl ⟨l, rfl, ?_⟩)))))
    have T2 : Rd.text ⟨4, 0, 0, l⟩ = Txt.showBytes l := T
    rw [T2]; simp [Txt.showBytes, Txt.bytesTo]
  · refine .inr (.inr (.inr (.inr (.inr (.inr ⟨l, rfl, ?_⟩)))))
    have T2 : Rd.text ⟨5, 0, 0, l⟩ = Txt.showText l := T
    rw [T2]; simp [Txt.showText, Txt.textTo]
theorem head_is (s : ByteArray) (h0 : 0 < s.size) {c : UInt8} {r : List UInt8} (h : s.data.toList = c :: r) : s[0] = c := by
  obtain ⟨_, h2, _⟩ := Rd.list_of s h
  exact h2
theorem head_itoa (s : ByteArray) (h0 : 0 < s.size) {n : Int} (h : s.data.toList = Lib.itoa n) : 45 ≤ s[0].toNat ∧ s[0].toNat ≤ 57 := by
  obtain ⟨c, r, e, h1, h2⟩ := Rd.itoa_head n
  rw [e] at h
  rw [head_is s h0 h]; exact ⟨h1, h2⟩
theorem beq_list (s : ByteArray) (l : List UInt8) : (s.toList == l) = decide (s.data.toList = l) := by
  rw [ByteArray.toList_eq]
  by_cases h : s.data.toList = l <;> simp [h]
theorem u8_beq (c : UInt8) (k : Nat) : ((c.toNat : Int) == (k : Int)) = decide (c.toNat = k) := by
  by_cases h : c.toNat = k
  · simp [h]
  · have : ¬ (c.toNat : Int) = (k : Int) := by omega
    simp [h, this]
set_option maxRecDepth 100000 in
theorem guess_any (s : ByteArray) (w : World) (hs : s.size ≤ 1099511627776) (hne : s.data.toList ≠ []) : Calls Tryd.prog 38 #[.string s] w (Guess s w) := by
  have h0 : 0 < s.size := by
    rcases Nat.eq_zero_or_pos s.size with h | h
    · exact absurd (List.eq_nil_of_length_eq_zero (by simpa using h)) hne
    · exact h
  by_cases n1 : s.data.toList = [110, 117, 108, 108]
  · refine (guess_null s w (by rw [beq_list, decide_eq_true n1])).mono ?_
    rintro e w' ⟨rfl, hb⟩
    refine ⟨0, 0, 0, ⟨#[]⟩, rfl, ⟨by omega, by decide, fun v hr _ _ ht => ?_⟩, hb⟩
    rw [n1] at ht
    rcases text_cases hr with ⟨rfl, T⟩ | ⟨rfl, T⟩ | ⟨rfl, T⟩ | ⟨n, rfl, T⟩ | ⟨b, rfl, T⟩ | ⟨l, rfl, T⟩ | ⟨l, rfl, T⟩
    · rfl
    · rw [T] at ht; cases ht
    · rw [T] at ht; cases ht
    · rw [← n1] at ht
      have := head_itoa s h0 (ht.symm.trans T)
      rw [head_is s h0 n1] at this
      exact absurd this (by decide)
    · rw [T] at ht; cases ht
    · rw [T] at ht; cases ht
    · rw [T] at ht; cases ht
  by_cases n2 : s.data.toList = [116, 114, 117, 101]
  · refine (guess_true s w (by rw [beq_list, decide_eq_false n1]) (by rw [beq_list, decide_eq_true n2])).mono ?_
    rintro e w' ⟨rfl, hb⟩
    refine ⟨1, 1, 0, ⟨#[]⟩, rfl, ⟨by omega, by decide, fun v hr _ _ ht => ?_⟩, hb⟩
    rw [n2] at ht
    rcases text_cases hr with ⟨rfl, T⟩ | ⟨rfl, T⟩ | ⟨rfl, T⟩ | ⟨n, rfl, T⟩ | ⟨b, rfl, T⟩ | ⟨l, rfl, T⟩ | ⟨l, rfl, T⟩
    · rw [T] at ht; cases ht
    · rw [T] at ht; cases ht
    · rfl
    · rw [← n2] at ht
      have := head_itoa s h0 (ht.symm.trans T)
      rw [head_is s h0 n2] at this
      exact absurd this (by decide)
    · rw [T] at ht; cases ht
    · rw [T] at ht; cases ht
    · rw [T] at ht; cases ht
  by_cases n3 : s.data.toList = [102, 97, 108, 115, 101]
  · refine (guess_false s w (by rw [beq_list, decide_eq_false n1]) (by rw [beq_list, decide_eq_false n2]) (by rw [beq_list, decide_eq_true n3])).mono ?_
    rintro e w' ⟨rfl, hb⟩
    refine ⟨1, 0, 0, ⟨#[]⟩, rfl, ⟨by omega, by decide, fun v hr _ _ ht => ?_⟩, hb⟩
    rw [n3] at ht
    rcases text_cases hr with ⟨rfl, T⟩ | ⟨rfl, T⟩ | ⟨rfl, T⟩ | ⟨n, rfl, T⟩ | ⟨b, rfl, T⟩ | ⟨l, rfl, T⟩ | ⟨l, rfl, T⟩
    · rw [T] at ht; cases ht
    · rfl
    · rw [T] at ht; cases ht
    · rw [← n3] at ht
      have := head_itoa s h0 (ht.symm.trans T)
      rw [head_is s h0 n3] at this
      exact absurd this (by decide)
    · exfalso
      rw [T] at ht
      have := congrArg List.length ht
      rw [List.length_cons, lowhex_len] at this
      cases this
    · rw [T] at ht; cases ht
    · rw [T] at ht; cases ht
  have a1 : (s.toList == [110, 117, 108, 108]) = false := by rw [beq_list, decide_eq_false n1]
  have a2 : (s.toList == [116, 114, 117, 101]) = false := by rw [beq_list, decide_eq_false n2]
  have a3 : (s.toList == [102, 97, 108, 115, 101]) = false := by rw [beq_list, decide_eq_false n3]
  by_cases c0 : s[0].toNat = 102
  · refine (guess_f s w h0 hs a1 a2 a3 ((u8_beq _ 102).trans (decide_eq_true c0))).mono ?_
    rintro e w' ⟨x, rfl, ⟨hx, hv⟩, hb⟩
    refine ⟨3, 0, x, ⟨#[]⟩, rfl, ⟨by omega, hx, fun v hr _ vb ht => ?_⟩, hb⟩
    rcases text_cases hr with ⟨rfl, T⟩ | ⟨rfl, T⟩ | ⟨rfl, T⟩ | ⟨n, rfl, T⟩ | ⟨b, rfl, T⟩ | ⟨l, rfl, T⟩ | ⟨l, rfl, T⟩
    · exact absurd (ht.symm.trans T) n1
    · exact absurd (ht.symm.trans T) n3
    · exact absurd (ht.symm.trans T) n2
    · have := head_itoa s h0 (ht.symm.trans T); omega
    · rw [hv b vb (ht.symm.trans T)]
    · have := head_is s h0 (ht.symm.trans T); rw [this] at c0; exact absurd c0 (by decide)
    · have := head_is s h0 (ht.symm.trans T); rw [this] at c0; exact absurd c0 (by decide)
  have d0 : ((s[0].toNat : Int) == 102) = false := (u8_beq _ 102).trans (decide_eq_false c0)
  by_cases c1 : s[0].toNat = 120
  · refine (guess_x s w h0 hs a1 a2 a3 d0 ((u8_beq _ 120).trans (decide_eq_true c1))).mono ?_
    rintro e w' ⟨t, rfl, hv, hb⟩
    refine ⟨4, 0, 0, Cod.S t, rfl, ⟨by omega, by decide, fun v hr _ _ ht => ?_⟩, hb⟩
    rcases text_cases hr with ⟨rfl, T⟩ | ⟨rfl, T⟩ | ⟨rfl, T⟩ | ⟨n, rfl, T⟩ | ⟨b, rfl, T⟩ | ⟨l, rfl, T⟩ | ⟨l, rfl, T⟩
    · exact absurd (ht.symm.trans T) n1
    · exact absurd (ht.symm.trans T) n3
    · exact absurd (ht.symm.trans T) n2
    · have := head_itoa s h0 (ht.symm.trans T); omega
    · have := head_is s h0 (ht.symm.trans T); rw [this] at c1; exact absurd c1 (by decide)
    · rw [hv l (ht.symm.trans T)]
    · have := head_is s h0 (ht.symm.trans T); rw [this] at c1; exact absurd c1 (by decide)
  have d1 : ((s[0].toNat : Int) == 120) = false := (u8_beq _ 120).trans (decide_eq_false c1)
  by_cases c2 : s[0].toNat = 34
  · refine (guess_q s w h0 hs a1 a2 a3 d0 d1 ((u8_beq _ 34).trans (decide_eq_true c2))).mono ?_
    rintro e w' ⟨t, rfl, hv, hb⟩
    refine ⟨5, 0, 0, Cod.S t, rfl, ⟨by omega, by decide, fun v hr _ _ ht => ?_⟩, hb⟩
    rcases text_cases hr with ⟨rfl, T⟩ | ⟨rfl, T⟩ | ⟨rfl, T⟩ | ⟨n, rfl, T⟩ | ⟨b, rfl, T⟩ | ⟨l, rfl, T⟩ | ⟨l, rfl, T⟩
    · exact absurd (ht.symm.trans T) n1
    · exact absurd (ht.symm.trans T) n3
    · exact absurd (ht.symm.trans T) n2
    · have := head_itoa s h0 (ht.symm.trans T); omega
    · have := head_is s h0 (ht.symm.trans T); rw [this] at c2; exact absurd c2 (by decide)
    · have := head_is s h0 (ht.symm.trans T); rw [this] at c2; exact absurd c2 (by decide)
    · rw [hv l (ht.symm.trans T)]
  have d2 : ((s[0].toNat : Int) == 34) = false := (u8_beq _ 34).trans (decide_eq_false c2)
  by_cases c3 : s[0].toNat = 45
  · refine (guess_neg s w h0 hs a1 a2 a3 d0 d1 d2 ((u8_beq _ 45).trans (decide_eq_true c3))).mono ?_
    rintro e w' ⟨x, rfl, ⟨hx, hv⟩, hb⟩
    refine ⟨2, x, 0, ⟨#[]⟩, rfl, ⟨hx, by decide, fun v hr vn _ ht => ?_⟩, hb⟩
    rcases text_cases hr with ⟨rfl, T⟩ | ⟨rfl, T⟩ | ⟨rfl, T⟩ | ⟨n, rfl, T⟩ | ⟨b, rfl, T⟩ | ⟨l, rfl, T⟩ | ⟨l, rfl, T⟩
    · exact absurd (ht.symm.trans T) n1
    · exact absurd (ht.symm.trans T) n3
    · exact absurd (ht.symm.trans T) n2
    · have e := ht.symm.trans T
      dsimp only at vn
      unfold Lib.itoa at e
      by_cases hn : n < 0
      · rw [if_pos hn] at e
        have := hv _ (by omega) e
        have h2 : x = n := by omega
        rw [h2]
      · exfalso
        rw [if_neg hn] at e
        obtain ⟨c, r, e2, hc1, hc2⟩ := Rd.dec_head n.toNat
        rw [e2] at e
        have := head_is s h0 e
        rw [this] at c3; omega
    · have := head_is s h0 (ht.symm.trans T); rw [this] at c0; exact absurd rfl c0
    · have := head_is s h0 (ht.symm.trans T); rw [this] at c1; exact absurd rfl c1
    · have := head_is s h0 (ht.symm.trans T); rw [this] at c2; exact absurd rfl c2
  have d3 : ((s[0].toNat : Int) == 45) = false := (u8_beq _ 45).trans (decide_eq_false c3)
  · refine (guess_pos s w h0 hs a1 a2 a3 d0 d1 d2 d3).mono ?_
    rintro e w' ⟨x, rfl, ⟨hx, hv⟩, hb⟩
    refine ⟨2, x, 0, ⟨#[]⟩, rfl, ⟨hx, by decide, fun v hr vn _ ht => ?_⟩, hb⟩
    rcases text_cases hr with ⟨rfl, T⟩ | ⟨rfl, T⟩ | ⟨rfl, T⟩ | ⟨n, rfl, T⟩ | ⟨b, rfl, T⟩ | ⟨l, rfl, T⟩ | ⟨l, rfl, T⟩
    · exact absurd (ht.symm.trans T) n1
    · exact absurd (ht.symm.trans T) n3
    · exact absurd (ht.symm.trans T) n2
    · have e := ht.symm.trans T
      dsimp only at vn
      unfold Lib.itoa at e
      by_cases hn : n < 0
      · exfalso
        rw [if_pos hn] at e
        have := head_is s h0 e
        rw [this] at c3; exact absurd rfl c3
      · rw [if_neg hn] at e
        have := hv _ (by omega) e
        have h2 : x = n := by omega
        rw [h2]
    · have := head_is s h0 (ht.symm.trans T); rw [this] at c0; exact absurd rfl c0
    · have := head_is s h0 (ht.symm.trans T); rw [this] at c1; exact absurd rfl c1
    · have := head_is s h0 (ht.symm.trans T); rw [this] at c2; exact absurd rfl c2
theorem parse_any (s : ByteArray) (hs : s.size ≤ 1099511627776) (w : World) : Calls Tryd.prog 13 #[.string s] w (Parses s w) := by
  by_cases hne : s.data.toList = []
  · have e : s = ⟨#[]⟩ := by rw [← eta s, hne]
    subst e
    refine (parse_empty w).mono ?_
    rintro e w' ⟨rfl, hb⟩
    have hp : Rd.parse (⟨#[]⟩ : ByteArray).data.toList = none := by
      cases h : Rd.parse (⟨#[]⟩ : ByteArray).data.toList with
      | none => rfl
      | some v =>
        obtain ⟨_, h2, h3⟩ := Rd.parse_sound h
        rcases text_cases h2 with ⟨rfl, T⟩ | ⟨rfl, T⟩ | ⟨rfl, T⟩ | ⟨n, rfl, T⟩ | ⟨b, rfl, T⟩ | ⟨l, rfl, T⟩ | ⟨l, rfl, T⟩
        · rw [T] at h3; cases h3
        · rw [T] at h3; cases h3
        · rw [T] at h3; cases h3
        · obtain ⟨c, r, e, _⟩ := Rd.itoa_head n
          rw [T, e] at h3; cases h3
        · rw [T] at h3; cases h3
        · rw [T] at h3; cases h3
        · rw [T] at h3; cases h3
    refine ⟨?_, hb⟩
    rw [hp]
  · exact parse_of s w (fun u => guess_any s u hs hne) hne
end Ref
end Go.Proofs.YtppdebhcaodcnaaDoor
