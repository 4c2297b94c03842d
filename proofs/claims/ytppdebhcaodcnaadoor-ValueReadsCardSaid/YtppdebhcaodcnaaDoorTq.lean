/- The document's own bytes (layer 1): at a quote. Conditions: the text has at most 2^40 bytes and begins so. -/
import Derived.Test.YtppdebhcaodcnaaDoorTp
namespace Go.Proofs.YtppdebhcaodcnaaDoor
open Go.RowKit
namespace Ref
theorem letter_next (s : ByteArray) (L : List UInt8) (e : s.data.toList = 34 :: (L.flatMap Txt.letter ++ [34])) (j i : Nat) (hi : i = 1 + ((L.take j).flatMap Txt.letter).length) (h1 : i + 1 < s.size) (h0 : i < s.size) :
    ∃ h : j < L.length, (s[i] ≠ 92 → L[j] = s[i] ∧ (Txt.letter L[j]).length = 1) ∧ (s[i] = 92 → s[i + 1] ≠ 120 → L[j] = s[i + 1] ∧ (Txt.letter L[j]).length = 2) ∧
      (s[i] = 92 → s[i + 1] = 120 → ∃ h3 : i + 3 < s.size, ∃ h2 : i + 2 < s.size, s[i + 2] = Txt.hexd (L[j].toNat / 16) ∧ s[i + 3] = Txt.hexd (L[j].toNat % 16) ∧ (Txt.letter L[j]).length = 4) := by
  have hD : s.data.toList.drop i = (L.drop j).flatMap Txt.letter ++ [34] := by
    rw [e, hi, Nat.add_comm 1, List.drop_succ_cons]
    conv => lhs; rw [← List.take_append_drop j L, List.flatMap_append, List.append_assoc]
    rw [List.drop_left' (by simp)]
  have hS : s.size = s.data.toList.length := by simp
  have hlen : s.size - i = ((L.drop j).flatMap Txt.letter).length + 1 := by
    have := congrArg List.length hD
    rw [List.length_drop, ← hS] at this
    rw [this, List.length_append]; rfl
  have hjl : j < L.length := by
    rcases Nat.lt_or_ge j L.length with h | h
    · exact h
    · rw [List.drop_of_length_le h] at hlen; simp at hlen; omega
  have at_ : ∀ k (hk : i + k < s.size), ((L.drop j).flatMap Txt.letter ++ [34])[k]? = some s[i + k] := by
    intro k hk
    rw [← hD, List.getElem?_drop]
    exact byte_at s (i + k) hk
  refine ⟨hjl, ?_⟩
  rw [List.drop_eq_getElem_cons hjl] at at_ hlen
  generalize L[j] = c at *
  obtain ⟨T, hT⟩ : ∃ T, T = (L.drop (j + 1)).flatMap Txt.letter := ⟨_, rfl⟩
  rw [List.flatMap_cons, ← hT] at at_ hlen
  rw [List.length_append] at hlen
  have a0 := at_ 0 h0
  have a1 := at_ 1 h1
  have r0 : s[i + 0]'h0 = s[i] := rfl
  rw [r0] at a0
  unfold Txt.letter at a0 a1 hlen at_ ⊢
  by_cases hA : c = 34 ∨ c = 92
  · rw [if_pos hA] at a0 a1 hlen ⊢
    have b0 : (92 : UInt8) = s[i] := by simpa using a0
    have b1 : c = s[i + 1] := by simpa using a1
    refine ⟨fun h => absurd b0.symm h, fun _ _ => ⟨b1, rfl⟩, fun _ h => ?_⟩
    rw [← b1] at h
    subst h
    exact absurd hA (by decide)
  · rw [if_neg hA] at a0 a1 hlen ⊢
    by_cases hB : c < 32 ∨ 126 < c
    · rw [if_pos hB] at a0 a1 hlen ⊢
      rw [if_neg hA, if_pos hB] at at_
      have b0 : (92 : UInt8) = s[i] := by simpa using a0
      have b1 : (120 : UInt8) = s[i + 1] := by simpa using a1
      have hl4 : i + 4 ≤ s.size := by simp [Txt.hex2] at hlen; omega
      have a2 := at_ 2 (by omega)
      have a3 := at_ 3 (by omega)
      refine ⟨fun h => absurd b0.symm h, fun _ h => absurd b1.symm h, fun _ _ => ⟨by omega, by omega, ?_, ?_, rfl⟩⟩
      · simpa [Txt.hex2] using a2.symm
      · simpa [Txt.hex2] using a3.symm
    · rw [if_neg hB] at a0 a1 hlen ⊢
      have b0 : c = s[i] := by simpa using a0
      refine ⟨fun _ => ⟨b0, rfl⟩, fun h => ?_, fun h => ?_⟩ <;> (rw [← b0] at h; exact absurd (Or.inr h) hA)
theorem letter_step {L l : List UInt8} {i n : Nat} {c : UInt8} (h : l.length < L.length) (hl : l = L.take l.length) (hi : i = 1 + ((L.take l.length).flatMap Txt.letter).length) (hc : L[l.length] = c) (hn : (Txt.letter L[l.length]).length = n) :
    l ++ [c] = L.take (l ++ [c]).length ∧ i + n = 1 + ((L.take (l ++ [c]).length).flatMap Txt.letter).length := by
  have e : L.take (l ++ [c]).length = L.take l.length ++ [c] := by rw [List.length_append, List.length_singleton, List.take_succ_eq_append_getElem h, hc]
  rw [e]
  refine ⟨by rw [← hl], ?_⟩
  rw [List.flatMap_append, List.length_append, hi]
  simp only [List.flatMap_cons, List.flatMap_nil, List.append_nil]
  rw [← hc, hn]
  omega
theorem letter_more (L : List UInt8) (j : Nat) (h : j < L.length) : ((L.take j).flatMap Txt.letter).length + 1 ≤ (L.flatMap Txt.letter).length := by
  conv => rhs; rw [← List.take_append_drop j L, List.flatMap_append, List.length_append, List.drop_eq_getElem_cons h, List.flatMap_cons, List.length_append]
  have : 1 ≤ (Txt.letter L[j]).length := by unfold Txt.letter; split; simp; split <;> simp
  omega
set_option maxHeartbeats 4000000 in
set_option maxRecDepth 100000 in
theorem bytes_q (s : ByteArray) (w : World) (h0 : 0 < s.size) (hs : s.size ≤ 1099511627776) (c0 : ((s[0].toNat : Int) == 120) = false) :
    Calls Tryd.prog 68 #[.string s] w fun e w' => ∃ t : List UInt8, e = .returned (.agg #[.int .i64 5, .int .i64 0, .int .u64 0, .string (Cod.S t)]) ∧ (∀ L : List UInt8, s.data.toList = 34 :: (L.flatMap Txt.letter ++ [34]) → t = L) ∧ Below w.heap.size w w' := by
  obtain ⟨i0, hi0, hz0, hz1, hz2⟩ := info_parts (P := Tryd.prog) (e := 5) (z := .int .u8 0) (size := 1) (bytes := 1) (by kernel_rfl)
  have H0 := Lib.hid (Bst.start w)
  have hpos : (0 : Int) < s.size := by omega
  go_enter Tryd.func68, Tryd.ntmps68
  go_wp2_with fail
  go_loopw [3, 5] (fun v ii wr => ∃ (i : Nat) (l : List UInt8), ii = .int .i64 i ∧ i ≤ s.size ∧ l.length ≤ i ∧ Hid (∀ L : List UInt8, s.data.toList = 34 :: (L.flatMap Txt.letter ++ [34]) → l = L.take l.length ∧ i = 1 + ((L.take l.length).flatMap Txt.letter).length) ∧ Hid (Bst w l v wr)) (fun _ ii _ => (s.size - intOf ii).toNat)
  case atStart => exact ⟨1, [], rfl, by omega, by simp, Lib.hid (fun L _ => by simp), H0⟩
  case round =>
    clear H0
    obtain ⟨i, l, rfl, his, hli, HL, HG⟩ := hrel
    rcases Nat.lt_or_ge (i + 1) s.size with h1 | h1
    · have f1 : (i : Int) + 1 < (s.size : Int) := by omega
      have hiz : i < s.size := by omega
      have hw1 : IntKind.i64.wrap ((i : Int) + 1) = (i : Int) + 1 := by rw [IntKind.wrap_i64]; omega
      have hw5 : (0 : Int) ≤ (i : Int) + 1 := by omega
      have hw6 : ((i : Int) + 1).toNat = i + 1 := by omega
      by_cases hq : s[i] = 92
      · have g1 : ((s[i].toNat : Int) != 92) = false := by rw [hq]; rfl
        have HQ := Lib.hid hq
        clear hq
        by_cases hq2 : s[i + 1] = 120
        · have g2 : ((s[i + 1].toNat : Int) == 120) = true := by rw [hq2]; rfl
          have HQ2 := Lib.hid hq2
          clear hq2
          rcases Nat.lt_or_ge (i + 3) s.size with h3 | h3
          · have f3 : (i : Int) + 3 < (s.size : Int) := by omega
            obtain ⟨r1, hr1, hd1, hdig1⟩ := digit_is s[i + 2]
            obtain ⟨r2, hr2, hd2, hdig2⟩ := digit_is s[i + 3]
            have HD1 := Lib.hid hd1
            have HD2 := Lib.hid hd2
            have HXC : Hid (16 * (r1 : Int) + r2 = (((16 * r1 + r2 : Nat)).toUInt8.toNat : Int)) := Lib.hid (by show _ = ((((16 * r1 + r2) % 256 : Nat)) : Int); omega)
            have hw2 : IntKind.i64.wrap (16 * (r1 : Int)) = 16 * (r1 : Int) := by rw [IntKind.wrap_i64]; omega
            have hw3 : IntKind.i64.wrap (16 * (r1 : Int) + (r2 : Int)) = 16 * (r1 : Int) + (r2 : Int) := by rw [IntKind.wrap_i64]; omega
            have hw4 : IntKind.u8.wrap (16 * (r1 : Int) + (r2 : Int)) = 16 * (r1 : Int) + (r2 : Int) := by rw [IntKind.wrap_u8]; omega
            have hv1 : IntKind.i64.wrap ((i : Int) + 2) = (i : Int) + 2 := by rw [IntKind.wrap_i64]; omega
            have hv2 : (0 : Int) ≤ (i : Int) + 2 := by omega
            have hv3 : ((i : Int) + 2).toNat = i + 2 := by omega
            have hv4 : (i : Int) + 2 < (s.size : Int) := by omega
            have hy1 : IntKind.i64.wrap ((i : Int) + 3) = (i : Int) + 3 := by rw [IntKind.wrap_i64]; omega
            have hy2 : (0 : Int) ≤ (i : Int) + 3 := by omega
            have hy3 : ((i : Int) + 3).toNat = i + 3 := by omega
            clear hd1 hd2
            go_wp2_with fail
            refine wp_region_held_drew (S := fun _ => True) (by kernel_rfl) trivial (fun _ => ?_)
            refine Man.take1 (i := 0) (v := ?_) rfl (by kernel_rfl) (by kernel_rfl) (by kernel_rfl) (fun _ _ _ h => h) (by rfl) ?_ (trivial) ?_
            rotate_left
            · (intro u hSu; go_simp; (try with_reducible rfl))
            (try simp only [Act.put, List.setIfInBounds_toArray, List.set_cons_zero, List.set_cons_succ])
            refine Man.take1 (i := 1) (v := ?_) rfl (by kernel_rfl) (by kernel_rfl) (by kernel_rfl) (fun _ _ _ h => h) (by rfl) ?_ (trivial) ?_
            rotate_left
            · (intro u hSu; go_simp; (try with_reducible rfl))
            (try simp only [Act.put, List.setIfInBounds_toArray, List.set_cons_zero, List.set_cons_succ])
            refine Man.take1 (i := 2) (v := ?_) rfl (by kernel_rfl) (by kernel_rfl) (by kernel_rfl) (fun _ _ _ h => h) (by rfl) ?_ (trivial) ?_
            rotate_left
            · (intro u hSu; go_simp; (try with_reducible rfl))
            (try simp only [Act.put, List.setIfInBounds_toArray, List.set_cons_zero, List.set_cons_succ])
            refine Man.take1 (i := 3) (v := ?_) rfl (by kernel_rfl) (by kernel_rfl) (by kernel_rfl) (fun _ _ _ h => h) (by rfl) ?_ (trivial) ?_
            rotate_left
            · (intro u hSu; go_simp; (try with_reducible rfl))
            (try simp only [Act.put, List.setIfInBounds_toArray, List.set_cons_zero, List.set_cons_succ])
            refine Man.take1 (i := 4) (v := ?_) rfl (by kernel_rfl) (by kernel_rfl) (by kernel_rfl) (fun _ _ _ h => h) (by rfl) ?_ (trivial) ?_
            rotate_left
            · (intro u hSu; go_simp; (try with_reducible rfl))
            (try simp only [Act.put, List.setIfInBounds_toArray, List.set_cons_zero, List.set_cons_succ])
            refine Man.take1 (i := 7) (v := ?_) rfl (by kernel_rfl) (by kernel_rfl) (by kernel_rfl) (fun _ _ _ h => h) (by rfl) ?_ (trivial) ?_
            rotate_left
            · (intro u hSu; go_simp; (try with_reducible rfl))
            (try simp only [Act.put, List.setIfInBounds_toArray, List.set_cons_zero, List.set_cons_succ])
            refine Man.take1 (i := 8) (v := ?_) rfl (by kernel_rfl) (by kernel_rfl) (by kernel_rfl) (fun _ _ _ h => h) (by rfl) ?_ (trivial) ?_
            rotate_left
            · (intro u hSu; go_simp; (try with_reducible rfl))
            (try simp only [Act.put, List.setIfInBounds_toArray, List.set_cons_zero, List.set_cons_succ])
            refine Man.take1 (i := 9) (v := ?_) rfl (by kernel_rfl) (by kernel_rfl) (by kernel_rfl) (fun _ _ _ h => h) (by rfl) ?_ (trivial) ?_
            rotate_left
            · (intro u hSu; go_simp; (try with_reducible rfl))
            (try simp only [Act.put, List.setIfInBounds_toArray, List.set_cons_zero, List.set_cons_succ])
            refine Man.take1 (i := 10) (v := ?_) rfl (by kernel_rfl) (by kernel_rfl) (by kernel_rfl) (fun _ _ _ h => h) (by rfl) ?_ (trivial) ?_
            rotate_left
            · (intro u hSu; go_simp; (try with_reducible rfl))
            (try simp only [Act.put, List.setIfInBounds_toArray, List.set_cons_zero, List.set_cons_succ])
            refine Man.one (i := 5) rfl (by kernel_rfl) (fun K hK => ?_)
            go_simp
            (go_at_call 67; (with_reducible refine (hdig1 _).mono ?_); rintro e wd ⟨rfl, rfl⟩)
            refine hK.out _ _ trivial (fun _ => ?_)
            clear hK K
            (try simp only [Act.put, List.setIfInBounds_toArray, List.set_cons_zero, List.set_cons_succ])
            refine Man.take1 (i := 6) (v := ?_) rfl (by kernel_rfl) (by kernel_rfl) (by kernel_rfl) (fun _ _ _ h => h) (by rfl) ?_ (trivial) ?_
            rotate_left
            · (intro u hSu; go_simp; (try with_reducible rfl))
            (try simp only [Act.put, List.setIfInBounds_toArray, List.set_cons_zero, List.set_cons_succ])
            refine Man.one (i := 11) rfl (by kernel_rfl) (fun K hK => ?_)
            go_simp
            (go_at_call 67; (with_reducible refine (hdig2 _).mono ?_); rintro e wd ⟨rfl, rfl⟩)
            refine hK.out _ _ trivial (fun _ => ?_)
            clear hK K
            (try simp only [Act.put, List.setIfInBounds_toArray, List.set_cons_zero, List.set_cons_succ])
            refine Man.take1 (i := 12) (v := ?_) rfl (by kernel_rfl) (by kernel_rfl) (by kernel_rfl) (fun _ _ _ h => h) (by rfl) ?_ (trivial) ?_
            rotate_left
            · (intro u hSu; go_simp; (try with_reducible rfl))
            (try simp only [Act.put, List.setIfInBounds_toArray, List.set_cons_zero, List.set_cons_succ])
            refine Man.take1 (i := 13) (v := ?_) rfl (by kernel_rfl) (by kernel_rfl) (by kernel_rfl) (fun _ _ _ h => h) (by rfl) ?_ (trivial) ?_
            rotate_left
            · (intro u hSu; go_simp; (try with_reducible rfl))
            (try simp only [Act.put, List.setIfInBounds_toArray, List.set_cons_zero, List.set_cons_succ])
            refine Man.one (i := 14) rfl (by kernel_rfl) (fun K hK => ?_)
            go_simp
            have HG2 := Lib.hid (HG.out.later (((Below.refl wr.heap.size wr).alloc (Nat.le_refl _) (.cells #[.int .u8 (16 * (r1 : Int) + (r2 : Int))] 5)).drew))
            refine hK.out _ _ trivial (fun _ => ?_)
            clear hK K
            (try simp only [Act.put, List.setIfInBounds_toArray, List.set_cons_zero, List.set_cons_succ])
            refine Man.one (i := 15) rfl (by kernel_rfl) (fun K hK => ?_)
            refine step_append_lies _ rfl _ _ 55 rfl (w.heap.size + 1) 5 i0 (.int .u8 0) 1 1 Tryd.underlying55 hi0 hz0 hz1 hz2 rfl (by decide) _ l.length (Lib.byteCells l) rfl HG2.out.own ⟨wr.heap.size, 0, none⟩ 1 1 [.int .u8 (16 * (r1 : Int) + (r2 : Int))] ?k41 rfl ?k42 ?k43 (by decide) ?k44 ?k45 ?k46 _ rfl (fun g cap w1 hown hgrow _ _ => ?_)
            case k41 => show _ = Value.slice _ 1 1; first | rfl | (simp; done)
            case k42 => intro j u hj; obtain ⟨rfl, rfl⟩ := byte_one _ j u hj; simp [Addr.add]
            case k43 => intro u hu; simp at hu; subst hu; rfl
            case k44 => unfold maxLen; omega
            case k45 => omega
            case k46 => have := HG.out.sz; simp; omega
            refine hK.out _ _ trivial (fun _ => ?_)
            clear hK K
            (try simp only [Act.put, List.setIfInBounds_toArray, List.set_cons_zero, List.set_cons_succ])
            refine Man.take1 (i := 16) (v := ?_) rfl (by kernel_rfl) (by kernel_rfl) (by kernel_rfl) (fun _ _ _ h => h) (by rfl) ?_ (trivial) ?_
            rotate_left
            · (intro u hSu; go_simp; (try with_reducible rfl))
            (try simp only [Act.put, List.setIfInBounds_toArray, List.set_cons_zero, List.set_cons_succ])
            refine wpAnyH_done (by kernel_rfl) ?_ _
            have HB := Lib.hid (HG2.out.put ((16 * r1 + r2).toUInt8) (by first | exact HXC.out | rfl) hown hgrow)
            have HL2 : Hid (∀ L : List UInt8, s.data.toList = 34 :: (L.flatMap Txt.letter ++ [34]) → l ++ [(16 * r1 + r2).toUInt8] = L.take (l ++ [(16 * r1 + r2).toUInt8]).length ∧ i + 4 = 1 + ((L.take (l ++ [(16 * r1 + r2).toUInt8]).length).flatMap Txt.letter).length) := Lib.hid (by
              intro L e
              obtain ⟨hl, hi⟩ := HL.out L e
              obtain ⟨hj, n1, n2, n3⟩ := letter_next s L e l.length i hi h1 hiz
              obtain ⟨_, _, e1, e2, e3⟩ := n3 HQ.out HQ2.out
              have hLt := (L[l.length]).toNat_lt
              exact letter_step hj hl hi (un_byte _ r1 r2 (HD1.out _ (by omega) e1) (HD2.out _ (by omega) e2)).symm e3)
            clear hown hgrow HG2
            go_wp2_with fail
            go_roundw
            case rel => exact ⟨i + 4, l ++ [(16 * r1 + r2).toUInt8], by go_num, by omega, by simp; omega, HL2, HB⟩
            case measure => simp [intOf]; omega
          · have f3 : ¬ (i : Int) + 3 < (s.size : Int) := by omega
            have HXC : Hid ((s[i + 1].toNat : Int) = (s[i + 1].toNat : Int)) := Lib.hid rfl
            have HG2 := Lib.hid (HG.out.later ((Below.refl wr.heap.size wr).alloc (Nat.le_refl _) (.cells #[.int .u8 ((s[i + 1].toNat : Int))] 5)))
            go_wp2_with (at_builtin; refine wpList_append_lies _ rfl _ _ 55 rfl (w.heap.size + 1) 5 i0 (.int .u8 0) 1 1 Tryd.underlying55 hi0 hz0 hz1 hz2 rfl (by decide) _ l.length (Lib.byteCells l) rfl HG2.out.own ⟨wr.heap.size, 0, none⟩ 1 1 [.int .u8 ((s[i + 1].toNat : Int))] rfl rfl ?k32 ?k33 (by decide) ?k34 ?k35 ?k36 _ rfl ?_)
            try case k32 => (intro j u hj; obtain ⟨rfl, rfl⟩ := byte_one _ j u hj; simp [Addr.add])
            case k33 => first | rfl | (intro u hu; simp at hu; subst hu; rfl)
            case k34 => unfold maxLen; omega
            case k35 => omega
            case k36 => have := HG.out.sz; simp; omega
            intro g cap w1 hown hgrow _ _
            have HB := Lib.hid (HG2.out.put (s[i + 1]) (by first | exact HXC.out | rfl) hown hgrow)
            have HL2 : Hid (∀ L : List UInt8, s.data.toList = 34 :: (L.flatMap Txt.letter ++ [34]) → l ++ [s[i + 1]] = L.take (l ++ [s[i + 1]]).length ∧ i + 2 = 1 + ((L.take (l ++ [s[i + 1]]).length).flatMap Txt.letter).length) := Lib.hid (by
              intro L e
              obtain ⟨hl, hi⟩ := HL.out L e
              obtain ⟨hj, n1, n2, n3⟩ := letter_next s L e l.length i hi h1 hiz
              obtain ⟨h4, _⟩ := n3 HQ.out HQ2.out; omega)
            clear hown hgrow HG2
            go_wp2_with fail
            go_roundw
            case rel => exact ⟨i + 2, l ++ [s[i + 1]], by go_num, by omega, by simp; omega, HL2, HB⟩
            case measure => simp [intOf]; omega
        · have g2 : ((s[i + 1].toNat : Int) == 120) = false := by
            rw [Bool.eq_false_iff]; intro q
            have q2 := eq_of_beq q
            exact hq2 (UInt8.toNat_inj.1 (by have e9 : (120 : UInt8).toNat = 120 := rfl; omega))
          have HQ2 := Lib.hid hq2
          clear hq2
          have HXC : Hid ((s[i + 1].toNat : Int) = (s[i + 1].toNat : Int)) := Lib.hid rfl
          have HG2 := Lib.hid (HG.out.later ((Below.refl wr.heap.size wr).alloc (Nat.le_refl _) (.cells #[.int .u8 ((s[i + 1].toNat : Int))] 5)))
          go_wp2_with (at_builtin; refine wpList_append_lies _ rfl _ _ 55 rfl (w.heap.size + 1) 5 i0 (.int .u8 0) 1 1 Tryd.underlying55 hi0 hz0 hz1 hz2 rfl (by decide) _ l.length (Lib.byteCells l) rfl HG2.out.own ⟨wr.heap.size, 0, none⟩ 1 1 [.int .u8 ((s[i + 1].toNat : Int))] rfl rfl ?k22 ?k23 (by decide) ?k24 ?k25 ?k26 _ rfl ?_)
          try case k22 => (intro j u hj; obtain ⟨rfl, rfl⟩ := byte_one _ j u hj; simp [Addr.add])
          case k23 => first | rfl | (intro u hu; simp at hu; subst hu; rfl)
          case k24 => unfold maxLen; omega
          case k25 => omega
          case k26 => have := HG.out.sz; simp; omega
          intro g cap w1 hown hgrow _ _
          have HB := Lib.hid (HG2.out.put (s[i + 1]) (by first | exact HXC.out | rfl) hown hgrow)
          have HL2 : Hid (∀ L : List UInt8, s.data.toList = 34 :: (L.flatMap Txt.letter ++ [34]) → l ++ [s[i + 1]] = L.take (l ++ [s[i + 1]]).length ∧ i + 2 = 1 + ((L.take (l ++ [s[i + 1]]).length).flatMap Txt.letter).length) := Lib.hid (by
            intro L e
            obtain ⟨hl, hi⟩ := HL.out L e
            obtain ⟨hj, n1, n2, n3⟩ := letter_next s L e l.length i hi h1 hiz
            obtain ⟨c1, c2⟩ := n2 HQ.out HQ2.out; exact letter_step hj hl hi c1 c2)
          clear hown hgrow HG2
          go_wp2_with fail
          go_roundw
          case rel => exact ⟨i + 2, l ++ [s[i + 1]], by go_num, by omega, by simp; omega, HL2, HB⟩
          case measure => simp [intOf]; omega
      · have g1 : ((s[i].toNat : Int) != 92) = true := by
          rw [bne_iff_ne]; intro q
          exact hq (UInt8.toNat_inj.1 (by have e9 : (92 : UInt8).toNat = 92 := rfl; omega))
        have HQ := Lib.hid hq
        clear hq
        have HXC : Hid ((s[i].toNat : Int) = (s[i].toNat : Int)) := Lib.hid rfl
        have HG2 := Lib.hid (HG.out.later ((Below.refl wr.heap.size wr).alloc (Nat.le_refl _) (.cells #[.int .u8 ((s[i].toNat : Int))] 5)))
        go_wp2_with (at_builtin; refine wpList_append_lies _ rfl _ _ 55 rfl (w.heap.size + 1) 5 i0 (.int .u8 0) 1 1 Tryd.underlying55 hi0 hz0 hz1 hz2 rfl (by decide) _ l.length (Lib.byteCells l) rfl HG2.out.own ⟨wr.heap.size, 0, none⟩ 1 1 [.int .u8 ((s[i].toNat : Int))] rfl rfl ?k12 ?k13 (by decide) ?k14 ?k15 ?k16 _ rfl ?_)
        try case k12 => (intro j u hj; obtain ⟨rfl, rfl⟩ := byte_one _ j u hj; simp [Addr.add])
        case k13 => first | rfl | (intro u hu; simp at hu; subst hu; rfl)
        case k14 => unfold maxLen; omega
        case k15 => omega
        case k16 => have := HG.out.sz; simp; omega
        intro g cap w1 hown hgrow _ _
        have HB := Lib.hid (HG2.out.put (s[i]) (by first | exact HXC.out | rfl) hown hgrow)
        have HL2 : Hid (∀ L : List UInt8, s.data.toList = 34 :: (L.flatMap Txt.letter ++ [34]) → l ++ [s[i]] = L.take (l ++ [s[i]]).length ∧ i + 1 = 1 + ((L.take (l ++ [s[i]]).length).flatMap Txt.letter).length) := Lib.hid (by
          intro L e
          obtain ⟨hl, hi⟩ := HL.out L e
          obtain ⟨hj, n1, n2, n3⟩ := letter_next s L e l.length i hi h1 hiz
          obtain ⟨c1, c2⟩ := n1 HQ.out; exact letter_step hj hl hi c1 c2)
        clear hown hgrow HG2
        go_wp2_with fail
        go_roundw
        case rel => exact ⟨i + 1, l ++ [s[i]], by go_num, by omega, by simp; omega, HL2, HB⟩
        case measure => simp [intOf]; omega
    · have f1 : ¬ (i : Int) + 1 < (s.size : Int) := by omega
      have hstr := str_own HG.out.own
      obtain ⟨ao, n', cap, rfl⟩ : ∃ ao n' cap, u3 = .slice ao n' cap := by
        rcases HG.out.own.2 with ⟨hv, _⟩ | ⟨g, cap, cur, hv, _⟩
        · exact ⟨_, _, _, hv⟩
        · exact ⟨_, _, _, hv⟩
      have a0 := HG.out.box.c0
      have a1 := HG.out.box.c1
      have a2 := HG.out.box.c2
      have a3 := HG.out.box.c3
      have az := HG.out.box.z
      have HP := Lib.hid (put4_vb (k := 5) (n := 0) (x := 0) (t := Cod.S l) HG.out.box)
      go_wp2_with fail
      have p0 := HP.out.c0
      have p1 := HP.out.c1
      have p2 := HP.out.c2
      have p3 := HP.out.c3
      show bodyPost _ _ _ _ _ (put4 wr w.heap.size (.int .i64 5) (.int .i64 0) (.int .u64 0) (.string (Cod.S l)))
      refine bodyPost_ret (v := .agg #[.int .i64 5, .int .i64 0, .int .u64 0, .string (Cod.S l)]) (by simp [results, Tryd.results68, go_sem, p0, p1, p2, p3]) rfl ?_
      refine ⟨l, rfl, fun L e => ?_, put4_below _ _ _ _ _ (Nat.le_refl _) HG.out.bel⟩
      obtain ⟨hl, hi⟩ := HL.out L e
      have hsz : s.size = (L.flatMap Txt.letter).length + 2 := by
        have := congrArg List.length e
        have e2 : s.size = s.data.toList.length := by simp
        rw [← e2] at this
        rw [this]; simp
      have hge : L.length ≤ l.length := by
        rcases Nat.lt_or_ge l.length L.length with h | h
        · have := letter_more L l.length h
          omega
        · exact h
      rw [hl, List.take_of_length_le hge]
end Ref
end Go.Proofs.YtppdebhcaodcnaaDoor
