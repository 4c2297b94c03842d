/- Next and Split of package frame. Condition: the bytes are at most 1000000000. -/
import Derived.Test.YtopmbhpjdmcabaaGreatGf
import Derived.WalkMore
import Derived.OwnWalk
namespace Go.Proofs.YtopmbhpjdmcabaaGreat
open Go.RowKit
namespace Frm
open Cod Sch
set_option maxHeartbeats 4000000 in
set_option maxRecDepth 100000 in
theorem next_any (s : ByteArray) (hs : s.size ≤ 1000000000) (w : World) :
    Calls Tryz.prog 17 #[.string s] w fun e w' => e = .returned (.tuple #[.string (S (nextB s.data.toList).1), .int .i64 ((nextB s.data.toList).2.1 : Nat), .int .i64 (nextB s.data.toList).2.2]) ∧ Below w.heap.size w w' := by
  have hl : s.data.toList.length = s.size := Cod.len_eq s
  obtain ⟨N, hN⟩ : ∃ N, N = nextB s.data.toList := ⟨_, rfl⟩
  rw [← hN]
  unfold nextB at hN
  rw [hl] at hN
  rcases Nat.lt_or_ge s.size 4 with h4 | h4
  · have f1 : (s.size : Int) < 4 := by omega
    rw [if_pos h4] at hN
    subst hN
    go_enter Tryz.func17, Tryz.ntmps17
    go_wp2_with fail
    go_ret3
    exact ⟨rfl, Below.refl _ _⟩
  · have f1 : ¬ (s.size : Int) < 4 := by omega
    have f1n : (4 : Int) ≤ (s.size : Int) := by omega
    rw [if_neg (by omega)] at hN
    have HLN := fun w => length_any (s.extract 0 4) (by rw [ByteArray.size_extract]; omega) w
    rw [Crc.cut_take] at HLN
    have hn32 := num4_lt s.data.toList 4 (by omega)
    obtain ⟨n, hn⟩ : ∃ n, n = num4 (s.data.toList.take 4) := ⟨_, rfl⟩
    rw [← hn] at HLN hN hn32
    clear hn
    have hn32' : n < 4294967296 := hn32
    clear hn32
    have HL := hidm HLN
    clear HLN
    rcases Nat.lt_or_ge 100000 n with hb | hb
    · have f2 : (100000 : Int) < (n : Int) := by omega
      rw [if_pos hb] at hN
      subst hN
      go_enter Tryz.func17, Tryz.ntmps17
      go_wp2_with fail
      refine (HL.out _).mono ?_
      rintro e w1 ⟨rfl, rfl⟩
      go_wp2_with fail
      go_ret3
      exact ⟨rfl, Below.refl _ _⟩
    · have f2 : ¬ (100000 : Int) < (n : Int) := by omega
      rw [if_neg (by omega)] at hN
      have g1 : wrap64 (4 + (n : Int)) = ((n + 4 : Nat) : Int) := by unfold wrap64; omega
      have g2 : wrap64 (((n + 4 : Nat) : Int) + 4) = ((n + 8 : Nat) : Int) := by unfold wrap64; omega
      rcases Nat.lt_or_ge s.size (n + 8) with h8 | h8
      · have f3 : (s.size : Int) < (n : Int) + 8 := by omega
        rw [if_pos h8] at hN
        subst hN
        go_enter Tryz.func17, Tryz.ntmps17
        go_wp2_with fail
        refine (HL.out _).mono ?_
        rintro e w1 ⟨rfl, rfl⟩
        go_wp2_with fail
        go_ret3
        exact ⟨rfl, Below.refl _ _⟩
      · have f3 : ¬ (s.size : Int) < (n : Int) + 8 := by omega
        have f4 : (n : Int) + 8 ≤ (s.size : Int) := by omega
        rw [if_neg (by omega)] at hN
        have HT := fun w => Crc.take_any (s.extract 4 (4 + n + 4)) (by rw [ByteArray.size_extract]; omega) w
        have hcb : s.extract 4 (4 + n + 4) = S ((s.data.toList.drop 4).take (n + 4)) := by
          rw [show 4 + n + 4 = 4 + (n + 4) by omega]; exact cut_bytes s 4 (n + 4)
        have HCB := hidm hcb
        have hcd : (s.extract 4 (4 + n + 4)).data.toList = (s.data.toList.drop 4).take (n + 4) := by rw [hcb]
        rw [hcd] at HT
        obtain ⟨q, hq⟩ : ∃ q, q = (s.data.toList.drop 4).take (n + 4) := ⟨_, rfl⟩
        rw [← hq] at HT hN
        have HTT := hidm HT
        clear HT hcb hcd hq
        rcases hg : Crc.good q with _ | _
        · rw [if_neg (by rw [hg]; simp)] at hN
          subst hN
          go_enter Tryz.func17, Tryz.ntmps17
          go_wp2_with fail
          refine (HL.out _).mono ?_
          rintro e w1 ⟨rfl, rfl⟩
          go_wp2_with fail
          refine (HTT.out _).mono ?_
          rintro e w2 ⟨rfl, hb2⟩
          have HB := hidm hb2
          clear hb2
          rw [hg]
          go_wp2_with fail
          go_ret3
          exact ⟨rfl, HB.out⟩
        · rw [if_pos hg] at hN
          subst hN
          go_enter Tryz.func17, Tryz.ntmps17
          go_wp2_with fail
          refine (HL.out _).mono ?_
          rintro e w1 ⟨rfl, rfl⟩
          go_wp2_with fail
          refine (HTT.out _).mono ?_
          rintro e w2 ⟨rfl, hb2⟩
          have HB := hidm hb2
          clear hb2
          rw [hg]
          go_wp2_with fail
          go_ret3
          exact ⟨by simp; omega, HB.out⟩
/-- The slice sl holds these texts. -/
def StrsAt (bs : List (List UInt8)) (sl : Value) (w : World) : Prop := ∃ ao cap, sl = .slice ao bs.length cap ∧ bs.length ≤ cap ∧ cap ≤ 9223372036854775807 ∧ (bs ≠ [] → ∃ b off, ao = some ⟨b, off, none⟩ ∧ b < w.heap.size ∧ ∀ j (h : j < bs.length), w.cell? ⟨b, off + j, none⟩ = some (.string (S bs[j])))
theorem StrsAt.later {bs : List (List UInt8)} {sl : Value} {w w' : World} (h : StrsAt bs sl w) (hb : Below w.heap.size w w') : StrsAt bs sl w' := by
  obtain ⟨ao, cap, h1, hc, hm, h2⟩ := h
  refine ⟨ao, cap, h1, hc, hm, fun hne => ?_⟩
  obtain ⟨b, off, h3, h4, h5⟩ := h2 hne
  exact ⟨b, off, h3, Nat.lt_of_lt_of_le h4 hb.size, fun j hj => by rw [hb.cell (p := ⟨b, off + j, none⟩) h4]; exact h5 j hj⟩
theorem StrsAt.at {bs : List (List UInt8)} {sl : Value} {w : World} (h : StrsAt bs sl w) (i : Nat) (hi : i < bs.length) : ∃ b off cap, sl = .slice (some ⟨b, off, none⟩) bs.length cap ∧ b < w.heap.size ∧ w.cell? ⟨b, off + i, none⟩ = some (.string (S bs[i])) := by
  obtain ⟨ao, cap, h1, _, _, h2⟩ := h
  obtain ⟨b, off, rfl, h4, h5⟩ := h2 (fun e => by rw [e] at hi; cases hi)
  exact ⟨b, off, cap, h1, h4, h5 i hi⟩
theorem StrsAt.form {bs : List (List UInt8)} {sl : Value} {w : World} (h : StrsAt bs sl w) : ∃ ao cap, sl = .slice ao bs.length cap ∧ bs.length ≤ cap ∧ cap ≤ 9223372036854775807 := by
  obtain ⟨ao, cap, h1, hc, hm, _⟩ := h
  exact ⟨ao, cap, h1, hc, hm⟩
/-- The first texts alone. -/
theorem StrsAt.take {bs : List (List UInt8)} {ao : Option Addr} {cap : Nat} {w : World} (h : StrsAt bs (.slice ao bs.length cap) w) (k c2 : Nat) (hk : k ≤ bs.length) (hc2 : k ≤ c2) (hcm : c2 ≤ 9223372036854775807) : StrsAt (bs.take k) (.slice ao k c2) w := by
  obtain ⟨ao', cap', h1, hc, hm, h2⟩ := h
  simp only [Value.slice.injEq, true_and] at h1
  obtain ⟨rfl, rfl⟩ := h1
  have hl : (bs.take k).length = k := by rw [List.length_take]; omega
  refine ⟨ao, c2, by rw [hl], by rw [hl]; exact hc2, hcm, fun hne => ?_⟩
  have hb : bs ≠ [] := fun e => hne (by rw [e]; simp)
  obtain ⟨b, off, h3, h4, h5⟩ := h2 hb
  refine ⟨b, off, h3, h4, fun j hj => ?_⟩
  rw [hl] at hj
  rw [h5 j (by omega)]
  simp
def strs (bs : List (List UInt8)) : List Value := bs.map fun b => .string (S b)
theorem StrsAt.of_owns {base : Nat} {bs : List (List UInt8)} {sl : Value} {w : World} (h : w.ownsRow base 9 1 sl bs.length (strs bs)) : StrsAt bs sl w := by
  obtain ⟨g, cap, rfl, hc, hm⟩ | ⟨hv, h0⟩ : (∃ g cap, sl = .slice (some ⟨g, 0, none⟩) bs.length cap ∧ bs.length ≤ cap ∧ cap ≤ 9223372036854775807) ∨ (sl = .slice none 0 0 ∧ bs.length = 0) := by
    rcases h.2 with h2 | ⟨g, cap, cur, hv, _, _, hc, hm, _⟩
    · exact .inr h2
    · exact .inl ⟨g, cap, hv, hc, by unfold maxLen at hm; omega⟩
  · refine ⟨_, cap, rfl, hc, hm, fun _ => ⟨g, 0, rfl, (h.lt g rfl).2, fun j hj => ?_⟩⟩
    rw [Nat.zero_add, h.cellAt j (by omega)]
    unfold strs; simp [hj]
  · have hcs := List.eq_nil_of_length_eq_zero h0
    subst hcs
    exact ⟨none, 0, hv, Nat.le_refl _, by omega, fun h => absurd rfl h⟩
theorem infoS : (Tryz.prog.info? 9).map (fun i => (i.zero, i.size, i.bytes)) = some (some (.string ⟨#[]⟩), 1, 16) := by kernel_rfl
def SplitP (l : List UInt8) (w : World) (e : Ending) (w' : World) : Prop := ∃ ao cap, e = .returned (.tuple #[.slice ao (splitB l).1.length cap, .int .i64 ((splitB l).2.1 : Nat), .int .i64 (splitB l).2.2]) ∧ StrsAt (splitB l).1 (.slice ao (splitB l).1.length cap) w' ∧ Below w.heap.size w w'
def Spl (l : List UInt8) (bs : List (List UInt8)) (p : Nat) : Prop := splitB l = (bs ++ (splitB (l.drop p)).1, p + (splitB (l.drop p)).2.1, (splitB (l.drop p)).2.2)
set_option maxHeartbeats 4000000 in
set_option maxRecDepth 100000 in
theorem split_any (s : ByteArray) (hs : s.size ≤ 1000000000) (w : World) :
    Calls Tryz.prog 19 #[.string s] w fun e w' => SplitP s.data.toList w e w' := by
  obtain ⟨i0, hi, hz0, hz1, hz2⟩ := info_parts infoS
  have hl : s.data.toList.length = s.size := Cod.len_eq s
  have HLL := hidm hl
  clear hl
  go_enter Tryz.func19, Tryz.ntmps19
  go_wp2_with fail
  go_step3
  go_wp2_with fail
  go_step3
  go_wp2_with fail
  go_loopw [5, 6, 7] (fun b5 e6 p7 wr => ∃ (p : Nat) (bs : List (List UInt8)) (so : Option Addr) (sc : Nat), b5 = .slice so bs.length sc ∧ e6 = .int .i64 0 ∧ p7 = .int .i64 p ∧ p ≤ s.size ∧ bs.length ≤ p ∧ Hid (wr.ownsRow w.heap.size 9 1 (.slice so bs.length sc) bs.length (strs bs)) ∧ Hid (Below w.heap.size w wr) ∧ Hid (Spl s.data.toList bs p)) (fun _ _ p7 _ => s.size - (intOf p7).toNat)
  case atStart => exact ⟨0, [], none, 0, rfl, rfl, rfl, by omega, by simp, hidm (World.ownsRow_nil _ _ _ _), hidm (Below.refl _ _), hidm (by unfold Spl; simp)⟩
  case round =>
    obtain ⟨p, bs, so, sc, rfl, rfl, rfl, hp, hbp, HO, HB, HS⟩ := hrel
    rcases Nat.lt_or_ge p s.size with hlt | hge
    · have f1 : (p : Int) < (s.size : Int) := by omega
      have NX := fun w => next_any (s.extract p s.size) (by rw [ByteArray.size_extract]; omega) w
      have hdl : (s.data.toList.drop p).length = s.size - p := by rw [List.length_drop, HLL.out]
      rw [Crc.cut_drop] at NX
      obtain ⟨q, hq⟩ : ∃ q, q = s.data.toList.drop p := ⟨_, rfl⟩
      rw [← hq] at NX hdl
      have HQ := hidm hq
      have hqne : q ≠ [] := fun e => by rw [e] at hdl; simp at hdl; omega
      clear hq
      by_cases hx : (nextB q).2.2 = 0
      · obtain ⟨n1, n2, _, n4⟩ := next_len hx
        have HST := hidm (split_step hx)
        rw [hx] at NX
        obtain ⟨b, hb⟩ : ∃ b, b = (nextB q).1 := ⟨_, rfl⟩
        obtain ⟨k, hk⟩ : ∃ k, k = (nextB q).2.1 := ⟨_, rfl⟩
        rw [← hb, ← hk] at NX HST
        rw [← hb] at n1 n4
        rw [← hk] at n1 n2
        have HNX := hidm NX
        have hk2 : p + k ≤ s.size := by omega
        have hk1 : 8 ≤ k := by omega
        clear hb hk hx NX hqne n1 n2 n4 hdl
        go_wp2_with fail
        refine (HNX.out _).mono ?_
        rintro e w1 ⟨rfl, hb1⟩
        have HB1 := hidm (HB.out.trans (hb1.mono HB.out.size))
        have HO1 := hidm (Cod.owns_later HO.out hb1)
        have hbs := HB1.out.size
        clear hb1
        go_wp2_with (at_builtin; refine wpList_append_own _ rfl _ _ 42 rfl w.heap.size 9 i0 (.string ⟨#[]⟩) 1 16 Tryz.underlying42 hi hz0 hz1 hz2 rfl (by decide) _ _ _ rfl (Cod.owns_later HO1.out ((Below.refl _ _).alloc (Nat.le_refl _) _)) ⟨w1.heap.size, 0, none⟩ 1 1 [.string (S b)] rfl rfl ?CA ?CB ?CC ?CD ?CE ?_)
        case CA =>
          intro j y hj
          match j, hj with
          | 0, hj => simp at hj; subst hj; simp [Addr.add, go_sem]
          | j + 1, hj => simp at hj
        case CB => intro y hy; simp at hy; subst hy; rfl
        case CC => unfold maxLen; omega
        case CD => omega
        case CE => simp; omega
        intro v' w2 hown hgrow _
        rw [show strs bs ++ [.string (S b)] = strs (bs ++ [b]) from by unfold strs; simp] at hown
        obtain ⟨vo, vc, hvv⟩ : ∃ so sc, v' = .slice so (bs.length + 1) sc := by
          rcases hown.2 with ⟨hv, h0⟩ | ⟨g, cap, cur, hv, _⟩
          · exact absurd h0 (by omega)
          · exact ⟨_, _, hv⟩
        subst hvv
        have HO2 := hidm (show w2.ownsRow w.heap.size 9 1 (.slice vo (bs ++ [b]).length vc) (bs ++ [b]).length (strs (bs ++ [b])) from by rw [List.length_append]; exact hown)
        have HB2 := hidm ((HB1.out.alloc HB1.out.size (.cells #[.string (S b)] 9)).grown hgrow (by simp; omega) (fun g hg => (HO1.out.lt g hg).1))
        have HS2 := hidm (show Spl s.data.toList (bs ++ [b]) (p + k) from by
          have h1 := HS.out
          unfold Spl at h1 ⊢
          rw [← HQ.out, HST.out] at h1
          rw [h1]
          have e1 : q.drop k = s.data.toList.drop (p + k) := by rw [HQ.out, List.drop_drop]
          rw [e1]
          simp only [List.append_assoc, List.singleton_append, Nat.add_assoc])
        clear hown hgrow
        go_wp2_with fail
        go_roundw
        case rel => exact ⟨p + k, bs ++ [b], vo, vc, by rw [List.length_append]; rfl, rfl, by go_num, by omega, by rw [List.length_append]; simp; omega, HO2, HB2, HS2⟩
        case measure => simp [intOf]; omega
      · have HBAD := hidm (split_bad hqne hx)
        have hnx := next_err hx
        obtain ⟨x, hxx⟩ : ∃ x, x = (nextB q).2.2 := ⟨_, rfl⟩
        rw [hnx.1, hnx.2, ← hxx] at NX
        rw [← hxx] at HBAD hx
        have HNX := hidm NX
        have f2 : (x == 0) = false := by simpa using hx
        clear NX hnx hxx hx hqne hdl
        go_wp2_with fail
        refine (HNX.out _).mono ?_
        rintro e w1 ⟨rfl, hb1⟩
        have HB1 := hidm (HB.out.trans (hb1.mono HB.out.size))
        have HO1 := hidm (Cod.owns_later HO.out hb1)
        clear hb1
        have HE := hidm (show splitB s.data.toList = (bs, p, x) from by
          have h1 := HS.out
          unfold Spl at h1
          rw [← HQ.out, HBAD.out] at h1
          rw [h1]; simp)
        go_wp2_with fail
        go_ret3
        refine ⟨so, sc, ?_, ?_, HB1.out⟩
        · rw [HE.out]; rfl
        · rw [HE.out]; exact StrsAt.of_owns HO1.out
    · obtain rfl : p = s.size := by omega
      have f1 : ¬ ((s.size : Int) < (s.size : Int)) := by omega
      have HE := hidm (show splitB s.data.toList = (bs, s.size, 0) from by
        have h1 := HS.out
        unfold Spl at h1
        rw [List.drop_of_length_le (by rw [HLL.out]; omega), split_nil] at h1
        rw [h1]; simp)
      go_wp2_with fail
      go_ret3
      refine ⟨so, sc, ?_, ?_, HB.out⟩
      · rw [HE.out]; rfl
      · rw [HE.out]; exact StrsAt.of_owns HO.out
end Frm
end Go.Proofs.YtopmbhpjdmcabaaGreat
