/- The document's Next, Split and Texts (layer 6). Condition: the bytes are at most 1000000000. -/
import Derived.Test.YtopmbhpjdmcabaaGreatGk
import Derived.WalkMore
import Derived.OwnWalk
namespace Go.Proofs.YtopmbhpjdmcabaaGreat
open Go.RowKit
namespace Frm
open Cod Sch
set_option maxHeartbeats 4000000 in
set_option maxRecDepth 100000 in
theorem rnext_any (s : ByteArray) (hs : s.size ≤ 1000000000) (w : World) :
    Calls Tryz.prog 18 #[.string s] w fun e w' => e = .returned (.tuple #[.string (S (nextB s.data.toList).1), .int .i64 ((nextB s.data.toList).2.1 : Nat), .int .i64 (nextB s.data.toList).2.2]) ∧ Below w.heap.size w w' := by
  have hl : s.data.toList.length = s.size := Cod.len_eq s
  obtain ⟨N, hN⟩ : ∃ N, N = nextB s.data.toList := ⟨_, rfl⟩
  rw [← hN]
  unfold nextB at hN
  rw [hl] at hN
  rcases Nat.lt_or_ge s.size 4 with h4 | h4
  · have f1 : (s.size : Int) < 4 := by omega
    rw [if_pos h4] at hN
    subst hN
    go_enter Tryz.func18, Tryz.ntmps18
    go_wp2_with fail
    go_ret3
    exact ⟨rfl, Below.refl _ _⟩
  · have f1 : ¬ (s.size : Int) < 4 := by omega
    rw [if_neg (by omega)] at hN
    have hn32 := num4_lt s.data.toList 4 (by omega)
    obtain ⟨n, hn⟩ : ∃ n, n = num4 (s.data.toList.take 4) := ⟨_, rfl⟩
    rw [← hn] at hN hn32
    have HNN := hidm hn
    clear hn
    have hn32' : n < 4294967296 := hn32
    clear hn32 hl
    rcases Nat.lt_or_ge 100000 n with hb | hb
    · have f2 : (100000 : Int) < (n : Int) := by omega
      rw [if_pos hb] at hN
      subst hN
      go_enter Tryz.func18, Tryz.ntmps18
      go_wp2_with fail
      go_loopw [5, 6] (fun nn ii wr => ∃ (i m : Nat), nn = .int .i64 m ∧ ii = .int .i64 i ∧ i ≤ 4 ∧ Hid (m = num4 (s.data.toList.take i)) ∧ Hid (w = wr)) (fun _ ii _ => 4 - (intOf ii).toNat)
      case atStart => exact ⟨0, 0, rfl, rfl, by omega, hidm rfl, hidm rfl⟩
      case round =>
        obtain ⟨i, m, rfl, rfl, hi, HM, HW⟩ := hrel
        rcases Nat.lt_or_ge i 4 with h4i | h4i
        · have k1 : (i : Int) < 4 := by omega
          have hi2 : i < s.size := by omega
          have hia : i < s.data.toList.length := by rw [Cod.len_eq]; exact hi2
          obtain ⟨c, hc⟩ : ∃ c : UInt8, s[i] = c := ⟨_, rfl⟩
          have hcl := c.toNat_lt
          have hn3 : m < 16777216 := by
            have h1 := num4_lt s.data.toList i (by omega)
            rw [← HM.out] at h1
            have h2 : 256 ^ i ≤ 256 ^ 3 := Nat.pow_le_pow_right (by omega) (by omega)
            have h3 : (256 : Nat) ^ 3 = 16777216 := by decide
            omega
          have HM2 : Hid (m * 256 + c.toNat = num4 (s.data.toList.take (i + 1))) := hidm (by
            rw [num4_take _ hia, ← HM.out]
            have : s.data.toList[i] = c := hc
            rw [this])
          have k2 : wrap64 (256 * (m : Int)) = 256 * (m : Int) := by unfold wrap64; omega
          have k3 : wrap64 (256 * (m : Int) + (c.toNat : Int)) = 256 * (m : Int) + (c.toNat : Int) := by unfold wrap64; omega
          have HK := hidm (show (256 * (m : Int) + (c.toNat : Int)) = ((m * 256 + c.toNat : Nat) : Int) from by omega)
          go_wp2_with fail
          go_roundw
          case rel => exact ⟨i + 1, m * 256 + c.toNat, congrArg (Value.int .i64) HK.out, by go_num, by omega, HM2, HW⟩
          case measure => simp [intOf]; omega
        · obtain rfl : i = 4 := by omega
          have hmn : m = n := by rw [HM.out, HNN.out]
          subst hmn
          have hww := HW.out
          subst hww
          have k1 : ¬ ((4 : Int) < 4) := by omega
          go_wp2_with fail
          go_ret3
          exact ⟨rfl, Below.refl _ _⟩
    · have f2 : ¬ (100000 : Int) < (n : Int) := by omega
      rw [if_neg (by omega)] at hN
      have g1 : wrap64 ((n : Int) + 8) = (n : Int) + 8 := by unfold wrap64; omega
      rcases Nat.lt_or_ge s.size (n + 8) with h8 | h8
      · have f3 : (s.size : Int) < (n : Int) + 8 := by omega
        rw [if_pos h8] at hN
        subst hN
        go_enter Tryz.func18, Tryz.ntmps18
        go_wp2_with fail
        go_loopw [5, 6] (fun nn ii wr => ∃ (i m : Nat), nn = .int .i64 m ∧ ii = .int .i64 i ∧ i ≤ 4 ∧ Hid (m = num4 (s.data.toList.take i)) ∧ Hid (w = wr)) (fun _ ii _ => 4 - (intOf ii).toNat)
        case atStart => exact ⟨0, 0, rfl, rfl, by omega, hidm rfl, hidm rfl⟩
        case round =>
          obtain ⟨i, m, rfl, rfl, hi, HM, HW⟩ := hrel
          rcases Nat.lt_or_ge i 4 with h4i | h4i
          · have k1 : (i : Int) < 4 := by omega
            have hi2 : i < s.size := by omega
            have hia : i < s.data.toList.length := by rw [Cod.len_eq]; exact hi2
            obtain ⟨c, hc⟩ : ∃ c : UInt8, s[i] = c := ⟨_, rfl⟩
            have hcl := c.toNat_lt
            have hn3 : m < 16777216 := by
              have h1 := num4_lt s.data.toList i (by omega)
              rw [← HM.out] at h1
              have h2 : 256 ^ i ≤ 256 ^ 3 := Nat.pow_le_pow_right (by omega) (by omega)
              have h3 : (256 : Nat) ^ 3 = 16777216 := by decide
              omega
            have HM2 : Hid (m * 256 + c.toNat = num4 (s.data.toList.take (i + 1))) := hidm (by
              rw [num4_take _ hia, ← HM.out]
              have : s.data.toList[i] = c := hc
              rw [this])
            have k2 : wrap64 (256 * (m : Int)) = 256 * (m : Int) := by unfold wrap64; omega
            have k3 : wrap64 (256 * (m : Int) + (c.toNat : Int)) = 256 * (m : Int) + (c.toNat : Int) := by unfold wrap64; omega
            have HK := hidm (show (256 * (m : Int) + (c.toNat : Int)) = ((m * 256 + c.toNat : Nat) : Int) from by omega)
            go_wp2_with fail
            go_roundw
            case rel => exact ⟨i + 1, m * 256 + c.toNat, congrArg (Value.int .i64) HK.out, by go_num, by omega, HM2, HW⟩
            case measure => simp [intOf]; omega
          · obtain rfl : i = 4 := by omega
            have hmn : m = n := by rw [HM.out, HNN.out]
            subst hmn
            have hww := HW.out
            subst hww
            have k1 : ¬ ((4 : Int) < 4) := by omega
            go_wp2_with fail
            go_ret3
            exact ⟨rfl, Below.refl _ _⟩
      · have f3 : ¬ (s.size : Int) < (n : Int) + 8 := by omega
        have f4 : (n : Int) + 8 ≤ (s.size : Int) := by omega
        rw [if_neg (by omega)] at hN
        have HT := fun w => Crc.rtake_any (s.extract 4 (n + 8)) (by rw [ByteArray.size_extract]; omega) w
        have hcb : s.extract 4 (n + 8) = S ((s.data.toList.drop 4).take (n + 4)) := by
          rw [show n + 8 = 4 + (n + 4) by omega]; exact cut_bytes s 4 (n + 4)
        have hcd : (s.extract 4 (n + 8)).data.toList = (s.data.toList.drop 4).take (n + 4) := by rw [hcb]
        rw [hcd] at HT
        obtain ⟨q, hq⟩ : ∃ q, q = (s.data.toList.drop 4).take (n + 4) := ⟨_, rfl⟩
        rw [← hq] at HT hN
        have HTT := hidm HT
        clear HT hcb hcd hq
        rcases hg : Crc.good q with _ | _
        · rw [if_neg (by rw [hg]; simp)] at hN
          subst hN
          rw [hg] at HTT
          go_enter Tryz.func18, Tryz.ntmps18
          go_wp2_with fail
          go_loopw [5, 6] (fun nn ii wr => ∃ (i m : Nat), nn = .int .i64 m ∧ ii = .int .i64 i ∧ i ≤ 4 ∧ Hid (m = num4 (s.data.toList.take i)) ∧ Hid (w = wr)) (fun _ ii _ => 4 - (intOf ii).toNat)
          case atStart => exact ⟨0, 0, rfl, rfl, by omega, hidm rfl, hidm rfl⟩
          case round =>
            obtain ⟨i, m, rfl, rfl, hi, HM, HW⟩ := hrel
            rcases Nat.lt_or_ge i 4 with h4i | h4i
            · have k1 : (i : Int) < 4 := by omega
              have hi2 : i < s.size := by omega
              have hia : i < s.data.toList.length := by rw [Cod.len_eq]; exact hi2
              obtain ⟨c, hc⟩ : ∃ c : UInt8, s[i] = c := ⟨_, rfl⟩
              have hcl := c.toNat_lt
              have hn3 : m < 16777216 := by
                have h1 := num4_lt s.data.toList i (by omega)
                rw [← HM.out] at h1
                have h2 : 256 ^ i ≤ 256 ^ 3 := Nat.pow_le_pow_right (by omega) (by omega)
                have h3 : (256 : Nat) ^ 3 = 16777216 := by decide
                omega
              have HM2 : Hid (m * 256 + c.toNat = num4 (s.data.toList.take (i + 1))) := hidm (by
                rw [num4_take _ hia, ← HM.out]
                have : s.data.toList[i] = c := hc
                rw [this])
              have k2 : wrap64 (256 * (m : Int)) = 256 * (m : Int) := by unfold wrap64; omega
              have k3 : wrap64 (256 * (m : Int) + (c.toNat : Int)) = 256 * (m : Int) + (c.toNat : Int) := by unfold wrap64; omega
              have HK := hidm (show (256 * (m : Int) + (c.toNat : Int)) = ((m * 256 + c.toNat : Nat) : Int) from by omega)
              go_wp2_with fail
              go_roundw
              case rel => exact ⟨i + 1, m * 256 + c.toNat, congrArg (Value.int .i64) HK.out, by go_num, by omega, HM2, HW⟩
              case measure => simp [intOf]; omega
            · obtain rfl : i = 4 := by omega
              have hmn : m = n := by rw [HM.out, HNN.out]
              subst hmn
              have hww := HW.out
              subst hww
              have k1 : ¬ ((4 : Int) < 4) := by omega
              go_wp2_with fail
              refine (HTT.out _).mono ?_
              rintro e w2 ⟨rfl, hb2⟩
              have HB := hidm hb2
              clear hb2
              go_wp2_with fail
              go_ret3
              exact ⟨rfl, HB.out⟩
        · rw [if_pos hg] at hN
          subst hN
          rw [hg] at HTT
          go_enter Tryz.func18, Tryz.ntmps18
          go_wp2_with fail
          go_loopw [5, 6] (fun nn ii wr => ∃ (i m : Nat), nn = .int .i64 m ∧ ii = .int .i64 i ∧ i ≤ 4 ∧ Hid (m = num4 (s.data.toList.take i)) ∧ Hid (w = wr)) (fun _ ii _ => 4 - (intOf ii).toNat)
          case atStart => exact ⟨0, 0, rfl, rfl, by omega, hidm rfl, hidm rfl⟩
          case round =>
            obtain ⟨i, m, rfl, rfl, hi, HM, HW⟩ := hrel
            rcases Nat.lt_or_ge i 4 with h4i | h4i
            · have k1 : (i : Int) < 4 := by omega
              have hi2 : i < s.size := by omega
              have hia : i < s.data.toList.length := by rw [Cod.len_eq]; exact hi2
              obtain ⟨c, hc⟩ : ∃ c : UInt8, s[i] = c := ⟨_, rfl⟩
              have hcl := c.toNat_lt
              have hn3 : m < 16777216 := by
                have h1 := num4_lt s.data.toList i (by omega)
                rw [← HM.out] at h1
                have h2 : 256 ^ i ≤ 256 ^ 3 := Nat.pow_le_pow_right (by omega) (by omega)
                have h3 : (256 : Nat) ^ 3 = 16777216 := by decide
                omega
              have HM2 : Hid (m * 256 + c.toNat = num4 (s.data.toList.take (i + 1))) := hidm (by
                rw [num4_take _ hia, ← HM.out]
                have : s.data.toList[i] = c := hc
                rw [this])
              have k2 : wrap64 (256 * (m : Int)) = 256 * (m : Int) := by unfold wrap64; omega
              have k3 : wrap64 (256 * (m : Int) + (c.toNat : Int)) = 256 * (m : Int) + (c.toNat : Int) := by unfold wrap64; omega
              have HK := hidm (show (256 * (m : Int) + (c.toNat : Int)) = ((m * 256 + c.toNat : Nat) : Int) from by omega)
              go_wp2_with fail
              go_roundw
              case rel => exact ⟨i + 1, m * 256 + c.toNat, congrArg (Value.int .i64) HK.out, by go_num, by omega, HM2, HW⟩
              case measure => simp [intOf]; omega
            · obtain rfl : i = 4 := by omega
              have hmn : m = n := by rw [HM.out, HNN.out]
              subst hmn
              have hww := HW.out
              subst hww
              have k1 : ¬ ((4 : Int) < 4) := by omega
              go_wp2_with fail
              refine (HTT.out _).mono ?_
              rintro e w2 ⟨rfl, hb2⟩
              have HB := hidm hb2
              clear hb2
              go_wp2_with fail
              go_ret3
              exact ⟨by simp, HB.out⟩
set_option maxHeartbeats 4000000 in
set_option maxRecDepth 100000 in
theorem rsplit_any (s : ByteArray) (hs : s.size ≤ 1000000000) (w : World) :
    Calls Tryz.prog 20 #[.string s] w fun e w' => SplitP s.data.toList w e w' := by
  obtain ⟨i0, hi, hz0, hz1, hz2⟩ := info_parts infoS
  have hl : s.data.toList.length = s.size := Cod.len_eq s
  have HLL := hidm hl
  clear hl
  go_enter Tryz.func20, Tryz.ntmps20
  go_wp2_with fail
  go_loopw [5, 6] (fun b5 p7 wr => ∃ (p : Nat) (bs : List (List UInt8)) (so : Option Addr) (sc : Nat), b5 = .slice so bs.length sc ∧ p7 = .int .i64 p ∧ p ≤ s.size ∧ bs.length ≤ p ∧ Hid (wr.ownsRow w.heap.size 9 1 (.slice so bs.length sc) bs.length (strs bs)) ∧ Hid (Below w.heap.size w wr) ∧ Hid (Spl s.data.toList bs p)) (fun _ p7 _ => s.size - (intOf p7).toNat)
  case atStart => exact ⟨0, [], none, 0, rfl, rfl, by omega, by simp, hidm (World.ownsRow_nil _ _ _ _), hidm (Below.refl _ _), hidm (by unfold Spl; simp)⟩
  case round =>
    obtain ⟨p, bs, so, sc, rfl, rfl, hp, hbp, HO, HB, HS⟩ := hrel
    rcases Nat.lt_or_ge p s.size with hlt | hge
    · have f1 : (p : Int) < (s.size : Int) := by omega
      have NX := fun w => rnext_any (s.extract p s.size) (by rw [ByteArray.size_extract]; omega) w
      have hdl : (s.data.toList.drop p).length = s.size - p := by rw [List.length_drop, HLL.out]
      rw [Crc.cut_drop] at NX
      obtain ⟨q, hq⟩ : ∃ q, q = s.data.toList.drop p := ⟨_, rfl⟩
      rw [← hq] at NX hdl
      have HQ := hidm hq
      have hqne : q ≠ [] := fun e => by rw [e] at hdl; simp at hdl; omega
      clear hq
      by_cases hx : (nextB q).2.2 = 0
      · obtain ⟨n1, n2, _, n4⟩ := next_len hx
        have HST := hidm (split_step hx)
        rw [hx] at NX
        obtain ⟨b, hb⟩ : ∃ b, b = (nextB q).1 := ⟨_, rfl⟩
        obtain ⟨k, hk⟩ : ∃ k, k = (nextB q).2.1 := ⟨_, rfl⟩
        rw [← hb, ← hk] at NX HST
        rw [← hb] at n1 n4
        rw [← hk] at n1 n2
        have HNX := hidm NX
        have hk2 : p + k ≤ s.size := by omega
        have hk1 : 8 ≤ k := by omega
        clear hb hk hx NX hqne n1 n2 n4 hdl
        go_wp2_with fail
        refine (HNX.out _).mono ?_
        rintro e w1 ⟨rfl, hb1⟩
        have HB1 := hidm (HB.out.trans (hb1.mono HB.out.size))
        have HO1 := hidm (Cod.owns_later HO.out hb1)
        have hbs := HB1.out.size
        clear hb1
        go_wp2_with (at_builtin; refine wpList_append_own _ rfl _ _ 42 rfl w.heap.size 9 i0 (.string ⟨#[]⟩) 1 16 Tryz.underlying42 hi hz0 hz1 hz2 rfl (by decide) _ _ _ rfl (Cod.owns_later HO1.out ((Below.refl _ _).alloc (Nat.le_refl _) _)) ⟨w1.heap.size, 0, none⟩ 1 1 [.string (S b)] rfl rfl ?CA ?CB ?CC ?CD ?CE ?_)
        case CA =>
          intro j y hj
          match j, hj with
          | 0, hj => simp at hj; subst hj; simp [Addr.add, go_sem]
          | j + 1, hj => simp at hj
        case CB => intro y hy; simp at hy; subst hy; rfl
        case CC => unfold maxLen; omega
        case CD => omega
        case CE => simp; omega
        intro v' w2 hown hgrow _
        rw [show strs bs ++ [.string (S b)] = strs (bs ++ [b]) from by unfold strs; simp] at hown
        obtain ⟨vo, vc, hvv⟩ : ∃ so sc, v' = .slice so (bs.length + 1) sc := by
          rcases hown.2 with ⟨hv, h0⟩ | ⟨g, cap, cur, hv, _⟩
          · exact absurd h0 (by omega)
          · exact ⟨_, _, hv⟩
        subst hvv
        have HO2 := hidm (show w2.ownsRow w.heap.size 9 1 (.slice vo (bs ++ [b]).length vc) (bs ++ [b]).length (strs (bs ++ [b])) from by rw [List.length_append]; exact hown)
        have HB2 := hidm ((HB1.out.alloc HB1.out.size (.cells #[.string (S b)] 9)).grown hgrow (by simp; omega) (fun g hg => (HO1.out.lt g hg).1))
        have HS2 := hidm (show Spl s.data.toList (bs ++ [b]) (p + k) from by
          have h1 := HS.out
          unfold Spl at h1 ⊢
          rw [← HQ.out, HST.out] at h1
          rw [h1]
          have e1 : q.drop k = s.data.toList.drop (p + k) := by rw [HQ.out, List.drop_drop]
          rw [e1]
          simp only [List.append_assoc, List.singleton_append, Nat.add_assoc])
        clear hown hgrow
        go_wp2_with fail
        go_roundw
        case rel => exact ⟨p + k, bs ++ [b], vo, vc, by rw [List.length_append]; rfl, by go_num, by omega, by rw [List.length_append]; simp; omega, HO2, HB2, HS2⟩
        case measure => simp [intOf]; omega
      · have HBAD := hidm (split_bad hqne hx)
        have hnx := next_err hx
        obtain ⟨x, hxx⟩ : ∃ x, x = (nextB q).2.2 := ⟨_, rfl⟩
        rw [hnx.1, hnx.2, ← hxx] at NX
        rw [← hxx] at HBAD hx
        have HNX := hidm NX
        have f2 : (x != 0) = true := by simpa using hx
        clear NX hnx hxx hx hqne hdl
        go_wp2_with fail
        refine (HNX.out _).mono ?_
        rintro e w1 ⟨rfl, hb1⟩
        have HB1 := hidm (HB.out.trans (hb1.mono HB.out.size))
        have HO1 := hidm (Cod.owns_later HO.out hb1)
        clear hb1
        have HE := hidm (show splitB s.data.toList = (bs, p, x) from by
          have h1 := HS.out
          unfold Spl at h1
          rw [← HQ.out, HBAD.out] at h1
          rw [h1]; simp)
        go_wp2_with fail
        go_ret3
        refine ⟨so, sc, ?_, ?_, HB1.out⟩
        · rw [HE.out]; rfl
        · rw [HE.out]; exact StrsAt.of_owns HO1.out
    · obtain rfl : p = s.size := by omega
      have f1 : ¬ ((s.size : Int) < (s.size : Int)) := by omega
      have HE := hidm (show splitB s.data.toList = (bs, s.size, 0) from by
        have h1 := HS.out
        unfold Spl at h1
        rw [List.drop_of_length_le (by rw [HLL.out]; omega), split_nil] at h1
        rw [h1]; simp)
      go_wp2_with fail
      go_ret3
      refine ⟨so, sc, ?_, ?_, HB.out⟩
      · rw [HE.out]; rfl
      · rw [HE.out]; exact StrsAt.of_owns HO.out
set_option maxHeartbeats 4000000 in
set_option maxRecDepth 100000 in
theorem rtexts_same (bs : List (List UInt8)) (sa sb : Value) (w : World) (h1 : StrsAt bs sa w) (h2 : StrsAt bs sb w) :
    Calls Tryz.prog 23 #[sa, sb] w fun e w' => e = .returned (.bool true) ∧ Below w.heap.size w w' := by
  obtain ⟨ao, ac, rfl, hac, ham⟩ := h1.form
  obtain ⟨bo, bc, rfl, hbc, hbm⟩ := h2.form
  have H1 := hidm h1
  have H2 := hidm h2
  obtain ⟨n, hn⟩ : ∃ n, n = bs.length := ⟨_, rfl⟩
  have HN := hidm hn
  rw [← hn]
  have hnb : n ≤ 9223372036854775807 := by omega
  clear h1 h2 hac hbc ham hbm hn
  go_enter Tryz.func23, Tryz.ntmps23
  go_wp2_with fail
  go_loopw [5] (fun ii wr => ∃ i : Nat, ii = .int .i64 i ∧ i ≤ n ∧ Hid (Below w.heap.size w wr)) (fun ii _ => (n - (intOf ii).toNat))
  case atStart => exact ⟨0, rfl, by omega, hidm (Below.refl _ _)⟩
  case round =>
    obtain ⟨i, rfl, hi, HB⟩ := hrel
    rcases Nat.lt_or_ge i n with hlt | hge
    · have f1 : (i : Int) < n := by omega
      have hia : i < bs.length := by have := HN.out; omega
      obtain ⟨b1, o1, c1, he1, _, q0⟩ := (H1.out.later HB.out).at i hia
      obtain ⟨b2, o2, c2, he2, _, r0⟩ := (H2.out.later HB.out).at i hia
      simp only [Value.slice.injEq, true_and] at he1 he2
      obtain ⟨rfl, rfl⟩ := he1
      obtain ⟨rfl, rfl⟩ := he2
      obtain ⟨x, hx⟩ : ∃ x, x = bs[i] := ⟨_, rfl⟩
      rw [← hx] at q0 r0
      clear hx
      go_wp2_with fail
      go_quiet (fail)
      go_wp2_with fail
      go_roundw
      case rel => exact ⟨i + 1, by go_num, by omega, hidm (below_drewN HB.out _)⟩
      case measure => simp [intOf]; omega
    · obtain rfl : i = n := by omega
      have f1 : ¬ (i : Int) < i := by omega
      go_wp2_with fail
      go_ret
      exact ⟨rfl, HB.out⟩
end Frm
end Go.Proofs.YtopmbhpjdmcabaaGreat
