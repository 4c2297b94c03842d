/- The document's Widen (layer 5). Conditions: names are at most 2^48 bytes; there are at most a million columns, and values. -/
import Derived.Test.YtkgiomdjihcfoaaKk
namespace Go.Proofs.Ytkgiomdjihcfoaa
open Go.RowKit
namespace Sch
open Cod
def lenOf5 : Value → Nat
  | .slice _ n _ => n
  | _ => 0
theorem wid_step {r : List V} {m i : Nat} (h : m ≤ i) : flat (r ++ List.replicate (i - m) nullV) ++ [.int .i64 0, .int .i64 0, .int .u64 0, .string ⟨#[]⟩] = flat (r ++ List.replicate (i + 1 - m) nullV) := by
  rw [show i + 1 - m = (i - m) + 1 from by omega, List.replicate_succ', ← List.append_assoc, flat_snoc]
  rfl
set_option maxHeartbeats 4000000 in
set_option maxRecDepth 100000 in
theorem rwiden_any (s : T) (hl : Lim s) (sl : Value) (r : List V) (rl : Value) (hrn : r.length ≤ 1000000) (hrb : ∀ v ∈ r, v.b < 18446744073709551616) (w : World) (h : ColsAt s.cols sl w) (hr : RowC r rl w) :
    Calls Try.prog 22 #[.agg #[.string (S s.nm), sl, .int .i64 s.keys], rl] w fun e w' => Out2 (widenB s r).1 (widenB s r).2 w e w' := by
  obtain ⟨i0, hi, hz0, hz1, hz2⟩ := info_parts infoV
  obtain ⟨ao, cap, rfl, hcl, hcm⟩ := h.form
  obtain ⟨ro, rc, rfl, hrc, hrm, _⟩ := hr.2
  have H := hidm h
  have HL := hidm hl
  have HS0 := hidm (Boxed.start s ao cap w)
  have hb0 : Below w.heap.size w (w.alloc (.cells #[.string (S s.nm), .slice ao s.cols.length cap, .int .i64 s.keys] 24)) := (Below.refl _ _).alloc (Nat.le_refl _) _
  have HR := hidm hr
  obtain ⟨F, hF⟩ : ∃ F, F = widenB s r := ⟨_, rfl⟩
  rw [← hF]
  have HF := hidm hF
  rcases hb : rightB s with _ | _
  · have HFF := hidm (show F = ([], 11) from by rw [HF.out]; unfold widenB; rw [if_pos hb])
    have R := rright_is hb hl _ _ (h.later hb0)
    clear h hl hb0 hF hb hr hrb
    go_enter Try.func22, Try.ntmps22
    go_wp2_with fail
    refine R.mono ?_
    rintro e w1 ⟨rfl, hb1⟩
    have HB1 := hidm (HS0.out.then hb1)
    clear hb1 R
    go_wp2_with fail
    go_ret2
    rw [HFF.out]
    exact ⟨_, rfl, RowC.nil _, HB1.out.below⟩
  · have HRT := hidm hb
    have R := rright_is hb hl _ _ (h.later hb0)
    obtain ⟨n, hn⟩ : ∃ n, n = s.cols.length := ⟨_, rfl⟩
    obtain ⟨m, hm⟩ : ∃ m, m = r.length := ⟨_, rfl⟩
    have hp := (head_parts (right_head hb)).2
    have HN := hidm hn
    have HM := hidm hm
    have hn16 : n ≤ 16 := by omega
    have hn1 : 1 ≤ n := by omega
    rw [← hn] at R hcl ⊢
    rw [← hm] at hrc hrn ⊢
    rcases Nat.lt_or_ge n m with hnm | hnm
    · have HFF := hidm (show F = ([], 10) from by rw [HF.out]; unfold widenB; rw [if_neg (by simp [hb]), if_pos (by omega)])
      clear h hl hb0 hF hb hr hrb hn hm hp
      have f0 : (n : Int) < m := by omega
      go_enter Try.func22, Try.ntmps22
      go_wp2_with fail
      refine R.mono ?_
      rintro e w1 ⟨rfl, hb1⟩
      have HB1 := hidm (HS0.out.then (by rw [← HN.out]; exact hb1))
      have c1 := HB1.out.c1
      rw [← HN.out] at c1
      clear hb1 R
      go_wp2_with fail
      go_ret2
      rw [HFF.out]
      exact ⟨_, rfl, RowC.nil _, HB1.out.below⟩
    · have f0 : ¬ (n : Int) < m := by omega
      have hd : (n : Int) - (m : Int) = ((n - m : Nat) : Int) := by omega
      have HWL := hidm (show (wideB s r).length = n from by rw [wide_len (by omega), hn])
      have HWS := hidm (show ∀ v ∈ wideB s r, v.b < 18446744073709551616 from fun v hv => by
        unfold wideB at hv
        rcases List.mem_append.1 hv with h | h
        · exact hrb v h
        · rw [(List.mem_replicate.1 h).2]; simp [nullV])
      have HWD := hidm (show wideB s r = r ++ List.replicate (n - m) nullV from by unfold wideB; rw [hn, hm])
      obtain ⟨x, hx⟩ : ∃ x, fitsB s (wideB s r) = x := ⟨_, rfl⟩
      have HX := hidm hx
      have HFF := hidm (show F = if x = 0 then (wideB s r, 0) else ([], x) from by
        rw [HF.out]; unfold widenB; rw [if_neg (by simp [hb]), if_neg (by omega), hx])
      have hr2 : RowC r (.slice ro m rc) w := by rw [HM.out]; exact HR.out
      clear h hl hb0 hF hb hr hrb hn hm hp hx
      have HRX := hidm hr2
      go_enter Try.func22, Try.ntmps22
      go_wp2_with fail
      refine R.mono ?_
      rintro e w1 ⟨rfl, hb1⟩
      have HB1 := hidm (HS0.out.then (by rw [← HN.out]; exact hb1))
      have c1 := HB1.out.c1
      rw [← HN.out] at c1
      have hsz1 := HB1.out.size
      have HR1 := hidm (HRX.out.later HB1.out.below)
      have hown := World.ownsRow_nil w1 (w.heap.size + 1) 46 4
      have hlt2 := hown.lt
      clear hb1 R HRX
      rcases HR1.out.src with ⟨hn1', hn2⟩ | ⟨ad, c2', hs, hsc, hcell⟩
      · have hm0 : m = 0 := by rw [HM.out, hn2]; rfl
        simp only [Value.slice.injEq] at hn1'
        obtain ⟨rfl, _, rfl⟩ := hn1'
        subst hm0
        go_wp2_with (at_builtin; refine wpList_append_own_none rfl _ _ 32 rfl (w.heap.size + 1) 46 i0 4 Try.underlying32 hi _ _ _ rfl hown rfl ?_)
        have HO1 : Hid (w1.ownsRow (w.heap.size + 1) 46 4 (.slice none 0 0) 0 (flat (r ++ List.replicate (0 - 0) nullV))) := hidm (by rw [hn2]; exact hown)
        have HB2 := HB1
        clear hown hlt2 c1 HB1
        go_wp2
        go_loopw [6] (fun vv wr => ∃ (i : Nat) (so : Option Addr) (sc : Nat), vv = .slice so i sc ∧ 0 ≤ i ∧ i ≤ n ∧ Hid (wr.ownsRow (w.heap.size + 1) 46 4 (.slice so i sc) i (flat (r ++ List.replicate (i - 0) nullV))) ∧ Hid (Boxed s ao cap w wr)) (fun vv _ => (n - lenOf5 vv))
        case atStart => exact ⟨0, none, 0, rfl, Nat.le_refl _, hnm, HO1, HB2⟩
        case round =>
          clear HO1 HB2
          obtain ⟨i, so, sc, rfl, hi1, hi2, HO, HB⟩ := hrel
          have c1 := HB.out.c1
          rw [← HN.out] at c1
          rcases Nat.lt_or_ge i n with hlt | hge
          · have f1 : (i : Int) < n := by omega
            have hown := HO.out
            have hlt2 := hown.lt
            have hsz := HB.out.size
            go_wp2_with (at_builtin; refine wpList_append_own _ rfl _ _ 32 rfl (w.heap.size + 1) 46 i0 (.agg #[.int .i64 0, .int .i64 0, .int .u64 0, .string ⟨#[]⟩]) 4 40 Try.underlying32 hi hz0 hz1 hz2 rfl (by decide) _ _ _ rfl (hown.alloc _) ⟨wr.heap.size, 0, none⟩ 1 1 [.int .i64 0, .int .i64 0, .int .u64 0, .string ⟨#[]⟩] rfl rfl ?c1 ?c2 ?c3 ?c4 ?c5 ?_)
            case c1 =>
              intro j y hj
              rcases cell_four _ _ _ _ j y hj with ⟨rfl, rfl⟩ | ⟨rfl, rfl⟩ | ⟨rfl, rfl⟩ | ⟨rfl, rfl⟩ <;> simp [Addr.add, go_sem]
            case c2 => intro y hy; simp at hy; rcases hy with rfl | rfl | rfl | rfl <;> rfl
            case c3 => unfold maxLen; omega
            case c4 => omega
            case c5 => simp; omega
            intro v' w3 hown' hgrow _
            have HB3 : Hid (Boxed s ao cap w w3) := hidm (Below.grown (show Below (w.heap.size + 1) _ _ from HB.out.alloc _) hgrow (by simp; omega) (fun k hk => (hlt2 k hk).1))
            have hown2 : w3.ownsRow (w.heap.size + 1) 46 4 v' (i + 1) (flat (r ++ List.replicate (i + 1 - 0) nullV)) := by
              rw [← wid_step hi1]; simpa [hn2] using hown'
            clear hown'
            have hown' := hown2
            clear hown2
            obtain ⟨vo, vc, hvv⟩ : ∃ so sc, v' = .slice so (i + 1) sc := by
              rcases hown'.2 with ⟨hv, h0⟩ | ⟨g, cap, cur, hv, _⟩
              · exact absurd h0 (by omega)
              · exact ⟨_, _, hv⟩
            subst hvv
            have HO3 := hidm hown'
            clear hown' hgrow hown hlt2 hsz
            go_wp2
            go_roundw
            case rel => exact ⟨i + 1, vo, vc, rfl, by omega, by omega, HO3, HB3⟩
            case measure => simp [lenOf5]; omega
          · obtain rfl : i = n := by omega
            have hv1 := RowC.of_owns (by have h := HO.out; rw [← HWD.out] at h; rw [← HWL.out] at h; exact h)
            have hv2 := hidm hv1
            have P := rfits_is HX.out HL.out (.slice ao s.cols.length cap) (.slice so i sc) (by rw [HWL.out]; omega) HWS.out wr (H.out.later HB.out.below) (by have h := hv1.1; rw [HWL.out] at h; exact h)
            rw [← HN.out] at P
            have c0 := HB.out.c0
            have c2 := HB.out.c2
            have f1 : ¬ (i : Int) < i := by omega
            clear hv1
            go_wp2_with fail
            refine P.mono ?_
            rintro e w4 ⟨rfl, hb4⟩
            have HB5 := hidm (HB.out.then hb4)
            have HV4 := hidm (hv2.out.later hb4)
            clear hb4 P c0 c1 c2 f1
            by_cases hx0 : x = 0
            · have HF0 := hidm (show F = (wideB s r, 0) from by rw [HFF.out, if_pos hx0])
              have f1 : (x != 0) = false := by rw [hx0]; rfl
              clear hx0
              go_wp2_with fail
              go_ret2
              rw [HF0.out]
              have h := HV4.out
              rw [HWL.out] at h
              exact ⟨_, rfl, h, HB5.out.below⟩
            · have HF0 := hidm (show F = ([], x) from by rw [HFF.out, if_neg hx0])
              have f1 : (x != 0) = true := by simpa using hx0
              clear hx0
              go_wp2_with fail
              go_ret2
              rw [HF0.out]
              exact ⟨_, rfl, RowC.nil _, HB5.out.below⟩
      · rw [← HM.out] at hs
        simp only [Value.slice.injEq, true_and] at hs
        obtain ⟨rfl, _⟩ := hs
        have HCL := hidm hcell
        have hfl := hidm (show (flat r).length = m * 4 from by rw [flat_len, ← HM.out])
        clear hcell hsc
        go_wp2_with (at_builtin; refine wpList_append_own _ rfl _ _ 32 rfl (w.heap.size + 1) 46 i0 (.agg #[.int .i64 0, .int .i64 0, .int .u64 0, .string ⟨#[]⟩]) 4 40 Try.underlying32 hi hz0 hz1 hz2 rfl (by decide) _ _ _ rfl hown ad m _ (flat r) rfl hfl.out HCL.out flat_one (by unfold maxLen; omega) (by omega) hsz1 ?_)
        intro v' w3 hown' hgrow _
        have HB2 : Hid (Boxed s ao cap w w3) := hidm (Below.grown (show Below (w.heap.size + 1) _ _ from HB1.out) hgrow hsz1 (fun k hk => (hlt2 k hk).1))
        obtain ⟨so0, sc0, hvv⟩ : ∃ so sc, v' = .slice so m sc := by
          rcases hown'.2 with ⟨hv, h0⟩ | ⟨g, cap, cur, hv, _⟩
          · exact ⟨none, 0, by rw [hv, h0]⟩
          · exact ⟨_, _, by simpa using hv⟩
        subst hvv
        have HO1 : Hid (w3.ownsRow (w.heap.size + 1) 46 4 (.slice so0 m sc0) m (flat (r ++ List.replicate (m - m) nullV))) := hidm (by have h := hown'; rw [Nat.sub_self]; simpa using h)
        clear hown hown' hgrow hlt2 c1 hsz1 HB1
        go_wp2
        go_loopw [6] (fun vv wr => ∃ (i : Nat) (so : Option Addr) (sc : Nat), vv = .slice so i sc ∧ m ≤ i ∧ i ≤ n ∧ Hid (wr.ownsRow (w.heap.size + 1) 46 4 (.slice so i sc) i (flat (r ++ List.replicate (i - m) nullV))) ∧ Hid (Boxed s ao cap w wr)) (fun vv _ => (n - lenOf5 vv))
        case atStart => exact ⟨m, so0, sc0, rfl, Nat.le_refl _, hnm, HO1, HB2⟩
        case round =>
          clear HO1 HB2
          obtain ⟨i, so, sc, rfl, hi1, hi2, HO, HB⟩ := hrel
          have c1 := HB.out.c1
          rw [← HN.out] at c1
          rcases Nat.lt_or_ge i n with hlt | hge
          · have f1 : (i : Int) < n := by omega
            have hown := HO.out
            have hlt2 := hown.lt
            have hsz := HB.out.size
            go_wp2_with (at_builtin; refine wpList_append_own _ rfl _ _ 32 rfl (w.heap.size + 1) 46 i0 (.agg #[.int .i64 0, .int .i64 0, .int .u64 0, .string ⟨#[]⟩]) 4 40 Try.underlying32 hi hz0 hz1 hz2 rfl (by decide) _ _ _ rfl (hown.alloc _) ⟨wr.heap.size, 0, none⟩ 1 1 [.int .i64 0, .int .i64 0, .int .u64 0, .string ⟨#[]⟩] rfl rfl ?c1 ?c2 ?c3 ?c4 ?c5 ?_)
            case c1 =>
              intro j y hj
              rcases cell_four _ _ _ _ j y hj with ⟨rfl, rfl⟩ | ⟨rfl, rfl⟩ | ⟨rfl, rfl⟩ | ⟨rfl, rfl⟩ <;> simp [Addr.add, go_sem]
            case c2 => intro y hy; simp at hy; rcases hy with rfl | rfl | rfl | rfl <;> rfl
            case c3 => unfold maxLen; omega
            case c4 => omega
            case c5 => simp; omega
            intro v' w3 hown' hgrow _
            have HB3 : Hid (Boxed s ao cap w w3) := hidm (Below.grown (show Below (w.heap.size + 1) _ _ from HB.out.alloc _) hgrow (by simp; omega) (fun k hk => (hlt2 k hk).1))
            have hown2 : w3.ownsRow (w.heap.size + 1) 46 4 v' (i + 1) (flat (r ++ List.replicate (i + 1 - m) nullV)) := by
              rw [← wid_step hi1]; exact hown'
            clear hown'
            have hown' := hown2
            clear hown2
            obtain ⟨vo, vc, hvv⟩ : ∃ so sc, v' = .slice so (i + 1) sc := by
              rcases hown'.2 with ⟨hv, h0⟩ | ⟨g, cap, cur, hv, _⟩
              · exact absurd h0 (by omega)
              · exact ⟨_, _, hv⟩
            subst hvv
            have HO3 := hidm hown'
            clear hown' hgrow hown hlt2 hsz
            go_wp2
            go_roundw
            case rel => exact ⟨i + 1, vo, vc, rfl, by omega, by omega, HO3, HB3⟩
            case measure => simp [lenOf5]; omega
          · obtain rfl : i = n := by omega
            have hv1 := RowC.of_owns (by have h := HO.out; rw [← HWD.out] at h; rw [← HWL.out] at h; exact h)
            have hv2 := hidm hv1
            have P := rfits_is HX.out HL.out (.slice ao s.cols.length cap) (.slice so i sc) (by rw [HWL.out]; omega) HWS.out wr (H.out.later HB.out.below) (by have h := hv1.1; rw [HWL.out] at h; exact h)
            rw [← HN.out] at P
            have c0 := HB.out.c0
            have c2 := HB.out.c2
            have f1 : ¬ (i : Int) < i := by omega
            clear hv1
            go_wp2_with fail
            refine P.mono ?_
            rintro e w4 ⟨rfl, hb4⟩
            have HB5 := hidm (HB.out.then hb4)
            have HV4 := hidm (hv2.out.later hb4)
            clear hb4 P c0 c1 c2 f1
            by_cases hx0 : x = 0
            · have HF0 := hidm (show F = (wideB s r, 0) from by rw [HFF.out, if_pos hx0])
              have f1 : (x != 0) = false := by rw [hx0]; rfl
              clear hx0
              go_wp2_with fail
              go_ret2
              rw [HF0.out]
              have h := HV4.out
              rw [HWL.out] at h
              exact ⟨_, rfl, h, HB5.out.below⟩
            · have HF0 := hidm (show F = ([], x) from by rw [HFF.out, if_neg hx0])
              have f1 : (x != 0) = true := by simpa using hx0
              clear hx0
              go_wp2_with fail
              go_ret2
              rw [HF0.out]
              exact ⟨_, rfl, RowC.nil _, HB5.out.below⟩
end Sch
end Go.Proofs.Ytkgiomdjihcfoaa
