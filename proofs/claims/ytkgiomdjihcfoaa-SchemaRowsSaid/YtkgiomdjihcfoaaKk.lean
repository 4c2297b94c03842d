/- The document's Key (layer 5). Conditions: names are at most 2^48 bytes; there are at most a million columns, and values. -/
import Derived.Test.YtkgiomdjihcfoaaKj
import Derived.Test.YtkgiomdjihcfoaaJl
namespace Go.Proofs.Ytkgiomdjihcfoaa
open Go.RowKit
namespace Sch
open Cod
theorem rfits_is {s : T} {r : List V} {x : Int} (hx : fitsB s r = x) (hl : Lim s) (sl : Value) (rl : Value) (hrn : r.length ≤ 1000000) (hrb : ∀ v ∈ r, v.b < 18446744073709551616) (w : World) (h : ColsAt s.cols sl w) (hr : RowAt r rl w) :
    Calls Try.prog 24 #[.agg #[.string (S s.nm), sl, .int .i64 s.keys], rl] w fun e w' => e = .returned (.int .i64 x) ∧ Below w.heap.size w w' := hx ▸ rfits_any s hl sl r rl hrn hrb w h hr
set_option maxHeartbeats 2000000 in
set_option maxRecDepth 100000 in
theorem rkey_any (s : T) (hl : Lim s) (sl : Value) (r : List V) (rl : Value) (hrn : r.length ≤ 1000000) (hrb : ∀ v ∈ r, v.b < 18446744073709551616) (w : World) (h : ColsAt s.cols sl w) (hr : RowC r rl w) :
    Calls Try.prog 27 #[.agg #[.string (S s.nm), sl, .int .i64 s.keys], rl] w fun e w' => Out1 (keyB s r) w e w' := by
  obtain ⟨i0, hi, hz0, hz1, hz2⟩ := info_parts infoV
  obtain ⟨ao, cap, rfl, hcl, hcm⟩ := h.form
  obtain ⟨ro, rc, rfl, hrc, hrm, _⟩ := hr.2
  have HS0 := hidm (Boxed.start s ao cap w)
  have hb0 : Below w.heap.size w (w.alloc (.cells #[.string (S s.nm), .slice ao s.cols.length cap, .int .i64 s.keys] 24)) := (Below.refl _ _).alloc (Nat.le_refl _) _
  have HR := hidm hr
  have HRB := hidm hrb
  obtain ⟨F, hF⟩ : ∃ F, F = keyB s r := ⟨_, rfl⟩
  rw [← hF]
  have HF := hidm hF
  by_cases h0 : fitsB s r = 0
  · have P := rfits_is h0 hl _ _ hrn HRB.out _ (h.later hb0) (hr.1.later hb0)
    obtain ⟨k1, k2, k3⟩ := fits_keys h0
    obtain ⟨k, hk⟩ : ∃ k : Nat, s.keys = (k : Int) := Int.eq_ofNat_of_zero_le (by omega)
    have HK := hidm hk
    have hkr : k ≤ r.length := by omega
    have hk1' : 1 ≤ k := by omega
    have HKR := hidm hkr
    have HFF := hidm (show F = r.take k from by rw [HF.out]; unfold keyB; rw [if_pos h0, hk]; rfl)
    obtain ⟨m, hm⟩ : ∃ m, m = r.length := ⟨_, rfl⟩
    have HM := hidm hm
    rw [hk] at P ⊢
    rw [← hm] at P hrc hkr hrn ⊢
    have hkc : k ≤ rc := by omega
    clear h0 h hr hl hb0 hF hk hm k1 k2 k3 hrb
    go_enter Try.func27, Try.ntmps27
    go_wp2_with fail
    refine P.mono ?_
    rintro e w1 ⟨rfl, hb1⟩
    have HB1 := hidm (HS0.out.then (by rw [HK.out]; exact hb1))
    have c2 := HB1.out.c2
    rw [HK.out] at c2
    have HRT := hidm ((HR.out.take k HKR.out).later HB1.out.below)
    have hk1 : 1 ≤ k := hk1'
    have hsz := HB1.out.below.size
    clear hb1 P
    rcases HRT.out.src with ⟨hn, hn2⟩ | ⟨ad, c2', hs, hsc, hcell⟩
    · have := congrArg List.length hn2
      rw [List.length_take, Nat.min_eq_left HKR.out, List.length_nil] at this
      omega
    · have hlk : (r.take k).length = k := by rw [List.length_take]; exact Nat.min_eq_left HKR.out
      rw [hlk] at hs
      simp only [Value.slice.injEq, true_and] at hs
      obtain ⟨rfl, _⟩ := hs
      have hown := World.ownsRow_nil w1 w.heap.size 46 4
      have hlt2 := hown.lt
      have HCL := hidm hcell
      have hfl := hidm (show (flat (r.take k)).length = k * 4 from by rw [flat_len, hlk])
      have HLK := hidm hlk
      clear hcell hlk hsc
      go_wp2_with (at_builtin; refine wpList_append_own _ rfl _ _ 32 rfl w.heap.size 46 i0 (.agg #[.int .i64 0, .int .i64 0, .int .u64 0, .string ⟨#[]⟩]) 4 40 Try.underlying32 hi hz0 hz1 hz2 rfl (by decide) _ _ _ rfl hown ad k _ (flat (r.take k)) rfl hfl.out HCL.out flat_one (by unfold maxLen; omega) (by omega) hsz ?_)
      intro v' w3 hown' hgrow _
      have HB3 := hidm (HB1.out.below.grown hgrow hsz (fun k hk => (hlt2 k hk).1))
      have HO := hidm (show RowC (r.take k) v' w3 from RowC.of_owns (by have h := hown'; rw [HLK.out]; simpa using h))
      clear hown hown' hgrow hlt2
      go_wp2
      go_ret
      exact ⟨_, rfl, by rw [HFF.out]; exact HO.out, HB3.out⟩
  · obtain ⟨x, hx⟩ : ∃ x, fitsB s r = x := ⟨_, rfl⟩
    have P := rfits_is hx hl _ _ hrn HRB.out _ (h.later hb0) (hr.1.later hb0)
    have f0 : (x != 0) = true := by rw [hx] at h0; simpa using h0
    have HFF := hidm (show F = [] from by rw [HF.out]; unfold keyB; rw [if_neg h0])
    clear h0 h hr hl hb0 hF hx hrb
    go_enter Try.func27, Try.ntmps27
    go_wp2_with fail
    refine P.mono ?_
    rintro e w1 ⟨rfl, hb1⟩
    have HB1 := hidm (HS0.out.then hb1)
    clear hb1 P
    go_wp2_with fail
    go_ret
    exact ⟨_, rfl, by rw [HFF.out]; exact RowC.nil _, HB1.out.below⟩
end Sch
end Go.Proofs.Ytkgiomdjihcfoaa
