/- schema.Key, Widen. Conditions: names and texts are at most 2^48 bytes; there are at most a million columns, and values. -/
import Derived.Test.YtopmbhpjdmcabaaJi
import Derived.Test.YtopmbhpjdmcabaaJk
import Derived.OwnWalk
namespace Go.Proofs.Ytopmbhpjdmcabaa
open Go.RowKit
namespace Sch
open Cod
theorem fits_is {s : T} {r : List V} {x : Int} (hx : fitsB s r = x) (hl : Lim s) (sl : Value) (rl : Value) (hrn : r.length ≤ 1000000) (w : World) (h : ColsAt s.cols sl w) (hr : RowAt r rl w) :
    Calls Try.prog 11 #[.agg #[.string (S s.nm), sl, .int .i64 s.keys], rl] w fun e w' => e = .returned (.int .i64 x) ∧ Below w.heap.size w w' := hx ▸ fits_any s hl sl r rl hrn w h hr
theorem fits_keys {s : T} {r : List V} (h : fitsB s r = 0) : 1 ≤ s.keys ∧ s.keys ≤ 8 ∧ s.keys ≤ (r.length : Int) := by
  obtain ⟨h1, h2, _⟩ := fits_parts h
  obtain ⟨_, _, h3, h4, h5⟩ := head_parts (right_head h1)
  rw [h2]; exact ⟨h3, h4, h5⟩
set_option maxHeartbeats 2000000 in
set_option maxRecDepth 100000 in
theorem key_any (s : T) (hl : Lim s) (sl : Value) (r : List V) (rl : Value) (hrn : r.length ≤ 1000000) (hrs : ∀ v ∈ r, v.s.length ≤ 281474976710656) (w : World) (h : ColsAt s.cols sl w) (hr : RowC r rl w) :
    Calls Try.prog 10 #[.agg #[.string (S s.nm), sl, .int .i64 s.keys], rl] w fun e w' => Out1 (keyB s r) w e w' := by
  obtain ⟨ao, cap, rfl, hcl, hcm⟩ := h.form
  obtain ⟨ro, rc, rfl, hrc, hrm, _⟩ := hr.2
  have HS0 := hidm (Boxed.start s ao cap w)
  have hb0 : Below w.heap.size w (w.alloc (.cells #[.string (S s.nm), .slice ao s.cols.length cap, .int .i64 s.keys] 24)) := (Below.refl _ _).alloc (Nat.le_refl _) _
  have HR := hidm hr
  have HRS := hidm hrs
  obtain ⟨F, hF⟩ : ∃ F, F = keyB s r := ⟨_, rfl⟩
  rw [← hF]
  have HF := hidm hF
  by_cases h0 : fitsB s r = 0
  · have P := fits_is h0 hl _ _ hrn _ (h.later hb0) (hr.1.later hb0)
    obtain ⟨k1, k2, k3⟩ := fits_keys h0
    obtain ⟨k, hk⟩ : ∃ k : Nat, s.keys = (k : Int) := Int.eq_ofNat_of_zero_le (by omega)
    have HK := hidm hk
    have hkr : k ≤ r.length := by omega
    have HKR := hidm hkr
    have HFF := hidm (show F = r.take k from by rw [HF.out]; unfold keyB; rw [if_pos h0, hk]; rfl)
    obtain ⟨m, hm⟩ : ∃ m, m = r.length := ⟨_, rfl⟩
    have HM := hidm hm
    rw [hk] at P ⊢
    rw [← hm] at P hrc hkr hrn ⊢
    have hkc : k ≤ rc := by omega
    clear h0 h hr hl hb0 hF hk hm k1 k2 k3 hrs
    go_enter Try.func10, Try.ntmps10
    go_wp2_with fail
    refine P.mono ?_
    rintro e w1 ⟨rfl, hb1⟩
    have HB1 := hidm (HS0.out.then (by rw [HK.out]; exact hb1))
    have c2 := HB1.out.c2
    rw [HK.out] at c2
    have HRT := hidm ((HR.out.take k HKR.out).later HB1.out.below)
    have C := copied_any (r.take k) (.slice ro k rc) (by rw [List.length_take]; have := HM.out; omega) (fun v hv => HRS.out v (List.mem_of_mem_take hv)) w1 HRT.out.1
    clear hb1 P
    go_wp2_with fail
    refine C.mono ?_
    rintro e w2 ⟨v, rfl, hv, hb2⟩
    have HV := hidm hv
    have HB2 := hidm (HB1.out.then hb2)
    obtain ⟨q, hq⟩ : ∃ q, q = (r.take k).length := ⟨_, rfl⟩
    obtain ⟨vo, vc, hv2, _⟩ := hv.2
    rw [← hq] at hv2
    subst hv2
    clear hv hb2 C c2 hq
    go_wp2_with fail
    go_ret
    exact ⟨_, rfl, by rw [HFF.out]; exact HV.out, HB2.out.below⟩
  · obtain ⟨x, hx⟩ : ∃ x, fitsB s r = x := ⟨_, rfl⟩
    have P := fits_is hx hl _ _ hrn _ (h.later hb0) (hr.1.later hb0)
    have f0 : (x != 0) = true := by rw [hx] at h0; simpa using h0
    have HFF := hidm (show F = [] from by rw [HF.out]; unfold keyB; rw [if_neg h0])
    clear h0 h hr hl hb0 hF hx hrs
    go_enter Try.func10, Try.ntmps10
    go_wp2_with fail
    refine P.mono ?_
    rintro e w1 ⟨rfl, hb1⟩
    have HB1 := hidm (HS0.out.then hb1)
    clear hb1 P
    go_wp2_with fail
    go_ret
    exact ⟨_, rfl, by rw [HFF.out]; exact RowC.nil _, HB1.out.below⟩
theorem made_null (d : Nat) : (madeCells (Value.cells (.agg #[.int .i64 0, .int .i64 0, .int .u64 0, .string ⟨#[]⟩])) (d * 4)).toList = flat (List.replicate d nullV) := by
  apply List.ext_getElem?
  intro j
  have hs : (madeCells (Value.cells (.agg #[.int .i64 0, .int .i64 0, .int .u64 0, .string ⟨#[]⟩])) (d * 4)).toList.length = d * 4 := by simp [madeCells]
  have hl : (flat (List.replicate d nullV)).length = d * 4 := by rw [flat_len, List.length_replicate]
  rcases Nat.lt_or_ge j (d * 4) with hj | hj
  · have e : j = j / 4 * 4 + j % 4 := by omega
    have h4 : j % 4 < 4 := by omega
    have h1 := flat_at (List.replicate d nullV) (j / 4) (by rw [List.length_replicate]; omega) (j % 4) h4
    rw [← e] at h1
    rw [h1]
    have h2 : (madeCells (Value.cells (.agg #[.int .i64 0, .int .i64 0, .int .u64 0, .string ⟨#[]⟩])) (d * 4)).toList[j]? = some ((#[.int .i64 0, .int .i64 0, .int .u64 0, .string ⟨#[]⟩] : Array Value)[j % 4]!) := by
      unfold madeCells
      simp [hj, Value.cells]
    rw [h2, List.getElem_replicate]
    have hc : j % 4 = 0 ∨ j % 4 = 1 ∨ j % 4 = 2 ∨ j % 4 = 3 := by omega
    rcases hc with h | h | h | h <;> rw [h] <;> rfl
  · rw [List.getElem?_eq_none (by omega), List.getElem?_eq_none (by omega)]
def Out2 (vs : List V) (x : Int) (w : World) (e : Ending) (w' : World) : Prop := ∃ v, e = .returned (.tuple #[v, .int .i64 x]) ∧ RowC vs v w' ∧ Below w.heap.size w w'
theorem wide_len {s : T} {r : List V} (h : r.length ≤ s.cols.length) : (wideB s r).length = s.cols.length := by
  unfold wideB; rw [List.length_append, List.length_replicate]; omega
set_option maxHeartbeats 4000000 in
set_option maxRecDepth 100000 in
theorem widen_any (s : T) (hl : Lim s) (sl : Value) (r : List V) (rl : Value) (hrn : r.length ≤ 1000000) (hrs : ∀ v ∈ r, v.s.length ≤ 281474976710656) (w : World) (h : ColsAt s.cols sl w) (hr : RowC r rl w) :
    Calls Try.prog 24 #[.agg #[.string (S s.nm), sl, .int .i64 s.keys], rl] w fun e w' => Out2 (widenB s r).1 (widenB s r).2 w e w' := by
  obtain ⟨i0, hi, hz0, hz1, hz2⟩ := info_parts infoV
  obtain ⟨ao, cap, rfl, hcl, hcm⟩ := h.form
  obtain ⟨ro, rc, rfl, hrc, hrm, _⟩ := hr.2
  have H := hidm h
  have HL := hidm hl
  have HS0 := hidm (Boxed.start s ao cap w)
  have hb0 : Below w.heap.size w (w.alloc (.cells #[.string (S s.nm), .slice ao s.cols.length cap, .int .i64 s.keys] 24)) := (Below.refl _ _).alloc (Nat.le_refl _) _
  have HR := hidm hr
  have HRS := hidm hrs
  obtain ⟨F, hF⟩ : ∃ F, F = widenB s r := ⟨_, rfl⟩
  rw [← hF]
  have HF := hidm hF
  rcases hb : rightB s with _ | _
  · have HFF := hidm (show F = ([], 11) from by rw [HF.out]; unfold widenB; rw [if_pos hb])
    have R := right_is hb hl _ _ (h.later hb0)
    clear h hl hb0 hF hb hr hrs
    go_enter Try.func24, Try.ntmps24
    go_wp2_with fail
    refine R.mono ?_
    rintro e w1 ⟨rfl, hb1⟩
    have HB1 := hidm (HS0.out.then hb1)
    clear hb1 R
    go_wp2_with fail
    go_ret2
    rw [HFF.out]
    exact ⟨_, rfl, RowC.nil _, HB1.out.below⟩
  · have HRT := hidm hb
    have R := right_is hb hl _ _ (h.later hb0)
    obtain ⟨n, hn⟩ : ∃ n, n = s.cols.length := ⟨_, rfl⟩
    obtain ⟨m, hm⟩ : ∃ m, m = r.length := ⟨_, rfl⟩
    have hp := (head_parts (right_head hb)).2
    have HN := hidm hn
    have HM := hidm hm
    have hn16 : n ≤ 16 := by omega
    have hn1 : 1 ≤ n := by omega
    rw [← hn] at R hcl ⊢
    rw [← hm] at hrc hrn ⊢
    rcases Nat.lt_or_ge n m with hnm | hnm
    · have HFF := hidm (show F = ([], 10) from by rw [HF.out]; unfold widenB; rw [if_neg (by simp [hb]), if_pos (by omega)])
      clear h hl hb0 hF hb hr hrs hn hm hp
      have f0 : (n : Int) < m := by omega
      go_enter Try.func24, Try.ntmps24
      go_wp2_with fail
      refine R.mono ?_
      rintro e w1 ⟨rfl, hb1⟩
      have HB1 := hidm (HS0.out.then (by rw [← HN.out]; exact hb1))
      have c1 := HB1.out.c1
      rw [← HN.out] at c1
      clear hb1 R
      go_wp2_with fail
      go_ret2
      rw [HFF.out]
      exact ⟨_, rfl, RowC.nil _, HB1.out.below⟩
    · have f0 : ¬ (n : Int) < m := by omega
      have hd : (n : Int) - (m : Int) = ((n - m : Nat) : Int) := by omega
      have HWL := hidm (show (wideB s r).length = n from by rw [wide_len (by omega), hn])
      have HWS := hidm (show ∀ v ∈ wideB s r, v.s.length ≤ 281474976710656 from fun v hv => by
        unfold wideB at hv
        rcases List.mem_append.1 hv with h | h
        · exact hrs v h
        · rw [(List.mem_replicate.1 h).2]; simp [nullV])
      have HWD := hidm (show wideB s r = r ++ List.replicate (n - m) nullV from by unfold wideB; rw [hn, hm])
      obtain ⟨x, hx⟩ : ∃ x, fitsB s (wideB s r) = x := ⟨_, rfl⟩
      have HX := hidm hx
      have HFF := hidm (show F = if x = 0 then (wideB s r, 0) else ([], x) from by
        rw [HF.out]; unfold widenB; rw [if_neg (by simp [hb]), if_neg (by omega), hx])
      clear h hl hb0 hF hb hr hrs hn hm hp hx
      go_enter Try.func24, Try.ntmps24
      go_wp2_with fail
      refine R.mono ?_
      rintro e w1 ⟨rfl, hb1⟩
      have HB1 := hidm (HS0.out.then (by rw [← HN.out]; exact hb1))
      have c1 := HB1.out.c1
      rw [← HN.out] at c1
      have hsz1 := HB1.out.size
      clear hb1 R
      go_wp2_with (refine wpList_make_full _ rfl _ _ _ rfl w1.heap.size 33 i0 (.agg #[.int .i64 0, .int .i64 0, .int .u64 0, .string ⟨#[]⟩]) 4 Try.underlying25 hi hz0 hz1 .i64 .i64 _ _ (n - m) rfl rfl rfl rfl (by rw [hz2]; omega) (by unfold maxLen; omega) (Nat.le_refl _) ?_)
      intro w2 hown hgrow
      have hmn := made_null (n - m)
      simp only [Value.cells] at hmn
      rw [hmn] at hown
      clear hmn
      have HB2 := hidm (HB1.out.then ((Below.refl _ _).grown hgrow (Nat.le_refl _) (fun k hk => by cases hk)))
      have hsz2 := HB2.out.size
      have hglt := (hown.lt w1.heap.size rfl).2
      have hyc := hidm (show ∀ j u, (flat (List.replicate (n - m) nullV))[j]? = some u → w2.cell? ((⟨w1.heap.size, 0, none⟩ : Addr).add j) = some u from hown.cells rfl)
      have hbA : Below w2.heap.size w2 (w2.alloc (.cells #[.slice ro m rc, .slice (some ⟨w1.heap.size, 0, none⟩) (n - m) (n - m)] 25)) := (Below.refl _ _).alloc (Nat.le_refl _) _
      have HB3 := hidm (HB2.out.then hbA)
      have C := concat_any r (List.replicate (n - m) nullV) (.slice ro m rc) ⟨w1.heap.size, 0, none⟩ (n - m) w2.heap.size 2 (by rw [List.length_replicate, ← HM.out]; omega) (by rw [List.length_replicate, ← HM.out]; omega) _ (by have g := (HR.out.later HB2.out.below).later hbA; rw [← HM.out] at g; exact g)
        (fun j u hu => cell_later hbA (hyc.out j u hu)) (fun _ => by simp; omega) (by simp [go_sem]) (by rw [List.length_replicate]; simp [go_sem])
      rw [← HWD.out] at C
      clear hown hgrow hbA c1
      go_wp2_with fail
      refine C.mono ?_
      rintro e w3 ⟨v, rfl, hv, hb3⟩
      have HV := hidm hv
      have HB4 := hidm (HB3.out.then hb3)
      have hv1 := hv.1
      obtain ⟨vo, vc, hv2, _⟩ := hv.2
      rw [HWL.out] at hv2
      subst hv2
      have P := fits_is HX.out HL.out (.slice ao s.cols.length cap) (.slice vo n vc) (by rw [HWL.out]; omega) w3 (H.out.later HB4.out.below) hv1
      rw [← HN.out] at P
      have c0 := HB4.out.c0
      have c1 := HB4.out.c1
      have c2 := HB4.out.c2
      rw [← HN.out] at c1
      clear hv hb3 C hv1
      go_wp2_with fail
      refine P.mono ?_
      rintro e w4 ⟨rfl, hb4⟩
      have HB5 := hidm (HB4.out.then hb4)
      have HV4 := hidm (HV.out.later hb4)
      have hn6 : (wideB s r).length ≤ 1000000 := by rw [HWL.out]; omega
      have Q := copied_any (wideB s r) (.slice vo n vc) hn6 HWS.out w4 HV4.out.1
      clear hb4 P c0 c1 c2 hn6
      by_cases hx0 : x = 0
      · have HF0 := hidm (show F = (wideB s r, 0) from by rw [HFF.out, if_pos hx0])
        have f1 : (x != 0) = false := by rw [hx0]; rfl
        clear hx0
        go_wp2_with fail
        refine Q.mono ?_
        rintro e w5 ⟨v5, rfl, hv5, hb5⟩
        have HV5 := hidm hv5
        have HB6 := hidm (HB5.out.then hb5)
        obtain ⟨vo5, vc5, hv52, _⟩ := hv5.2
        rw [HWL.out] at hv52
        subst hv52
        clear hv5 hb5 Q
        go_wp2_with fail
        go_ret2
        rw [HF0.out]
        exact ⟨_, rfl, HV5.out, HB6.out.below⟩
      · have HF0 := hidm (show F = ([], x) from by rw [HFF.out, if_neg hx0])
        have f1 : (x != 0) = true := by simpa using hx0
        clear hx0 Q
        go_wp2_with fail
        go_ret2
        rw [HF0.out]
        exact ⟨_, rfl, RowC.nil _, HB5.out.below⟩
end Sch
end Go.Proofs.Ytopmbhpjdmcabaa
