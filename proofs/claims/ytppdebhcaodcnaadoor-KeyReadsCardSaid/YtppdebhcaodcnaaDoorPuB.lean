/- internal/strconv.ParseUint at base 16 and 8 bits. Condition: the text takes at most 2^48 bytes. -/
import Derived.Test.YtppdebhcaodcnaaDoorPu
namespace Go.Proofs.YtppdebhcaodcnaaDoor
open Go.RowKit
namespace Pu
set_option maxHeartbeats 8000000 in
set_option maxRecDepth 100000 in
theorem inner_8 (t : ByteArray) (hne : t.size ≠ 0) (hmax : t.size ≤ 281474976710656) (w : World) :
    Calls Tryd.prog 89 #[.string t, .int .i64 16, .int .i64 8] w fun e w' => e = .returned (tup 255 (pu 255 0 t.data.toList)) ∧ w' = Lib.bytesWorld w 5 t := by
  have hemp : t.toList.isEmpty = false := by
    rw [← decide_eq_emptyBytes]
    exact decide_eq_false (fun h => hne (by rw [h]; rfl))
  have hcv := Lib.run_convert_string_bytes (P := Tryd.prog) w 9 55 5 t (u := .string) Tryd.underlying9 Tryd.underlying55 Tryd.underlying5
  have hB : ∀ j, j < t.size → (Lib.bytesWorld w 5 t).cell? ⟨w.heap.size, j, none⟩ = some (.int .u8 (t.data.toList.getD j 0).toNat) := fun j hj => Lib.bytesWorld_cell w 5 t j hj
  obtain ⟨W1, hW1⟩ : ∃ W1, W1 = Lib.bytesWorld w 5 t := ⟨_, rfl⟩
  rw [← hW1] at hcv hB ⊢
  clear hW1
  obtain ⟨bs, hL⟩ : ∃ bs, bs = t.data.toList := ⟨_, rfl⟩
  have hLn : bs.length = t.size := by rw [hL, Lib.size_eq]
  rw [← hL] at hB ⊢
  clear hL
  have hmv : IntKind.u64.wrap (256 - 1) = 255 := by
    rw [IntKind.wrap_u64]
    decide
  go_enter Tryd.func89, Tryd.ntmps89
  go_wp2
  go_loop [12, 13, 101] (fun vu vn vi => ∃ (k acc : Nat) (a : Int), vu = .bool false ∧ vn = .int .u64 a ∧ vi = .int .i64 k ∧ k ≤ t.size ∧ Hid (a = (acc : Int) ∧ acc ≤ 255 ∧ pu 255 0 bs = pu 255 acc (bs.drop k)))
    (fun _ _ vi => t.size - (intOf vi).toNat)
  case atStart => exact ⟨0, 0, 0, rfl, rfl, rfl, by omega, rfl, by omega, rfl⟩
  case round =>
    obtain ⟨k, acc, a, rfl, rfl, rfl, hk, hh⟩ := hrel
    obtain ⟨ha, hacc, hdec⟩ := hh.out
    clear hh
    have a0 : 0 ≤ a := by omega
    have a1 : a ≤ 255 := by omega
    by_cases hkn : k < t.size
    · have hc := hB k hkn
      have hdrop : bs.drop k = bs[k]'(by omega) :: bs.drop (k + 1) := List.drop_eq_getElem_cons (by omega)
      have hget : bs.getD k 0 = bs[k]'(by omega) := by simp [List.getD, List.getElem?_eq_getElem (show k < bs.length by omega)]
      rw [hdrop] at hdec
      rw [hget] at hc
      generalize bs[k]'(by omega) = c at hc hdec
      have hc256 : c.toNat < 256 := c.toNat_lt
      clear hB hdrop hget
      by_cases hdig : 48 ≤ c.toNat ∧ c.toNat ≤ 57
      · have hx := hexv_digit hdig.1 hdig.2
        obtain ⟨hd0, hd1⟩ := hdig
        obtain ⟨v, hv, hvl, hvh⟩ : ∃ v : Nat, v = c.toNat - 48 ∧ (c.toNat : Int) - 48 = v ∧ v < 16 := ⟨_, rfl, by omega, by omega⟩
        rw [← hv] at hx
        by_cases hcut : 1152921504606846976 ≤ acc
        · exfalso; omega
        · by_cases hov : 255 < acc * 16 + v
          · have hF := pu_over (mx := 255) (l := bs.drop (k + 1)) hx hcut hov
            rw [hF] at hdec
            have icut : a < 1152921504606846976 := by omega
            have iov : 255 < a * 16 + ((c.toNat : Int) - 48) := by omega
            have iov2 : a * 16 + ((c.toNat : Int) - 48) < 18446744073709551616 := by omega
            have HD := Lib.hid hdec
            clear hcut hacc hF hov ha hdec hv hvl hvh hx
            go_wp2
            go_ret2
            exact ⟨by rw [HD.out]; rfl, rfl⟩
          · have hF := pu_step (mx := 255) (l := bs.drop (k + 1)) hx hcut hov
            have HN : Hid (a * 16 + ((c.toNat : Int) - 48) = ((acc * 16 + v : Nat) : Int) ∧ acc * 16 + v ≤ 255 ∧ pu 255 0 bs = pu 255 (acc * 16 + v) (bs.drop (k + 1))) := Lib.hid ⟨by omega, by omega, hdec.trans hF⟩
            have icut : a < 1152921504606846976 := by omega
            have iov : a * 16 + ((c.toNat : Int) - 48) ≤ 255 := by omega
            clear hcut hacc hF hov hdec ha hv hvl hvh hx
            go_wp2
            refine ⟨⟨k + 1, acc * 16 + v, a * 16 + ((c.toNat : Int) - 48), rfl, (by first | rfl | (congr 1; omega)), (by first | rfl | (congr 1; omega)), by omega, HN⟩, by simp [intOf]; omega⟩
      · by_cases hlet : 97 ≤ low c ∧ low c ≤ 102
        · have hx := hexv_letter hdig hlet.1 hlet.2
          have hnd : ¬ (48 ≤ (c.toNat : Int)) ∨ ¬ ((c.toNat : Int) ≤ 57) := by omega
          obtain ⟨hl0, hl1⟩ := hlet
          obtain ⟨v, hv, hvl, hvh⟩ : ∃ v : Nat, v = (low c - 87).toNat ∧ low c - 97 + 10 = v ∧ v < 16 := ⟨_, rfl, by omega, by omega⟩
          rw [← hv] at hx
          have h95 : ((c.toNat : Int) == 95) = false := beq_eq_false_iff_ne.2 (fun e => low_95 e hl0 hl1)
          by_cases hcut : 1152921504606846976 ≤ acc
          · exfalso; omega
          · by_cases hov : 255 < acc * 16 + v
            · have hF := pu_over (mx := 255) (l := bs.drop (k + 1)) hx hcut hov
              rw [hF] at hdec
              have icut : a < 1152921504606846976 := by omega
              have iov : 255 < a * 16 + (low c - 97 + 10) := by omega
              have iov2 : a * 16 + (low c - 97 + 10) < 18446744073709551616 := by omega
              have HD := Lib.hid hdec
              clear hcut hacc hF hov ha hdec hv hvl hvh hx hdig
              rcases hnd with hnd | hnd
              all_goals
                go_wp2_with (go_at_call 103; refine (lower_any _ _).mono ?_; rintro e w' ⟨rfl, rfl⟩)
                go_ret2
                exact ⟨by rw [HD.out]; rfl, rfl⟩
            · have hF := pu_step (mx := 255) (l := bs.drop (k + 1)) hx hcut hov
              have HN : Hid (a * 16 + (low c - 97 + 10) = ((acc * 16 + v : Nat) : Int) ∧ acc * 16 + v ≤ 255 ∧ pu 255 0 bs = pu 255 (acc * 16 + v) (bs.drop (k + 1))) := Lib.hid ⟨by omega, by omega, hdec.trans hF⟩
              have icut : a < 1152921504606846976 := by omega
              have iov : a * 16 + (low c - 97 + 10) ≤ 255 := by omega
              clear hcut hacc hF hov hdec ha hv hvl hvh hx hdig
              rcases hnd with hnd | hnd
              all_goals
                go_wp2_with (go_at_call 103; refine (lower_any _ _).mono ?_; rintro e w' ⟨rfl, rfl⟩)
                refine ⟨⟨k + 1, acc * 16 + v, a * 16 + (low c - 97 + 10), rfl, (by first | rfl | (congr 1; omega)), (by first | rfl | (congr 1; omega)), by omega, HN⟩, by simp [intOf]; omega⟩
        · have hx := hexv_none hdig hlet
          have hF := pu_none (mx := 255) (acc := acc) (l := bs.drop (k + 1)) hx
          rw [hF] at hdec
          have HD := Lib.hid hdec
          have hv0 := low_lo c
          have hv1 := low_hi c
          have hnd : ¬ (48 ≤ (c.toNat : Int)) ∨ ¬ ((c.toNat : Int) ≤ 57) := by omega
          have hnl : low c < 97 ∨ (103 ≤ low c ∧ low c ≤ 122) ∨ 122 < low c := by omega
          clear hacc hF ha hdec hx hdig hlet
          by_cases g95 : (c.toNat : Int) = 95
          · obtain rfl : c = 95 := UInt8.toNat_inj.1 (by simpa using Int.ofNat_inj.1 g95)
            have hc' : W1.cell? ⟨w.heap.size, k, none⟩ = some (.int .u8 95) := hc
            clear hc hnd hnl hv0 hv1 hc256 g95
            go_wp2_with (go_at_call 103; refine (lower_95 _).mono ?_; rintro e w' ⟨rfl, rfl⟩)
            go_ret2
            exact ⟨by rw [HD.out]; rfl, rfl⟩
          · have h95 : ((c.toNat : Int) == 95) = false := by simpa using g95
            clear g95
            rcases hnd with hnd | hnd <;> rcases hnl with hnl | hnl | hnl
            all_goals
              go_wp2_with (go_at_call 103; refine (lower_any _ _).mono ?_; rintro e w' ⟨rfl, rfl⟩)
              go_ret2
              exact ⟨by rw [HD.out]; rfl, rfl⟩
    · have hkk : k = t.size := by omega
      subst hkk
      have hF : pu 255 acc (bs.drop t.size) = some (some acc) := by rw [List.drop_eq_nil_of_le (by omega)]; rfl
      rw [hF] at hdec
      subst ha
      have HD := Lib.hid hdec
      clear hacc hF a0 a1 hdec
      go_wp2
      go_ret2
      exact ⟨by rw [HD.out]; rfl, rfl⟩
end Pu
end Go.Proofs.YtppdebhcaodcnaaDoor
