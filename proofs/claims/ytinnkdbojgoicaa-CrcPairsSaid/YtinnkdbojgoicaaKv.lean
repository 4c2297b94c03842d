/- The fixed calls of layer 3's statements. No condition. -/
import Derived.Test.YtinnkdbojgoicaaKu
namespace Go.Proofs.Ytinnkdbojgoicaa
open Go.RowKit
namespace Crc
/-- Bytes with their sum, under a name of their own. -/
theorem put_named (l : List UInt8) (hl : l.length ≤ 100000) : ∃ p : ByteArray, p.size = l.length + 4 ∧
    (∀ w, Calls Try.prog 34 #[.string (S l)] w fun e w' => e = .returned (.string p) ∧ Below w.heap.size w w') ∧
    (∀ w, Calls Try.prog 28 #[.string p] w fun e w' => e = .returned (.tuple #[.string (S l), .bool true]) ∧ Below w.heap.size w w') := by
  refine ⟨S (put l), by rw [S_size, put_len], fun w => put_any (S l) (by rw [S_size]; omega) w, fun w => ?_⟩
  have := take_any (S (put l)) (by rw [S_size, put_len]; omega) w
  rw [show (S (put l)).data.toList = put l from rfl, took_put, good_put] at this
  exact this
set_option maxHeartbeats 2000000 in
set_option maxRecDepth 100000 in
theorem known_any (w : World) : Calls Try.prog 27 #[] w fun e w' => e = .returned (.bool true) ∧ Below w.heap.size w w' := by
  obtain ⟨p, hp, cp, ct⟩ := put_named [97, 98] (by decide)
  obtain ⟨q, hq, cq, cu⟩ := put_named [] (by decide)
  have ca := fun w => take_any (S [97, 98, 99, 100]) (by decide) w
  rw [show took (S [97, 98, 99, 100]).data.toList = [] by decide +kernel, show good (S [97, 98, 99, 100]).data.toList = false by decide +kernel] at ca
  have c9 := fun w => of_any (S [49, 50, 51, 52, 53, 54, 55, 56, 57]) (by decide) w
  rw [show more 0 (S [49, 50, 51, 52, 53, 54, 55, 56, 57]).data.toList = 3421780262 by decide +kernel] at c9
  have c0 := fun w => of_any (S []) (by decide) w
  rw [show more 0 (S []).data.toList = 0 by decide +kernel] at c0
  have g1 : ((S [97, 98]).toList == [97, 98]) = true := by rw [ByteArray.toList_eq]; rfl
  have g2 : ((S []).toList == []) = true := by rw [ByteArray.toList_eq]; rfl
  have hq4 : (q.size : Int) = 4 := by rw [hq]; rfl
  clear hp hq
  go_enter Try.func27, Try.ntmps27
  go_wp2_with fail
  refine (cp w).mono ?_
  rintro e w1 ⟨rfl, hb⟩
  have HB1 := hidm hb
  clear hb
  go_wp2_with fail
  refine (ct w1).mono ?_
  rintro e w2 ⟨rfl, hb⟩
  have HB2 := keep_b HB1 hb
  clear hb
  go_wp2_with fail
  refine (ca w2).mono ?_
  rintro e w3 ⟨rfl, hb⟩
  have HB3 := keep_b HB2 hb
  clear hb
  go_wp2_with fail
  refine (cq w3).mono ?_
  rintro e w4 ⟨rfl, hb⟩
  have HB4 := keep_b HB3 hb
  clear hb
  go_wp2_with fail
  refine (cu w4).mono ?_
  rintro e w5 ⟨rfl, hb⟩
  have HB5 := keep_b HB4 hb
  clear hb
  go_wp2_with fail
  refine (c9 w5).mono ?_
  rintro e w6 ⟨rfl, hb⟩
  have HB6 := keep_b HB5 hb
  clear hb
  go_wp2_with fail
  refine (c0 w6).mono ?_
  rintro e w7 ⟨rfl, hb⟩
  have HB7 := keep_b HB6 hb
  clear hb
  go_wp2_with fail
  refine (cq w7).mono ?_
  rintro e w8 ⟨rfl, hb⟩
  have HB8 := keep_b HB7 hb
  clear hb
  go_wp2_with fail
  go_ret
  exact ⟨rfl, HB8.out⟩
end Crc
end Go.Proofs.Ytinnkdbojgoicaa
