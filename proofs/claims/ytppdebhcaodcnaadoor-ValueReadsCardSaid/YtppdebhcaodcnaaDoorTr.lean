/- The document's own guess (layer 1): Bytes and Texts. Conditions: which first byte the text has; it has at most 2^40 bytes. -/
import Derived.Test.YtppdebhcaodcnaaDoorTq
namespace Go.Proofs.YtppdebhcaodcnaaDoor
open Go.RowKit
namespace Ref
set_option maxHeartbeats 4000000 in
set_option maxRecDepth 100000 in
theorem guess_x (s : ByteArray) (w : World) (h0 : 0 < s.size) (hs : s.size ≤ 1099511627776) (a1 : (s.toList == [110, 117, 108, 108]) = false) (a2 : (s.toList == [116, 114, 117, 101]) = false) (a3 : (s.toList == [102, 97, 108, 115, 101]) = false) (c0 : ((s[0].toNat : Int) == 102) = false) (c1 : ((s[0].toNat : Int) == 120) = true) :
    Calls Tryd.prog 38 #[.string s] w fun e w' => ∃ t : List UInt8, e = .returned (.agg #[.int .i64 4, .int .i64 0, .int .u64 0, .string (Cod.S t)]) ∧ (∀ L : List UInt8, s.data.toList = 120 :: L.flatMap Txt.hex2 → t = L) ∧ Below w.heap.size w w' := by
  have H0 := Lib.hid (gst_new w 2)
  have hpos : (0 : Int) < s.size := by omega
  go_enter Tryd.func38, Tryd.ntmps38
  go_wp2_with fail
  refine (bytes_x s _ h0 hs c1).mono ?_
  rintro e w1 ⟨t, rfl, ht, hb⟩
  have HG := Lib.hid (H0.out.later hb)
  have HT := Lib.hid ht
  obtain ⟨T, hT⟩ : ∃ T, T = Cod.S t := ⟨_, rfl⟩
  rw [← hT]
  have HTT := Lib.hid hT
  clear ht hT hb H0
  have a0 := HG.out.2.2.1.c0
  have a1 := HG.out.2.2.1.c1
  have a2 := HG.out.2.2.1.c2
  have a3 := HG.out.2.2.1.c3
  have az := HG.out.2.2.1.z
  have HP := Lib.hid (put4_vb (k := 4) (n := 0) (x := 0) (t := T) HG.out.2.2.1)
  go_wp2_with fail
  have p0 := HP.out.c0
  have p1 := HP.out.c1
  have p2 := HP.out.c2
  have p3 := HP.out.c3
  show bodyPost _ _ _ _ _ (put4 w1 w.heap.size (.int .i64 4) (.int .i64 0) (.int .u64 0) (.string T))
  refine bodyPost_ret (v := .agg #[.int .i64 4, .int .i64 0, .int .u64 0, .string T]) (by simp [results, Tryd.results38, go_sem, p0, p1, p2, p3]) rfl ?_
  exact ⟨t, by rw [HTT.out], HT.out, put4_below _ _ _ _ _ (Nat.le_refl _) HG.out.1⟩
set_option maxHeartbeats 4000000 in
set_option maxRecDepth 100000 in
theorem guess_q (s : ByteArray) (w : World) (h0 : 0 < s.size) (hs : s.size ≤ 1099511627776) (a1 : (s.toList == [110, 117, 108, 108]) = false) (a2 : (s.toList == [116, 114, 117, 101]) = false) (a3 : (s.toList == [102, 97, 108, 115, 101]) = false) (c0 : ((s[0].toNat : Int) == 102) = false) (c1 : ((s[0].toNat : Int) == 120) = false) (c2 : ((s[0].toNat : Int) == 34) = true) :
    Calls Tryd.prog 38 #[.string s] w fun e w' => ∃ t : List UInt8, e = .returned (.agg #[.int .i64 5, .int .i64 0, .int .u64 0, .string (Cod.S t)]) ∧ (∀ L : List UInt8, s.data.toList = 34 :: (L.flatMap Txt.letter ++ [34]) → t = L) ∧ Below w.heap.size w w' := by
  have H0 := Lib.hid (gst_new w 2)
  have hpos : (0 : Int) < s.size := by omega
  go_enter Tryd.func38, Tryd.ntmps38
  go_wp2_with fail
  refine (bytes_q s _ h0 hs c1).mono ?_
  rintro e w1 ⟨t, rfl, ht, hb⟩
  have HG := Lib.hid (H0.out.later hb)
  have HT := Lib.hid ht
  obtain ⟨T, hT⟩ : ∃ T, T = Cod.S t := ⟨_, rfl⟩
  rw [← hT]
  have HTT := Lib.hid hT
  clear ht hT hb H0
  have a0 := HG.out.2.2.1.c0
  have a1 := HG.out.2.2.1.c1
  have a2 := HG.out.2.2.1.c2
  have a3 := HG.out.2.2.1.c3
  have az := HG.out.2.2.1.z
  have HP := Lib.hid (put4_vb (k := 5) (n := 0) (x := 0) (t := T) HG.out.2.2.1)
  go_wp2_with fail
  have p0 := HP.out.c0
  have p1 := HP.out.c1
  have p2 := HP.out.c2
  have p3 := HP.out.c3
  show bodyPost _ _ _ _ _ (put4 w1 w.heap.size (.int .i64 5) (.int .i64 0) (.int .u64 0) (.string T))
  refine bodyPost_ret (v := .agg #[.int .i64 5, .int .i64 0, .int .u64 0, .string T]) (by simp [results, Tryd.results38, go_sem, p0, p1, p2, p3]) rfl ?_
  exact ⟨t, by rw [HTT.out], HT.out, put4_below _ _ _ _ _ (Nat.le_refl _) HG.out.1⟩
end Ref
end Go.Proofs.YtppdebhcaodcnaaDoor
