/- What must come of fixed calls of package code: 'known' answers true. No condition. -/
import Derived.Test.YtinnkdbojgoicaaCy
namespace Go.Proofs.Ytinnkdbojgoicaa
open Go.RowKit
namespace Cod
theorem cell_lit {w : World} {cs : Array Value} {t : TypeId} (j : Nat) : (w.alloc (.cells cs t)).cell? ⟨w.heap.size, j, none⟩ = cs[j]? := by
  have h : (w.alloc (.cells cs t)).heap[w.heap.size]? = some (.cells cs t (0, 0)) := heap_alloc_new _ _
  rw [Lib.cell_of_heap h]
/-- A slice that is written out. -/
theorem RowAt.lit (vs : List V) (w : World) (n : Nat) (hn : n = vs.length) (cs : Array Value) (hc : cs = (flat vs).toArray) : RowAt vs (.slice (some ⟨w.heap.size, 0, none⟩) n n) (w.alloc (.cells cs 33)) := by
  subst hn hc
  refine ⟨_, vs.length, rfl, fun _ => ⟨w.heap.size, 0, rfl, by simp, fun j _ => ?_⟩⟩
  rw [Nat.zero_add, cell_lit]; simp
theorem u300 : uB 300 = [172, 2] := by rw [uB_ge (by omega), uB_lt (by omega)]; rfl
theorem im1 : iB (-1) = [1] := by unfold iB; rw [show zig (-1) = 1 from rfl, uB_lt (by omega)]; rfl
theorem tab : tB [97, 98] = [2, 97, 98] := by unfold tB; rw [show ([97, 98] : List UInt8).length = 2 from rfl, uB_lt (by omega)]; rfl
theorem i5 : iB 5 = [10] := by unfold iB; rw [show zig 5 = 10 from rfl, uB_lt (by omega)]; rfl
theorem right_def (v : V) : v.right = Val.rightB v.k v.n v.b (S v.s) := rfl
theorem toList_nil : (⟨#[]⟩ : ByteArray).toList = [] := by rw [ByteArray.toList_eq]
theorem rt1 : V.right ⟨1, 1, 0, []⟩ = true := by rw [right_def]; unfold Val.rightB Val.eqV; simp
theorem rt0 : V.right ⟨0, 0, 0, []⟩ = true := by rw [right_def]; unfold Val.rightB Val.eqV; simp [S]
theorem rt5 : V.right ⟨2, 5, 0, []⟩ = true := by rw [right_def]; unfold Val.rightB Val.eqV; simp
theorem rt6 : V.right ⟨6, 0, 0, []⟩ = false := by rw [right_def]; unfold Val.rightB; simp
theorem vb1 : V.bytes ⟨1, 1, 0, []⟩ = [1, 1] := by unfold V.bytes; rw [if_pos rt1]; rfl
theorem vb0 : V.bytes ⟨0, 0, 0, []⟩ = [0] := by unfold V.bytes; rw [if_pos rt0]; rfl
theorem vb5 : V.bytes ⟨2, 5, 0, []⟩ = [2, 10] := by unfold V.bytes; rw [if_pos rt5]; show (2 : UInt8) :: V.rest ⟨2, 5, 0, []⟩ = _; rw [show V.rest ⟨2, 5, 0, []⟩ = iB 5 from rfl, i5]
def kr : List V := [⟨0, 0, 0, []⟩, ⟨2, 5, 0, []⟩]
theorem rbk : rB kr = [2, 0, 2, 10] := by
  unfold rB
  rw [if_pos (by simp [kr, rt0, rt5])]
  unfold rTo
  rw [show kr.length = 2 from rfl, uB_lt (by omega), show kr.take 2 = [⟨0, 0, 0, []⟩, ⟨2, 5, 0, []⟩] from rfl]
  simp [vb0, vb5]
def kl : List UInt8 := [172, 2, 1, 2, 97, 98, 1, 1, 2, 0, 2, 10]
theorem k1 : num 0 0 (kl.drop 0) = .ok (300, kl.drop 2) := by rfl
theorem k2 : sig (kl.drop 2) = .ok (-1, kl.drop 3) := by rfl
theorem k3 : txt 1000000 (kl.drop 3) = .ok ([97, 98], kl.drop 6) := by rfl
theorem k4 : val (kl.drop 6) = .ok (⟨1, 1, 0, []⟩, kl.drop 8) := by
  show chk (.ok (⟨1, 1, 0, []⟩, kl.drop 8)) = _
  simp only [chk, rt1, if_true]
theorem k5 : row (kl.drop 8) = .ok (kr, []) := by
  have v0 : val [0, 2, 10] = .ok (⟨0, 0, 0, []⟩, [2, 10]) := by
    show chk (.ok (⟨0, 0, 0, []⟩, [2, 10])) = _
    simp only [chk, rt0, if_true]
  have v5 : val [2, 10] = .ok (⟨2, 5, 0, []⟩, []) := by
    show chk (.ok (⟨2, 5, 0, []⟩, [])) = _
    simp only [chk, rt5, if_true]
  show vls 2 [] [0, 2, 10] = _
  simp only [vls, v0, v5]
  rfl
theorem k6 : num 0 0 (kl.drop 12) = .error 8 := by rfl
set_option maxHeartbeats 4000000 in
set_option maxRecDepth 100000 in
theorem known_any (w : World) : Calls Try.prog 10 #[] w fun e w' => e = .returned (.bool true) ∧ Below w.heap.size w w' := by
  have c1 := uint_any 300 (by omega) w
  rw [u300] at c1
  obtain ⟨a1, ha1⟩ : ∃ a1, a1 = S [172, 2] := ⟨_, rfl⟩
  rw [← ha1] at c1
  have s1 : a1.size = 2 := by rw [ha1]; rfl
  have c2 := fun w => int_any (-1) (by omega) (by omega) w
  rw [im1] at c2
  obtain ⟨a2, ha2⟩ : ∃ a2, a2 = S [1] := ⟨_, rfl⟩
  rw [← ha2] at c2
  have s2 : a2.size = 1 := by rw [ha2]; rfl
  have c3 := fun w => text_any ⟨#[97, 98]⟩ (by decide) w
  rw [show (⟨#[97, 98]⟩ : ByteArray).data.toList = [97, 98] from rfl, tab] at c3
  obtain ⟨a3, ha3⟩ : ∃ a3, a3 = S [2, 97, 98] := ⟨_, rfl⟩
  rw [← ha3] at c3
  have s3 : a3.size = 3 := by rw [ha3]; rfl
  have c4 := fun w => value_any ⟨1, 1, 0, []⟩ ⟨by decide, by decide, by decide, by decide, by decide, by decide⟩ w
  rw [vb1] at c4
  obtain ⟨a4, ha4⟩ : ∃ a4, a4 = S [1, 1] := ⟨_, rfl⟩
  rw [← ha4] at c4
  have s4 : a4.size = 2 := by rw [ha4]; rfl
  have c5 := fun w => row_any kr (.slice (some ⟨w.heap.size, 0, none⟩) 2 2) (by intro v hv; simp only [kr, List.mem_cons, List.not_mem_nil, or_false] at hv; rcases hv with rfl | rfl <;> exact ⟨by decide, by decide, by decide, by decide, by decide, by decide⟩) (by decide) (w.alloc (.cells #[.int .i64 0, .int .i64 0, .int .u64 0, .string ⟨#[]⟩, .int .i64 2, .int .i64 5, .int .u64 0, .string ⟨#[]⟩] 33)) (RowAt.lit kr w 2 rfl _ rfl)
  rw [rbk] at c5
  obtain ⟨a5, ha5⟩ : ∃ a5, a5 = S [2, 0, 2, 10] := ⟨_, rfl⟩
  rw [← ha5] at c5
  have s5 : a5.size = 4 := by rw [ha5]; rfl
  have HS : Hid (a1 ++ a2 ++ a3 ++ a4 ++ a5 = S kl) := by
    refine hidm ?_
    rw [ha1, ha2, ha3, ha4, ha5, S_append, S_append, S_append, S_append]; rfl
  clear ha1 ha2 ha3 ha4 ha5
  simp only [V.agg] at c4
  go_enter Try.func10, Try.ntmps10
  go_wp2_with fail
  refine c1.mono ?_
  rintro e w1 ⟨rfl, hb1⟩
  have HB1 := hidm hb1
  clear hb1 c1
  go_wp2_with fail
  refine (c2 _).mono ?_
  rintro e w2 ⟨rfl, hb2⟩
  have HB2 := hidm (HB1.out.trans (hb2.mono HB1.out.size))
  clear hb2 c2
  go_wp2_with fail
  refine (c3 _).mono ?_
  rintro e w3 ⟨rfl, hb3⟩
  have HB3 := hidm (HB2.out.trans (hb3.mono HB2.out.size))
  clear hb3 c3
  go_wp2_with fail
  refine (c4 _).mono ?_
  rintro e w4 ⟨rfl, hb4⟩
  have HB4 := hidm (HB3.out.trans (hb4.mono HB3.out.size))
  clear hb4 c4
  go_wp2_with fail
  refine (c5 _).mono ?_
  rintro e w5 ⟨rfl, hb5⟩
  have HB5 := hidm ((HB4.out.alloc HB4.out.size (.cells #[.int .i64 0, .int .i64 0, .int .u64 0, .string ⟨#[]⟩, .int .i64 2, .int .i64 5, .int .u64 0, .string ⟨#[]⟩] 33)).trans (hb5.mono (HB4.out.alloc HB4.out.size _).size))
  clear hb5 c5
  obtain ⟨s, hs⟩ : ∃ s, s = a1 ++ a2 ++ a3 ++ a4 ++ a5 := ⟨_, rfl⟩
  have HSS : Hid (s = S kl) := hidm (hs.trans HS.out)
  have hsz : s.size = 12 := by rw [HSS.out]; rfl
  have HL : Hid (s.data.toList = kl) := hidm (by rw [HSS.out])
  have HZ := hidm hsz
  go_wp2_with fail
  simp only [← hs]
  clear hs HS hsz s1 s2 s3 s4 s5
  refine (new_any s _ (by have := HZ.out; omega)).mono ?_
  rintro e w6 ⟨r, hr, rfl, hr6, hb6⟩
  have hB : w.heap.size ≤ r := Nat.le_trans HB5.out.size hr
  have HB6 := hidm (HB5.out.trans (hb6.mono HB5.out.size))
  have HR6 : Hid (Rdr r s (0 : Nat) 0 w6) := hidm hr6
  clear hb6 hr6 hr
  go_wp2_with fail
  have hc6 := call_u r s 0 w6 HR6.out (by have := HZ.out; omega) (by have := HZ.out; omega)
  rw [HL.out, k1] at hc6
  refine hc6.mono ?_
  clear hc6
  rintro en w7 ⟨_, rfl, rfl, hr1, hb1⟩
  have HR7 : Hid (Rdr r s (2 : Nat) 0 w7) := by
    have e1 : s.size - (kl.drop 2 : List UInt8).length = 2 := by rw [HZ.out]; rfl
    rw [e1] at hr1; exact hidm hr1
  have HB7 := hidm (But.then HB6.out hb1 hB HB6.out.size)
  clear hr1 hb1
  go_wp2_with fail
  have hc7 := call_i r s 2 w7 HR7.out (by have := HZ.out; omega) (by have := HZ.out; omega)
  rw [HL.out, k2] at hc7
  refine hc7.mono ?_
  clear hc7
  rintro en w8 ⟨_, rfl, rfl, hr1, hb1⟩
  have HR8 : Hid (Rdr r s (3 : Nat) 0 w8) := by
    have e1 : s.size - (kl.drop 3 : List UInt8).length = 3 := by rw [HZ.out]; rfl
    rw [e1] at hr1; exact hidm hr1
  have HB8 := hidm (But.then HB7.out hb1 hB HB7.out.size)
  clear hr1 hb1
  go_wp2_with fail
  have hc8 := call_t r s 3 w8 HR8.out (by have := HZ.out; omega) (by have := HZ.out; omega)
  rw [HL.out, k3] at hc8
  refine hc8.mono ?_
  clear hc8
  rintro en w9 ⟨_, rfl, rfl, hr1, hb1⟩
  have HR9 : Hid (Rdr r s (6 : Nat) 0 w9) := by
    have e1 : s.size - (kl.drop 6 : List UInt8).length = 6 := by rw [HZ.out]; rfl
    rw [e1] at hr1; exact hidm hr1
  have HB9 := hidm (But.then HB8.out hb1 hB HB8.out.size)
  clear hr1 hb1
  go_wp2_with fail
  have hc9 := call_v r s 6 w9 HR9.out (by have := HZ.out; omega) (by have := HZ.out; omega)
  rw [HL.out, k4] at hc9
  refine hc9.mono ?_
  clear hc9
  rintro en w10 ⟨_, rfl, rfl, hr1, hb1⟩
  have HR10 : Hid (Rdr r s (8 : Nat) 0 w10) := by
    have e1 : s.size - (kl.drop 8 : List UInt8).length = 8 := by rw [HZ.out]; rfl
    rw [e1] at hr1; exact hidm hr1
  have HB10 := hidm (But.then HB9.out hb1 hB HB9.out.size)
  have hV := hidm (Vb.new w10 1 1 0 ⟨#[]⟩)
  have HRn : Hid (Rdr r s (8 : Nat) 0 (w10.alloc (.cells #[.int .i64 1, .int .i64 1, .int .u64 0, .string ⟨#[]⟩] 33))) := hidm (HR10.out.past _)
  have HBn := hidm (HB10.out.alloc HB10.out.size (.cells #[.int .i64 1, .int .i64 1, .int .u64 0, .string ⟨#[]⟩] 33))
  have hBv : r < w10.heap.size := HR10.out.lt
  have hBz : w.heap.size ≤ w10.heap.size := HB10.out.size
  obtain ⟨b, hbb⟩ : ∃ b, b = w10.heap.size := ⟨_, rfl⟩
  simp only [V.agg]
  clear hr1 hb1
  go_wp2_with fail
  obtain ⟨wv, hwv⟩ : ∃ wv, wv = w10.alloc (.cells #[.int .i64 1, .int .i64 1, .int .u64 0, .string ⟨#[]⟩] 33) := ⟨_, rfl⟩
  simp only [← hwv, ← hbb] at *
  clear hwv hbb
  have hwk : wv = wv := rfl
  clear hwk
  have HR10' := HRn
  have HB10' := HBn
  have hc10 := call_l r s 8 wv HR10'.out (by have := HZ.out; omega) (by have := HZ.out; omega)
  rw [HL.out, k5] at hc10
  refine hc10.mono ?_
  clear hc10
  rintro en w11 ⟨v, rfl, hv, hr1, hb1⟩
  have HR11 : Hid (Rdr r s (12 : Nat) 0 w11) := by
    have e1 : s.size - ([] : List UInt8).length = 12 := by rw [HZ.out]; rfl
    rw [e1] at hr1; exact hidm hr1
  have HB11 := hidm (But.then HB10'.out hb1 hB HB10'.out.size)
  have HVr := hidm hv
  have HVb := hidm (hV.out.but (by omega) hb1)
  clear hr1 hb1 hv hV
  go_wp2_with fail
  refine (left_any r s 12 0 w11 HR11.out (by have := HZ.out; omega) (by have := HZ.out; omega)).mono ?_
  rintro en w12 ⟨rfl, hb1⟩
  have HR12 := hidm (HR11.out.later hb1)
  have HB12 := hidm (HB11.out.trans (hb1.mono HB11.out.size))
  have HV12 := hidm (owns_later HVr.out hb1)
  have HVb12 := hidm (HVb.out.later hb1)
  clear hb1
  have hz0 : ((s.size - 12 : Nat) : Int) = 0 := by rw [HZ.out]; rfl
  simp only [hz0]
  clear hz0
  go_wp2_with fail
  have hcx := call_u r s 12 w12 HR12.out (by have := HZ.out; omega) (by have := HZ.out; omega)
  rw [HL.out, k6] at hcx
  refine hcx.mono ?_
  clear hcx
  rintro en w13 ⟨rfl, hr1, hb1⟩
  have HR13 := hidm hr1
  have HB13 := hidm (But.then HB12.out hb1 hB HB12.out.size)
  have HV13 := hidm (owns_but HV12.out (by omega) hb1)
  have HVb13 := hidm (HVb12.out.but (by omega) hb1)
  clear hr1 hb1
  go_wp2_with fail
  refine (err_any r s _ _ w13 HR13.out).mono ?_
  rintro en w14 ⟨rfl, rfl⟩
  have q0 := HVb13.out.c0
  have q1 := HVb13.out.c1
  have q2 := HVb13.out.c2
  have q3 := HVb13.out.c3
  have g1 : (s.toList == [172, 2, 1, 2, 97, 98, 1, 1, 2, 0, 2, 10]) = true := by rw [ByteArray.toList_eq, HL.out]; rfl
  obtain ⟨ab, hab⟩ : ∃ ab, ab = S [97, 98] := ⟨_, rfl⟩
  simp only [← hab]
  have g2 : (ab.toList == [97, 98]) = true := by rw [hab, ByteArray.toList_eq]; rfl
  clear hab
  have g3 : Val.eqV 1 1 0 ⟨#[]⟩ 1 1 0 ⟨#[]⟩ = true := by unfold Val.eqV; simp
  go_wp2_with fail
  have hro := rows_any kr kr v (.slice (some ⟨w13.heap.size, 0, none⟩) 2 2) (by decide) (by decide) (w13.alloc (.cells #[.int .i64 0, .int .i64 0, .int .u64 0, .string ⟨#[]⟩, .int .i64 2, .int .i64 5, .int .u64 0, .string ⟨#[]⟩] 33)) ((RowAt.of_owns HV13.out rfl).later ((Below.refl _ _).alloc (Nat.le_refl _) _)) (RowAt.lit kr w13 2 rfl _ rfl)
  rw [show decide (kr = kr) = true from by simp] at hro
  refine hro.mono ?_
  clear hro q0 q1 q2 q3
  rintro en w15 ⟨rfl, hb1⟩
  have HB15 := hidm ((HB13.out.alloc HB13.out.size (.cells #[.int .i64 0, .int .i64 0, .int .u64 0, .string ⟨#[]⟩, .int .i64 2, .int .i64 5, .int .u64 0, .string ⟨#[]⟩] 33)).trans (hb1.mono (HB13.out.alloc HB13.out.size _).size))
  clear hb1
  go_wp2_with fail
  refine (value_wrong ⟨6, 0, 0, []⟩ rt6 w15).mono ?_
  rintro en w16 ⟨rfl, hb1⟩
  have HB16 := hidm (HB15.out.trans (hb1.mono HB15.out.size))
  clear hb1
  have g4 : ((⟨#[]⟩ : ByteArray).toList == []) = true := by rw [ByteArray.toList_eq]; rfl
  go_wp2_with fail
  go_ret
  exact ⟨rfl, HB16.out⟩
end Cod
end Go.Proofs.Ytinnkdbojgoicaa
