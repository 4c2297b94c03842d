/- The law's known: true. No condition. -/
import Derived.Test.YtkbadjlehmaneaaDm
namespace Go.Proofs.Ytkbadjlehmaneaa
open Go.RowKit
namespace Dsk
set_option maxHeartbeats 4000000 in
set_option maxRecDepth 100000 in
theorem known_any (w : World) : Calls Try.prog 8 #[] w fun e w' => e = .returned (.bool true) ∧ Below w.heap.size w w' := by
  go_enter Try.func8, Try.ntmps8
  go_wp2_with fail
  refine (m_new (W := w) 4 (by decide) (by decide) (Below.refl _ _)).mono ?_
  rintro e w1 ⟨rfl, hm, hb⟩
  have H1 := hidm hm
  clear hm hb
  obtain ⟨D, hD⟩ : ∃ D, D = w.heap.size + 1 := ⟨_, rfl⟩
  rw [← hD] at H1 ⊢
  clear hD
  go_wp2_with fail
  refine (new_bad 0 (by decide) w1).mono ?_
  rintro e w1' ⟨rfl, rfl⟩
  go_wp2_with fail
  refine (m_write 3 ⟨#[97, 98]⟩ (by decide) H1.out (by decide) rfl (by decide) (by decide)).mono ?_
  rintro e w2 ⟨rfl, hm, hk⟩
  have H2 := hidm hm
  have K2 := hidm hk
  clear hm hk
  go_wp2_with fail
  refine (m_write 3 ⟨#[99, 100]⟩ (by decide) H2.out (by decide) rfl (by decide) (by decide)).mono ?_
  rintro e w3 ⟨rfl, hm, hk⟩
  have H3 := hidm hm
  have K3 := hidm hk
  clear hm hk
  go_wp2_with fail
  refine (m_dirty H3.out).mono ?_
  rintro e w4 ⟨vl, rfl, hi, hb⟩
  have H4 := hidm (H3.out.guard hb)
  obtain ⟨Q, hQ⟩ : ∃ Q : Nat → Prop, Q = (fun k => False ∨ (w3.heap.size ≤ k ∧ k < w4.heap.size)) := ⟨_, rfl⟩
  have I4 := hidm (show IntsQ Q [3, 3] vl w4 from ⟨hi.zero, fun g hg => by rw [hQ]; exact .inr (hi.lt g hg)⟩)
  obtain ⟨lo, lc, hvl, _, _⟩ := hi.form
  rw [← hQ] at H4
  clear hQ hi hb
  have hvl' : vl = .slice lo 2 lc := hvl
  clear hvl
  subst hvl'
  go_wp2_with fail
  have hbA : Below w4.heap.size w4 (w4.alloc (.cells #[.bool true, .bool false, .bool true] 4)) := (Below.refl _ _).alloc (Nat.le_refl _) _
  refine (m_crash_many (some ⟨w4.heap.size, 0, none⟩) 3 3 (H4.out.later hbA) (by decide)).mono ?_
  rintro e w5 ⟨rfl, hb⟩
  have H5 := hidm ((H4.out.later hbA).later hb)
  have I5 := hidm ((I4.out.keep (H4.out.kept hbA)).keep ((H4.out.later hbA).kept hb))
  clear hbA hb
  go_wp2_with fail
  have hbB : Below w5.heap.size w5 (w5.alloc (.cells #[.bool true] 4)) := (Below.refl _ _).alloc (Nat.le_refl _) _
  refine (m_crash [true] (some ⟨w5.heap.size, 0, none⟩) 1 (H5.out.guard hbB) (by decide) (bools_new w5 [true] (by decide)) (fun _ p hp => .inr (.inr (by cases hp; simp)))).mono ?_
  rintro e w6 ⟨rfl, hm, hk⟩
  have I6 := hidm (((I5.out.keep (H5.out.kept hbB)).mono (fun _ h => .inl h)).keep hk)
  have H6 := hidm hm
  obtain ⟨Q2, hQ2⟩ : ∃ Q2 : Nat → Prop, Q2 = (fun k => Q k ∨ (w5.heap.size ≤ k ∧ k < (w5.alloc (.cells #[.bool true] 4)).heap.size)) := ⟨_, rfl⟩
  rw [← hQ2] at I6 H6
  clear hm hk hbB hQ2
  go_wp2_with fail
  refine (m_read 3 H6.out (by decide)).mono ?_
  rintro e w7 ⟨rfl, hb⟩
  have H7 := hidm (H6.out.later hb)
  have I7 := hidm (I6.out.keep (H6.out.kept hb))
  have hr3 : ((((PD.new 4).write 3 (⟨#[97, 98]⟩ : ByteArray).data.toList).burn.write 3 (⟨#[99, 100]⟩ : ByteArray).data.toList).burn.crash [true]).f ((3 : Nat) : Int) = pad [97, 98] := rfl
  rw [hr3]
  clear hb hr3
  go_wp2_with fail
  refine (m_write_off 4 ⟨#[120]⟩ H7.out (.inr (by decide))).mono ?_
  rintro e w8 ⟨rfl, hb⟩
  have H8 := hidm (H7.out.later hb)
  have I8 := hidm (I7.out.keep (H7.out.kept hb))
  clear hb
  go_wp2_with fail
  refine (m_write 1 ⟨#[120, 121]⟩ (by decide) H8.out (by decide) rfl (by decide) (by decide)).mono ?_
  rintro e w9 ⟨rfl, hm, hk⟩
  have H9 := hidm hm
  have I9 := hidm (I8.out.keep hk)
  clear hm hk
  go_wp2_with fail
  refine (m_flush H9.out rfl (by decide)).mono ?_
  rintro e w10 ⟨rfl, hm, hk⟩
  have H10 := hidm hm
  have I10 := hidm (I9.out.keep hk)
  clear hm hk
  go_wp2_with fail
  refine (m_crash [] none 0 H10.out (by decide) (BoolsAt.nil _) (fun _ p hp => (nomatch hp))).mono ?_
  rintro e w11 ⟨rfl, hm, hk⟩
  have H11 := hidm hm
  have I11 := hidm (I10.out.keep hk)
  clear hm hk
  obtain ⟨d, hd, hn, hf1, hwr, hfl, hcs⟩ : ∃ d : PD, Mine w Q2 D d w11 ∧ d.n = 4 ∧ d.f ((1 : Nat) : Int) = pad [120, 121] ∧ d.wr = 3 ∧ d.fl = 1 ∧ d.cs = [] := ⟨_, H11.out, rfl, rfl, rfl, rfl, rfl⟩
  have HN := hidm hn
  have HF := hidm hf1
  have HWR := hidm hwr
  have HFL := hidm hfl
  have HCS := hidm hcs
  have M11 := hidm hd
  clear hn hf1 hwr hfl hcs hd H1 H2 H3 H4 H5 H6 H7 H8 H9 H10 H11 K2 K3 I4 I5 I6 I7 I8 I9 I10
  go_wp2_with fail
  refine (m_read 1 M11.out (by rw [HN.out]; decide)).mono ?_
  rintro e w12 ⟨rfl, hb⟩
  have M12 := hidm (M11.out.later hb)
  have I12 := hidm (I11.out.keep (M11.out.kept hb))
  rw [HF.out]
  clear hb
  go_wp2_with fail
  refine (m_count M12.out).mono ?_
  rintro e w13 ⟨rfl, hb⟩
  have M13 := hidm (M12.out.later hb)
  have I13 := hidm (I12.out.keep (M12.out.kept hb))
  rw [HWR.out, HFL.out]
  clear hb
  go_wp2_with fail
  have hbC : Below w13.heap.size w13 (w13.alloc (.cells #[.int .i64 3, .int .i64 3] 3)) := (Below.refl _ _).alloc (Nat.le_refl _) _
  refine (rints_any 0 w13.heap.size [3, 3] [3, 3] _ (.slice (some ⟨w13.heap.size, 0, none⟩) 2 2) _ (I13.out.keep (M13.out.kept hbC)).1 (ints_new w13 [3, 3] (by decide))).mono ?_
  rintro e w14 ⟨rfl, hb⟩
  have M14 := hidm ((M13.out.later hbC).later hb)
  rw [show (([3, 3] : List Nat) == [3, 3]) = true from rfl]
  clear hb hbC
  go_wp2_with fail
  refine (rpad_any ⟨#[97, 98]⟩ (by decide) _).mono ?_
  rintro e w15 ⟨rfl, hb⟩
  have M15 := hidm (M14.out.later hb)
  clear hb
  go_wp2_with fail
  refine (rpad_any ⟨#[120, 121]⟩ (by decide) _).mono ?_
  rintro e w16 ⟨rfl, hb⟩
  have M16 := hidm (M15.out.later hb)
  clear hb
  go_wp2_with fail
  refine (m_len M16.out).mono ?_
  rintro e w17 ⟨rfl, rfl⟩
  rw [HN.out]
  go_wp2_with fail
  refine (m_dirty M16.out).mono ?_
  rintro e w18 ⟨vd, rfl, hi, hb⟩
  have M18 := hidm (M16.out.later hb)
  obtain ⟨vo, vc, hvd, _, _⟩ := hi.form
  rw [show d.dirty.length = 0 from by rw [dirty_len, HCS.out]; rfl] at hvd
  subst hvd
  clear hi hb
  go_wp2_with fail
  go_ret
  exact ⟨rfl, M18.out.bel⟩
end Dsk
end Go.Proofs.Ytkbadjlehmaneaa
