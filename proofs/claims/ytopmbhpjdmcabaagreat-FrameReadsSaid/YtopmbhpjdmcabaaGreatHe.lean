/- The document's number and change (layer 6). Condition: the bytes are at most 100000. -/
import Derived.Test.YtopmbhpjdmcabaaGreatMi
import Derived.Test.YtopmbhpjdmcabaaGreatMg
import Derived.Test.YtopmbhpjdmcabaaGreatKhf
namespace Go.Proofs.YtopmbhpjdmcabaaGreat
open Go.RowKit
namespace Frm
open Cod Sch Rr
/-- A number that is at most 2^40, else one more. -/
def nb (v : Nat) : Int := if v ≤ 1099511627776 then (v : Int) else 1099511627777
theorem nb_small (v : Nat) (h : v ≤ 1099511627776) : nb v = (v : Int) := if_pos h
theorem nb_bnd (v : Nat) : 0 ≤ nb v ∧ nb v ≤ 1099511627777 := by unfold nb; split <;> omega
set_option maxHeartbeats 4000000 in
set_option maxRecDepth 100000 in
theorem number_any (v : Nat) (hv : v < 18446744073709551616) (w : World) :
    Calls Tryz.prog 51 #[.int .u64 v] w fun e w' => e = .returned (.int .i64 (nb v)) ∧ w = w' := by
  obtain ⟨k, hk⟩ : ∃ k, nb v = k := ⟨_, rfl⟩
  rw [hk]
  have HK := hidm hk
  clear hk
  rcases Nat.lt_or_ge 1099511627776 v with h | h
  · have f1 : (1099511627776 : Int) < (v : Int) := by omega
    have HV := hidm (show (1099511627777 : Int) = k from by rw [← HK.out]; unfold nb; rw [if_neg (by omega)])
    clear h
    go_enter Tryz.func51, Tryz.ntmps51
    go_wp2_with fail
    go_ret
    exact ⟨congrArg (fun q => Ending.returned (.int .i64 q)) HV.out, rfl⟩
  · have f1 : ¬ (1099511627776 : Int) < (v : Int) := by omega
    have f2 : IntKind.i64.wrap (v : Int) = (v : Int) := wrap_small v (by omega)
    have f3 : wrap64 (v : Int) = (v : Int) := by unfold wrap64; omega
    have HV := hidm (show (v : Int) = k from by rw [← HK.out]; exact (nb_small v h).symm)
    clear h
    go_enter Tryz.func51, Tryz.ntmps51
    go_wp2_with fail
    go_ret
    exact ⟨congrArg (fun q => Ending.returned (.int .i64 q)) HV.out, rfl⟩
theorem put8_rrd {w1 : World} {B r : Nat} {s : ByteArray} {q e : Int} (x0 x1 x2 x3 x4 x5 x6 x7 : Value) (h : Rrd r s q e w1) (hn : r ≠ B) : Rrd r s q e (put8 w1 B x0 x1 x2 x3 x4 x5 x6 x7) := by
  unfold Rrd; rw [put8_far _ _ _ _ _ _ _ _ hn]; exact h
def RRowP (r : Nat) (s : ByteArray) (p : Nat) (e : Int) (w : World) (en : Ending) (w' : World) : Prop := ∃ (vs : List V) (ao : Option Addr) (cap p' : Nat) (e' : Int), en = .returned (.slice ao vs.length cap) ∧ RowC vs (.slice ao vs.length cap) w' ∧ Fresh w.heap.size vs (.slice ao vs.length cap) ∧ Rrd r s p' e' w' ∧ But r w w' ∧ p' ≤ s.size ∧ vs.length ≤ 1000 ∧ (∀ v ∈ vs, v.right = true ∧ v.wf) ∧
  (∀ us X, e = 0 → s.data.toList.drop p = rB us ++ X → us.length ≤ 1000 → (∀ v ∈ us, v.right = true ∧ v.wf) → vs = us ∧ e' = 0 ∧ s.data.toList.drop p' = X)
theorem rrow_uni (r : Nat) (s : ByteArray) (p : Nat) (e : Int) (w : World) (h : Rrd r s p e w) (hp : p ≤ s.size) (hs : s.size ≤ 281474976710656) :
    Calls Tryz.prog 79 #[.pointer (some ⟨r, 0, none⟩)] w fun en w' => RRowP r s p e w en w' := by
  by_cases he : e = 0
  · subst he
    refine (Rr.row_call r s p w h hp hs).mono ?_
    cases hR : row (s.data.toList.drop p) with
    | ok at' =>
      obtain ⟨a, t⟩ := at'
      rintro en w' ⟨v, rfl, hv, hr, hb⟩
      have hk := row_ok hR
      have hc := RowC.of_owns hv
      obtain ⟨ao, cap, rfl, _, _, _⟩ := hc.2
      refine ⟨a, ao, cap, s.size - t.length, 0, rfl, hc, fresh_owns hv, hr, hb, Nat.sub_le _ _, hk.2.1, hk.2.2, fun us X _ hd hn hu => ?_⟩
      rw [hd, row_back us hu hn X] at hR
      simp only [Except.ok.injEq, Prod.mk.injEq] at hR
      obtain ⟨rfl, rfl⟩ := hR
      exact ⟨rfl, rfl, drop_end hd⟩
    | error x =>
      rintro en w' ⟨rfl, hr, hb⟩
      refine ⟨[], none, 0, p, x, rfl, RowC.nil _, Fresh.nil _ _, hr, hb, hp, by simp, by simp, fun us X _ hd hn hu => ?_⟩
      rw [hd, row_back us hu hn X] at hR
      cases hR
  · refine (Rr.row_stay r s p e (by simpa using he) w h).mono ?_
    rintro en w' ⟨rfl, hr, hb⟩
    exact ⟨[], none, 0, p, e, rfl, RowC.nil _, Fresh.nil _ _, hr, hb, hp, by simp, by simp, fun _ _ h0 => absurd h0 he⟩
/-- A change that is read. -/
def RChP (r : Nat) (s : ByteArray) (p : Nat) (e : Int) (w : World) (en : Ending) (w' : World) : Prop := ∃ (x : M) (p' : Nat) (e' : Int), en = .returned x.agg ∧ x.In w' ∧ x.From w.heap.size ∧ Small s.size x.c ∧ Rrd r s p' e' w' ∧ But r w w' ∧ p' ≤ s.size ∧
  (∀ c X, e = 0 → s.data.toList.drop p = chBy c ++ X → chB c = true → c.wf → x.c = c ∧ e' = 0 ∧ s.data.toList.drop p' = X)
set_option maxHeartbeats 4000000 in
set_option maxRecDepth 100000 in
theorem rchread_any (r : Nat) (s : ByteArray) (p : Nat) (e : Int) (w : World) (h : Rrd r s p e w) (hp : p ≤ s.size) (hs : s.size ≤ 100000) :
    Calls Tryz.prog 53 #[.pointer (some ⟨r, 0, none⟩)] w fun en w' => RChP r s p e w en w' := by
  have hs2 : s.size ≤ 281474976710656 := by omega
  have hrw := h.lt
  have hrz : r ≠ w.heap.size := by omega
  have HR0 := hidm (h.past (.cells #[.int .i64 0, .string ⟨#[]⟩, .slice none 0 0, .int .i64 0, .int .i64 0, .string ⟨#[]⟩, .slice none 0 0, .int .i64 0] 32))
  have HZ0 := hidm (heap_alloc_new w (.cells #[.int .i64 0, .string ⟨#[]⟩, .slice none 0 0, .int .i64 0, .int .i64 0, .string ⟨#[]⟩, .slice none 0 0, .int .i64 0] 32))
  have HB0 := hidm ((But.refl r w).alloc (.cells #[.int .i64 0, .string ⟨#[]⟩, .slice none 0 0, .int .i64 0, .int .i64 0, .string ⟨#[]⟩, .slice none 0 0, .int .i64 0] 32))
  clear h
  go_enter Tryz.func53, Tryz.ntmps53
  go_wp2_with fail
  refine (rnum_uni r s p e _ HR0.out hp hs2).mono ?_
  rintro en w1 ⟨v, p1, e1, rfl, hr, hb, hp1, hv, ht⟩
  go_wp2_with fail
  refine (number_any v hv _).mono ?_
  rintro en wn ⟨rfl, rfl⟩
  obtain ⟨k, hk⟩ : ∃ k, nb v = k := ⟨_, rfl⟩
  rw [hk]
  have HK := hidm hk
  have hsz1 : w.heap.size + 1 ≤ w1.heap.size := by have := hb.size; simpa using this
  have hrc : r ≠ w1.heap.size := by omega
  have hzc : w.heap.size ≠ w1.heap.size := by omega
  have hbA : Below w1.heap.size w1 (w1.alloc (.cells #[.int .i64 k, .string ⟨#[]⟩, .slice none 0 0, .int .i64 0, .int .i64 0, .string ⟨#[]⟩, .slice none 0 0, .int .i64 0] 32)) := (Below.refl _ _).alloc (Nat.le_refl _) _
  have HZ1 := hidm (below_keeps hbA (hb.keeps (Ne.symm hrz) HZ0.out))
  have HC1 := hidm (heap_alloc_new w1 (.cells #[.int .i64 k, .string ⟨#[]⟩, .slice none 0 0, .int .i64 0, .int .i64 0, .string ⟨#[]⟩, .slice none 0 0, .int .i64 0] 32))
  have HR1 := hidm (hr.past (.cells #[.int .i64 k, .string ⟨#[]⟩, .slice none 0 0, .int .i64 0, .int .i64 0, .string ⟨#[]⟩, .slice none 0 0, .int .i64 0] 32))
  have HB1 := hidm ((HB0.out.trans hb).alloc (.cells #[.int .i64 k, .string ⟨#[]⟩, .slice none 0 0, .int .i64 0, .int .i64 0, .string ⟨#[]⟩, .slice none 0 0, .int .i64 0] 32))
  have HP1 := hidm hp1
  have HT1 := hidm ht
  clear hr hb hp1 ht hbA HR0 HZ0 HB0
  by_cases h3 : k = 3
  · have f1 : (k == 3) = true := by rw [h3]; rfl
    have H3 := hidm h3
    clear h3
    go_wp2_with fail
    refine (rtext_uni r s p1 e1 _ HR1.out HP1.out hs2).mono ?_
    rintro en w2 ⟨l, p2, e2, rfl, hr, hb, hp2, hl, ht⟩
    have HZ2 := hidm (hb.keeps (Ne.symm hrz) HZ1.out)
    have HC2 := hidm (hb.keeps (Ne.symm hrc) HC1.out)
    have HB2 := hidm (HB1.out.trans hb)
    have hsz2 : w1.heap.size + 1 ≤ w2.heap.size := by have := hb.size; simpa using this
    have HR2 := hidm hr
    have HP2 := hidm hp2
    have HL2 := hidm hl
    have HT2 := hidm ht
    have hl1 : l.length ≤ 100000 := by omega
    clear hr hb hp2 hl ht HZ1 HC1 HB1 HR1 hk
    go_wp2_with fail
    refine (rdecode_any l hl1 _).mono ?_
    rintro en w3 ⟨t, sl, x, rfl, hc, hb, hn, hm, hcn, hor, hfr⟩
    obtain ⟨so, sc, hsl, _, _⟩ := hc.form
    subst hsl
    have hsz3 := hb.size
    have hbA : Below w3.heap.size w3 (w3.alloc (.cells #[.string (S t.nm), .slice so t.cols.length sc, .int .i64 t.keys] 30)) := (Below.refl _ _).alloc (Nat.le_refl _) _
    have hz3 := below_keeps hbA (below_keeps hb HZ2.out)
    have hc3 := below_keeps hbA (below_keeps hb HC2.out)
    have HB3 := hidm ((HB2.out.trans (.of hb)).alloc (.cells #[.string (S t.nm), .slice so t.cols.length sc, .int .i64 t.keys] 30))
    have HR3 := hidm ((HR2.out.later hb).past (.cells #[.string (S t.nm), .slice so t.cols.length sc, .int .i64 t.keys] 30))
    have hne1 : w3.heap.size ≠ w1.heap.size := by omega
    have hne2 : w1.heap.size ≠ w3.heap.size := by omega
    have hne3 : w.heap.size ≠ w3.heap.size := by omega
    have hc' := hc.later hbA
    rcases hor with ⟨rfl, hrt0, _, hor⟩ | ⟨rfl, htz, hor⟩
    · obtain ⟨c0, c1, c2, c3, c4, c5, c6, c7⟩ := cells8 hc3
      obtain ⟨z0, z1, z2, z3, z4, z5, z6, z7⟩ := cells8 hz3
      have cf1 := frz hc3 1
      have cf5 := frz hc3 5
      have cf6 := frz hc3 6
      have cf7 := frz hc3 7
      have zf0 := frz hz3 0
      have zf1 := frz hz3 1
      have zf2 := frz hz3 2
      have zf3 := frz hz3 3
      have zf4 := frz hz3 4
      have zf5 := frz hz3 5
      have zf6 := frz hz3 6
      have zf7 := frz hz3 7
      have HX := hidm (show (⟨⟨k, t.nm, [], 0, 0, t⟩, none, 0, so, sc⟩ : M).In (w3.alloc (.cells #[.string (S t.nm), .slice so t.cols.length sc, .int .i64 t.keys] 30)) from ⟨RowC.nil _, hc'⟩)
      have HXF := hidm (show (⟨⟨k, t.nm, [], 0, 0, t⟩, none, 0, so, sc⟩ : M).From w2.heap.size from fun b hx => by
        rcases hx with ⟨hne, _⟩ | ⟨hne, a, ha, rfl⟩
        · exact absurd rfl hne
        · have ha' : so = some a := ha
          exact hfr hne a _ _ (by rw [ha']))
      have HSM := hidm (show Small s.size (⟨k, t.nm, [], 0, 0, t⟩ : Ch) from ⟨by have := HL2.out; show t.nm.length ≤ s.size; omega, by simp, by simp, by have := HL2.out; show t.nm.length ≤ s.size; omega, (head_parts (right_head hrt0)).2.1, fun d hd => by have := hcn d hd; have := HL2.out; omega⟩)
      have HOR := hidm hor
      have hz4 := put_other (c := w1.heap.size) (o := 1) (u := .string (S t.nm)) (put_other (c := w1.heap.size) (o := 7) (u := .int .i64 t.keys) (put_other (c := w1.heap.size) (o := 6) (u := .slice so t.cols.length sc) (put_other (c := w1.heap.size) (o := 5) (u := .string (S t.nm)) hz3 hzc) hzc) hzc) hzc
      obtain ⟨r0, r1, r2, r3, r4, r5, r6, r7⟩ := cells8 (put8_blk (.int .i64 k) (.string (S t.nm)) (.slice none 0 0) (.int .i64 0) (.int .i64 0) (.string (S t.nm)) (.slice so t.cols.length sc) (.int .i64 t.keys) hz4)
      unfold put8 at r0 r1 r2 r3 r4 r5 r6 r7
      have R0 := hidm r0
      have R1 := hidm r1
      have R2 := hidm r2
      have R3 := hidm r3
      have R4 := hidm r4
      have R5 := hidm r5
      have R6 := hidm r6
      have R7 := hidm r7
      clear r0 r1 r2 r3 r4 r5 r6 r7
      have HRF := hidm (put8_rrd (B := w.heap.size) (.int .i64 k) (.string (S t.nm)) (.slice none 0 0) (.int .i64 0) (.int .i64 0) (.string (S t.nm)) (.slice so t.cols.length sc) (.int .i64 t.keys) ((((HR3.out.other (a := ⟨w1.heap.size, 5, none⟩) hrc (.string (S t.nm))).other (a := ⟨w1.heap.size, 6, none⟩) hrc (.slice so t.cols.length sc)).other (a := ⟨w1.heap.size, 7, none⟩) hrc (.int .i64 t.keys)).other (a := ⟨w1.heap.size, 1, none⟩) hrc (.string (S t.nm))) hrz)
      have HBF := hidm (put8_but (B := w.heap.size) (.int .i64 k) (.string (S t.nm)) (.slice none 0 0) (.int .i64 0) (.int .i64 0) (.string (S t.nm)) (.slice so t.cols.length sc) (.int .i64 t.keys) ((((HB3.out.setNew (p := ⟨w1.heap.size, 5, none⟩) (by show w.heap.size ≤ w1.heap.size; omega) (.string (S t.nm))).setNew (p := ⟨w1.heap.size, 6, none⟩) (by show w.heap.size ≤ w1.heap.size; omega) (.slice so t.cols.length sc)).setNew (p := ⟨w1.heap.size, 7, none⟩) (by show w.heap.size ≤ w1.heap.size; omega) (.int .i64 t.keys)).setNew (p := ⟨w1.heap.size, 1, none⟩) (by show w.heap.size ≤ w1.heap.size; omega) (.string (S t.nm))) (Nat.le_refl _))
      have HXX := hidm (M.In.put8 (c := w.heap.size) (.int .i64 k) (.string (S t.nm)) (.slice none 0 0) (.int .i64 0) (.int .i64 0) (.string (S t.nm)) (.slice so t.cols.length sc) (.int .i64 t.keys) ((((HX.out.put (c := w1.heap.size) (o := 5) (u := .string (S t.nm)) HXF.out (by omega)).put (c := w1.heap.size) (o := 6) (u := .slice so t.cols.length sc) HXF.out (by omega)).put (c := w1.heap.size) (o := 7) (u := .int .i64 t.keys) HXF.out (by omega)).put (c := w1.heap.size) (o := 1) (u := .string (S t.nm)) HXF.out (by omega)) HXF.out (by omega))
      clear hc hb hn hm hcn hor hfr hz3 hc3 hz4 HX HB3 HR3 HB2 HR2 HZ2 HC2 hbA hc'
      go_wp2_with fail
      refine bodyPost_ret (v := .agg #[.int .i64 k, .string (S t.nm), .slice none 0 0, .int .i64 0, .int .i64 0, .string (S t.nm), .slice so t.cols.length sc, .int .i64 t.keys]) (by simp [results, Tryz.results53, go_sem, R0.out, R1.out, R2.out, R3.out, R4.out, R5.out, R6.out, R7.out]) rfl ?_
      refine ⟨⟨⟨k, t.nm, [], 0, 0, t⟩, none, 0, so, sc⟩, p2, e2, rfl, HXX.out, HXF.out.mono (by omega), HSM.out, HRF.out, HBF.out, HP2.out, fun c X he hd hcb hwf => ?_⟩
      have hop := ch_op hcb
      obtain ⟨hv1, he1, hd1⟩ := HT1.out c.op.toNat (backB c ++ X) he (by rw [hd]; unfold chBy; rw [List.append_assoc]) (by omega)
      have hk3 : k = c.op := by rw [← HK.out, hv1, nb_small _ (by omega)]; omega
      have hc3 : c.op = 3 := by rw [← hk3]; exact H3.out
      rcases ch_cases hcb with ⟨h12, _⟩ | ⟨_, htab⟩
      · omega
      · obtain ⟨hrt, htb, hrow, ha, hz⟩ := tab_parts htab
        have hln := schema_len hrt
        obtain ⟨hl1, he2, hd2⟩ := HT2.out (bodyB c.df) X he1 (by rw [hd1]; unfold backB; rw [if_pos hc3]) (by omega)
        have htd : t = c.df := HOR.out _ hrt hl1.symm
        refine ⟨?_, he2, hd2⟩
        obtain ⟨co, ct, cr, ca, cz, cd⟩ := c
        simp only at hk3 hc3 htb hrow ha hz htd
        rw [hk3, htd, htb, hrow, ha, hz]
    · clear htz
      obtain ⟨c0, c1, c2, c3, c4, c5, c6, c7⟩ := cells8 hc3
      obtain ⟨z0, z1, z2, z3, z4, z5, z6, z7⟩ := cells8 hz3
      have cf1 := frz hc3 1
      have cf5 := frz hc3 5
      have cf6 := frz hc3 6
      have cf7 := frz hc3 7
      have zf0 := frz hz3 0
      have zf1 := frz hz3 1
      have zf2 := frz hz3 2
      have zf3 := frz hz3 3
      have zf4 := frz hz3 4
      have zf5 := frz hz3 5
      have zf6 := frz hz3 6
      have zf7 := frz hz3 7
      have HX := hidm (show (⟨⟨k, [], [], 0, 0, zT⟩, none, 0, none, 0⟩ : M).In (w3.alloc (.cells #[.string (S t.nm), .slice so t.cols.length sc, .int .i64 t.keys] 30)) from ⟨RowC.nil _, ColsAt.nil _⟩)
      have HXF := hidm (show (⟨⟨k, [], [], 0, 0, zT⟩, none, 0, none, 0⟩ : M).From w2.heap.size from fun b hx => by
        rcases hx with ⟨hne, _⟩ | ⟨hne, _⟩
        · exact absurd rfl hne
        · exact absurd rfl hne)
      have HSM := hidm (show Small s.size (⟨k, [], [], 0, 0, zT⟩ : Ch) from ⟨Nat.zero_le _, by simp, by simp, Nat.zero_le _, Nat.zero_le _, fun d hd => by cases hd⟩)
      have HOR := hidm hor
      obtain ⟨r0, r1, r2, r3, r4, r5, r6, r7⟩ := cells8 (put8_blk (.int .i64 k) (.string ⟨#[]⟩) (.slice none 0 0) (.int .i64 0) (.int .i64 0) (.string ⟨#[]⟩) (.slice none 0 0) (.int .i64 0) hz3)
      unfold put8 at r0 r1 r2 r3 r4 r5 r6 r7
      have R0 := hidm r0
      have R1 := hidm r1
      have R2 := hidm r2
      have R3 := hidm r3
      have R4 := hidm r4
      have R5 := hidm r5
      have R6 := hidm r6
      have R7 := hidm r7
      clear r0 r1 r2 r3 r4 r5 r6 r7
      have HRF := hidm (put8_rrd (B := w.heap.size) (.int .i64 k) (.string ⟨#[]⟩) (.slice none 0 0) (.int .i64 0) (.int .i64 0) (.string ⟨#[]⟩) (.slice none 0 0) (.int .i64 0) HR3.out hrz)
      have HBF := hidm (put8_but (B := w.heap.size) (.int .i64 k) (.string ⟨#[]⟩) (.slice none 0 0) (.int .i64 0) (.int .i64 0) (.string ⟨#[]⟩) (.slice none 0 0) (.int .i64 0) HB3.out (Nat.le_refl _))
      have HXX := hidm (M.In.put8 (c := w.heap.size) (.int .i64 k) (.string ⟨#[]⟩) (.slice none 0 0) (.int .i64 0) (.int .i64 0) (.string ⟨#[]⟩) (.slice none 0 0) (.int .i64 0) HX.out HXF.out (by omega))
      clear hc hb hn hm hcn hor hfr hz3 hc3 HX HB3 HR3 HB2 HR2 HZ2 HC2 hbA hc'
      go_wp2_with fail
      refine bodyPost_ret (v := .agg #[.int .i64 k, .string ⟨#[]⟩, .slice none 0 0, .int .i64 0, .int .i64 0, .string ⟨#[]⟩, .slice none 0 0, .int .i64 0]) (by simp [results, Tryz.results53, go_sem, R0.out, R1.out, R2.out, R3.out, R4.out, R5.out, R6.out, R7.out]) rfl ?_
      refine ⟨⟨⟨k, [], [], 0, 0, zT⟩, none, 0, none, 0⟩, p2, e2, rfl, HXX.out, HXF.out.mono (by omega), HSM.out, HRF.out, HBF.out, HP2.out, fun c X he hd hcb hwf => ?_⟩
      have hop := ch_op hcb
      obtain ⟨hv1, he1, hd1⟩ := HT1.out c.op.toNat (backB c ++ X) he (by rw [hd]; unfold chBy; rw [List.append_assoc]) (by omega)
      have hk3 : k = c.op := by rw [← HK.out, hv1, nb_small _ (by omega)]; omega
      have hc3 : c.op = 3 := by rw [← hk3]; exact H3.out
      rcases ch_cases hcb with ⟨h12, _⟩ | ⟨_, htab⟩
      · omega
      · obtain ⟨hrt, htb, hrow, ha, hz⟩ := tab_parts htab
        have hln := schema_len hrt
        obtain ⟨hl1, he2, hd2⟩ := HT2.out (bodyB c.df) X he1 (by rw [hd1]; unfold backB; rw [if_pos hc3]) (by omega)
        exact (HOR.out _ hrt hl1.symm).elim
  · have f1 : (k == 3) = false := by simpa using h3
    go_wp2_with fail
    refine (rtext_uni r s p1 e1 _ HR1.out HP1.out hs2).mono ?_
    rintro en w2 ⟨l, p2, e2, rfl, hr, hb, hp2, hl, ht⟩
    have hz2 := hb.keeps (Ne.symm hrz) HZ1.out
    have hc2 := hb.keeps (Ne.symm hrc) HC1.out
    have hsz2 : w1.heap.size + 1 ≤ w2.heap.size := by have := hb.size; simpa using this
    obtain ⟨c0, c1, c2, c3, c4, c5, c6, c7⟩ := cells8 hc2
    have cf := frz hc2 1
    have HB2 := hidm ((HB1.out.trans hb).setNew (p := ⟨w1.heap.size, 1, none⟩) (by show w.heap.size ≤ w1.heap.size; omega) (.string (S l)))
    have HZ2 := hidm (put_other (c := w1.heap.size) (o := 1) (u := .string (S l)) hz2 hzc)
    have HC2 := hidm (put_at (o := 1) (u := .string (S l)) hc2)
    have HR2 := hidm (hr.other (a := ⟨w1.heap.size, 1, none⟩) hrc (.string (S l)))
    have HP2 := hidm hp2
    have HL2 := hidm hl
    have HT2 := hidm ht
    clear hr hb hp2 hl ht hz2 hc2 HZ1 HC1 HB1 HR1 hk
    go_wp2_with fail
    refine (rrow_uni r s p2 e2 _ HR2.out HP2.out hs2).mono ?_
    rintro en w3 ⟨vs, ro, rc, p3, e3, rfl, hrow, hfr, hr, hb, hp3, hvn, hvs, ht⟩
    have hz3 := hb.keeps (Ne.symm hrz) HZ2.out
    have hc3 := hb.keeps (Ne.symm hrc) HC2.out
    have hsz3 : w1.heap.size + 1 ≤ w3.heap.size := by have := hb.size; simp only [World.size_setCell] at this; omega
    clear c0 c1 c2 c3 c4 c5 c6 c7 cf
    obtain ⟨c0, c1, c2, c3, c4, c5, c6, c7⟩ := cells8 hc3
    have cf := frz hc3 2
    have HF3 := hidm (hfr.mono (B' := w2.heap.size) (by simp))
    have HB3 := hidm ((HB2.out.trans hb).setNew (p := ⟨w1.heap.size, 2, none⟩) (by show w.heap.size ≤ w1.heap.size; omega) (.slice ro vs.length rc))
    have HZ3 := hidm (put_other (c := w1.heap.size) (o := 2) (u := .slice ro vs.length rc) hz3 hzc)
    have HC3 := hidm (put_at (o := 2) (u := .slice ro vs.length rc) hc3)
    have HR3 := hidm (hr.other (a := ⟨w1.heap.size, 2, none⟩) hrc (.slice ro vs.length rc))
    have HW3 := hidm (row_put (c := w1.heap.size) (k := 2) (u := .slice ro vs.length rc) hrow HF3.out (by omega))
    have HP3 := hidm hp3
    have HV3 := hidm (show vs.length ≤ 1000 ∧ ∀ v ∈ vs, v.right = true ∧ v.wf from ⟨hvn, hvs⟩)
    have HT3 := hidm ht
    clear hr hb hp3 ht hz3 hc3 hrow hfr hvn hvs HZ2 HC2 HB2 HR2
    go_wp2_with fail
    refine (rnum_uni r s p3 e3 _ HR3.out HP3.out hs2).mono ?_
    rintro en w4 ⟨v4, p4, e4, rfl, hr, hb, hp4, hv4, ht⟩
    go_wp2_with fail
    refine (number_any v4 hv4 _).mono ?_
    rintro en wn ⟨rfl, rfl⟩
    obtain ⟨a, ha⟩ : ∃ k, nb v4 = k := ⟨_, rfl⟩
    rw [ha]
    have HA := hidm ha
    have hz4 := hb.keeps (Ne.symm hrz) HZ3.out
    have hc4 := hb.keeps (Ne.symm hrc) HC3.out
    clear c0 c1 c2 c3 c4 c5 c6 c7 cf
    obtain ⟨c0, c1, c2, c3, c4, c5, c6, c7⟩ := cells8 hc4
    have cf := frz hc4 3
    have HB4 := hidm ((HB3.out.trans hb).setNew (p := ⟨w1.heap.size, 3, none⟩) (by show w.heap.size ≤ w1.heap.size; omega) (.int .i64 a))
    have HZ4 := hidm (put_other (c := w1.heap.size) (o := 3) (u := .int .i64 a) hz4 hzc)
    have HC4 := hidm (put_at (o := 3) (u := .int .i64 a) hc4)
    have HR4 := hidm (hr.other (a := ⟨w1.heap.size, 3, none⟩) hrc (.int .i64 a))
    have HW4 := hidm (row_put (c := w1.heap.size) (k := 3) (u := .int .i64 a) (row_but HW3.out HF3.out (by omega) hb) HF3.out (by omega))
    have HP4 := hidm hp4
    have HT4 := hidm ht
    clear hr hb hp4 ht hz4 hc4 HZ3 HC3 HB3 HR3 HW3
    go_wp2_with fail
    refine (rnum_uni r s p4 e4 _ HR4.out HP4.out hs2).mono ?_
    rintro en w5 ⟨v5, p5, e5, rfl, hr, hb, hp5, hv5, ht⟩
    go_wp2_with fail
    refine (number_any v5 hv5 _).mono ?_
    rintro en wn ⟨rfl, rfl⟩
    obtain ⟨z, hz⟩ : ∃ k, nb v5 = k := ⟨_, rfl⟩
    rw [hz]
    have HZZ := hidm hz
    have hz5 := hb.keeps (Ne.symm hrz) HZ4.out
    have hc5 := hb.keeps (Ne.symm hrc) HC4.out
    clear c0 c1 c2 c3 c4 c5 c6 c7 cf
    obtain ⟨c0, c1, c2, c3, c4, c5, c6, c7⟩ := cells8 hc5
    have cf := frz hc5 4
    have HB5 := hidm ((HB4.out.trans hb).setNew (p := ⟨w1.heap.size, 4, none⟩) (by show w.heap.size ≤ w1.heap.size; omega) (.int .i64 z))
    have hz6 := put_other (c := w1.heap.size) (o := 4) (u := .int .i64 z) hz5 hzc
    have HR5 := hidm (hr.other (a := ⟨w1.heap.size, 4, none⟩) hrc (.int .i64 z))
    have HW5 := hidm (row_put (c := w1.heap.size) (k := 4) (u := .int .i64 z) (row_but HW4.out HF3.out (by omega) hb) HF3.out (by omega))
    have HP5 := hidm hp5
    have HT5 := hidm ht
    obtain ⟨z0, z1, z2, z3, z4, z5, z6, z7⟩ := cells8 hz5
    have zf0 := frz hz5 0
    have zf1 := frz hz5 1
    have zf2 := frz hz5 2
    have zf3 := frz hz5 3
    have zf4 := frz hz5 4
    have zf5 := frz hz5 5
    have zf6 := frz hz5 6
    have zf7 := frz hz5 7
    obtain ⟨r0, r1, r2, r3, r4, r5, r6, r7⟩ := cells8 (put8_blk (.int .i64 k) (.string (S l)) (.slice ro vs.length rc) (.int .i64 a) (.int .i64 z) (.string ⟨#[]⟩) (.slice none 0 0) (.int .i64 0) hz6)
    unfold put8 at r0 r1 r2 r3 r4 r5 r6 r7
    have R0 := hidm r0
    have R1 := hidm r1
    have R2 := hidm r2
    have R3 := hidm r3
    have R4 := hidm r4
    have R5 := hidm r5
    have R6 := hidm r6
    have R7 := hidm r7
    clear r0 r1 r2 r3 r4 r5 r6 r7
    have HRF := hidm (put8_rrd (B := w.heap.size) (.int .i64 k) (.string (S l)) (.slice ro vs.length rc) (.int .i64 a) (.int .i64 z) (.string ⟨#[]⟩) (.slice none 0 0) (.int .i64 0) HR5.out hrz)
    have HBF := hidm (put8_but (B := w.heap.size) (.int .i64 k) (.string (S l)) (.slice ro vs.length rc) (.int .i64 a) (.int .i64 z) (.string ⟨#[]⟩) (.slice none 0 0) (.int .i64 0) HB5.out (Nat.le_refl _))
    have HX := hidm (show (⟨⟨k, l, vs, a, z, zT⟩, ro, rc, none, 0⟩ : M).In _ from ⟨HW5.out, ColsAt.nil _⟩)
    have HXF := hidm (show (⟨⟨k, l, vs, a, z, zT⟩, ro, rc, none, 0⟩ : M).From w2.heap.size from fun b hx => by
      rcases hx with ⟨hne, q, hq, rfl⟩ | ⟨hne, _⟩
      · have hq' : ro = some q := hq
        exact HF3.out hne q _ _ (by rw [hq'])
      · exact absurd rfl hne)
    have HXX := hidm (M.In.put8 (c := w.heap.size) (.int .i64 k) (.string (S l)) (.slice ro vs.length rc) (.int .i64 a) (.int .i64 z) (.string ⟨#[]⟩) (.slice none 0 0) (.int .i64 0) HX.out HXF.out (by omega))
    have HSM := hidm (show Small s.size (⟨k, l, vs, a, z, zT⟩ : Ch) from ⟨HL2.out, HV3.out.1, HV3.out.2, Nat.zero_le _, Nat.zero_le _, fun d hd => by cases hd⟩)
    clear hr hb hp5 ht hz5 hc5 hz6 HZ4 HC4 HB4 HR4 HW4 HB5 HR5 HW5 HX ha hz
    go_wp2_with fail
    refine bodyPost_ret (v := .agg #[.int .i64 k, .string (S l), .slice ro vs.length rc, .int .i64 a, .int .i64 z, .string ⟨#[]⟩, .slice none 0 0, .int .i64 0]) (by simp [results, Tryz.results53, go_sem, R0.out, R1.out, R2.out, R3.out, R4.out, R5.out, R6.out, R7.out]) rfl ?_
    refine ⟨⟨⟨k, l, vs, a, z, zT⟩, ro, rc, none, 0⟩, p5, e5, rfl, HXX.out, HXF.out.mono (by omega), HSM.out, HRF.out, HBF.out, HP5.out, fun c X he hd hcb hwf => ?_⟩
    have hop := ch_op hcb
    obtain ⟨hv1, he1, hd1⟩ := HT1.out c.op.toNat (backB c ++ X) he (by rw [hd]; unfold chBy; rw [List.append_assoc]) (by omega)
    have hk3 : k = c.op := by rw [← HK.out, hv1, nb_small _ (by omega)]; omega
    rcases ch_cases hcb with ⟨h12, hrw⟩ | ⟨h3', _⟩
    · obtain ⟨hn, r1, r2, hrr, a0, az, z1, hdf⟩ := row_parts hrw
      have hnl := name_len hn
      have hbk : backB c ++ X = tB c.tb ++ (rB c.row ++ (uB c.a.toNat ++ (uB c.z.toNat ++ X))) := by
        unfold backB; rw [if_neg (by omega)]; simp only [List.append_assoc]
      obtain ⟨hl1, he2, hd2⟩ := HT2.out _ _ he1 (by rw [hd1]; exact hbk) (by omega)
      obtain ⟨hl3, he3, hd3⟩ := HT3.out _ _ he2 hd2 (by omega) (fun v hv => ⟨hrr v hv, hwf.row v hv⟩)
      obtain ⟨hl4, he4, hd4⟩ := HT4.out _ _ he3 hd3 (by omega)
      obtain ⟨hl5, he5, hd5⟩ := HT5.out _ _ he4 hd4 (by omega)
      have ha3 : a = c.a := by rw [← HA.out, hl4, nb_small _ (by omega)]; omega
      have hz3 : z = c.z := by rw [← HZZ.out, hl5, nb_small _ (by omega)]; omega
      refine ⟨?_, he5, hd5⟩
      obtain ⟨co, ct, cr, ca, cz, cd⟩ := c
      simp only at hk3 hl1 hl3 ha3 hz3 hdf
      rw [hk3, hl1, hl3, ha3, hz3, hdf]
    · exact absurd (hk3.trans h3') h3
end Frm
end Go.Proofs.YtopmbhpjdmcabaaGreat
