/- The document's Decode (layer 6). Condition: the bytes are at most 100000. -/
import Derived.Test.YtopmbhpjdmcabaaGreatHe
import Derived.Test.YtopmbhpjdmcabaaGreatHb
import Derived.Test.YtopmbhpjdmcabaaGreatMj
import Derived.Test.YtopmbhpjdmcabaaGreatMan
import Derived.Deep.AppendLies
namespace Go.Proofs.YtopmbhpjdmcabaaGreat
open Go.RowKit
namespace Frm
open Cod Sch Rr
theorem small_lim {n : Nat} {c : Ch} (h : Small n c) (hn : n ≤ 100000) : Lim c.df := ⟨by have := h.nm; omega, fun d hd => by have := h.cn d hd; omega, by have := h.cl; omega⟩
/-- What the document's Decode comes to: the right transaction whose body they are, or ErrForm, and there is none. -/
def RDecX (lb : List UInt8) (w : World) (en : Ending) (w' : World) : Prop := ∃ (x : X) (e : Int), en = .returned (.tuple #[x.agg, .int .i64 e]) ∧ x.In w' ∧ Below w.heap.size w w' ∧ (∀ c ∈ x.l, Small lb.length c.c) ∧
  ((e = 0 ∧ txB x.tx = true ∧ x.tx.wf ∧ bodyT x.tx = lb) ∨ (e = 7 ∧ x = ⟨0, 0, [], none, 0⟩ ∧ ∀ q : Tx, txB q = true → q.wf → bodyT q = lb → False))
set_option maxHeartbeats 8000000 in
set_option maxRecDepth 100000 in
theorem rtdec_any (lb : List UInt8) (hl : lb.length ≤ 100000) (w : World) :
    Calls Tryz.prog 22 #[.string (S lb)] w fun en w' => RDecX lb w en w' := by
  obtain ⟨i0, hi, hz0, hz1, hz2⟩ := info_parts infoM
  have hsz : (S lb).size = lb.length := S_size lb
  have hs : (S lb).size ≤ 100000 := by omega
  have hs2 : (S lb).size ≤ 281474976710656 := by omega
  have HSZ := hidm (show (S lb).size = lb.length ∧ lb.length ≤ 100000 from ⟨hsz, hl⟩)
  have HZ := hidm (heap_alloc_new w (.cells #[.int .i64 0, .int .i64 0, .slice none 0 0] 24))
  have HB := hidm (show Below w.heap.size w (w.alloc (.cells #[.int .i64 0, .int .i64 0, .slice none 0 0] 24)) from (Below.refl _ _).alloc (Nat.le_refl _) _)
  have G0 := hidm (show GX (S lb) (fun _ => True) 0 0 (fun q => uB q.seq.toNat ++ (uB q.tm.toNat ++ (uB q.chs.length ++ q.chs.flatMap chBy))) from fun q _ _ h3 => ⟨trivial, rfl, by rw [List.drop_zero, ← h3]; exact body_form q⟩)
  clear hl hsz
  go_enter Tryz.func22, Tryz.ntmps22
  go_wp2_with fail
  refine (Rr.new_any (S lb) _).mono ?_
  rintro e w0 ⟨r, hrge, rfl, hr, hb⟩
  have hr1 : w.heap.size + 1 ≤ r := by simpa using hrge
  have hzr : w.heap.size ≠ r := by omega
  have hrz : r ≠ w.heap.size := by omega
  have HZ0 := hidm (below_keeps hb HZ.out)
  have HB0 := hidm (HB.out.trans (hb.mono (by simp)))
  have hsz0 : w.heap.size + 1 ≤ w0.heap.size := by have := hb.size; simpa using this
  have HR0 := hidm hr
  clear hrge hr hb HZ HB
  go_wp2_with fail
  refine (rnum_uni r (S lb) 0 0 w0 HR0.out (by omega) hs2).mono ?_
  rintro e w1 ⟨v1, p1, e1, rfl, hr, hb, hp1, hv1, ht⟩
  have G1 := hidm (GX.num (f := fun t => t.seq.toNat) G0.out (fun t h => by have := tx_parts h; omega) ht)
  have HRR := hidm hr
  have HBB := hidm hb
  clear ht hr hb
  go_wp2_with fail
  refine (number_any v1 hv1 _).mono ?_
  rintro en wn ⟨rfl, rfl⟩
  obtain ⟨k1, hk⟩ : ∃ k, nb v1 = k := ⟨_, rfl⟩
  rw [hk]
  have hr := HRR.out
  have hb := HBB.out
  clear HRR HBB
  have HK1 := hidm hk
  have hrl : r < w1.heap.size := hr.lt
  have hrt : r ≠ w1.heap.size := by omega
  have hzt : w.heap.size ≠ w1.heap.size := by omega
  have hbA : Below w1.heap.size w1 (w1.alloc (.cells #[.int .i64 k1, .int .i64 0, .slice none 0 0] 24)) := (Below.refl _ _).alloc (Nat.le_refl _) _
  have hb0 : Below w.heap.size w w1 := But.then HB0.out hb (by omega) HB0.out.size
  have HQ1 := hidm (heap_alloc_new w1 (.cells #[.int .i64 k1, .int .i64 0, .slice none 0 0] 24))
  have HZ1 := hidm (below_keeps hbA (hb.keeps hzr HZ0.out))
  have HB1 := hidm (hb0.trans (hbA.mono hb0.size))
  have HR1 := hidm (hr.past (.cells #[.int .i64 k1, .int .i64 0, .slice none 0 0] 24))
  have HP1 := hidm hp1
  clear hr hb hb0 hbA hp1 hk hv1 G0 HZ0 HB0 HR0
  go_wp2_with fail
  refine (rnum_uni r (S lb) p1 e1 _ HR1.out HP1.out hs2).mono ?_
  rintro e w2 ⟨v2, p2, e2, rfl, hr, hb, hp2, hv2, ht⟩
  have G2 := hidm (GX.num (f := fun t => t.tm.toNat) G1.out (fun t h => by have := tx_parts h; omega) ht)
  have HRR := hidm hr
  have HBB := hidm hb
  clear ht hr hb
  have hq2 := HBB.out.keeps (Ne.symm hrt) HQ1.out
  obtain ⟨y0, y1, y2⟩ := three hq2
  have yf := frz hq2 1
  have hsz2 : w1.heap.size + 1 ≤ w2.heap.size := by have := HBB.out.size; simpa using this
  go_wp2_with fail
  refine (number_any v2 hv2 _).mono ?_
  rintro en wn ⟨rfl, rfl⟩
  obtain ⟨k2, hk⟩ : ∃ k, nb v2 = k := ⟨_, rfl⟩
  rw [hk]
  have hr := HRR.out
  have hb := HBB.out
  clear HRR HBB
  have HK2 := hidm hk
  have HB2 := hidm ((But.then HB1.out hb (by omega) HB1.out.size).setCell (p := ⟨w1.heap.size, 1, none⟩) (by show w.heap.size ≤ w1.heap.size; omega) (.int .i64 k2))
  have HQ2 := hidm (put1 (u := .int .i64 k2) hq2)
  have HZ2 := hidm (put_other (c := w1.heap.size) (o := 1) (u := .int .i64 k2) (hb.keeps hzr HZ1.out) hzt)
  have HR2 := hidm (hr.other (a := ⟨w1.heap.size, 1, none⟩) hrt (.int .i64 k2))
  have HZZ2 := hidm (show w1.heap.size + 1 ≤ (w2.setCell ⟨w1.heap.size, 1, none⟩ (.int .i64 k2)).heap.size from by simp only [World.size_setCell]; exact hsz2)
  have HP2 := hidm hp2
  clear hr hb hp2 hq2 HB1 HQ1 HZ1 HR1 G1 HP1 hk hv2 hsz2
  go_wp2_with fail
  refine (rnum_uni r (S lb) p2 e2 _ HR2.out HP2.out hs2).mono ?_
  rintro e w3 ⟨v3, p3, e3, rfl, hr, hb, hp3, hv3, ht⟩
  have G3 := hidm (GX.num (f := fun t => t.chs.length) G2.out (fun t h => by have := tx_parts h; omega) ht)
  have HRR := hidm hr
  have HBB := hidm hb
  clear ht hr hb
  clear y0 y1 y2 yf
  go_wp2_with fail
  refine (number_any v3 hv3 _).mono ?_
  rintro en wn ⟨rfl, rfl⟩
  obtain ⟨k3, hk⟩ : ∃ k, nb v3 = k := ⟨_, rfl⟩
  rw [hk]
  have hr := HRR.out
  have hb := HBB.out
  clear HRR HBB
  have HK3 := hidm hk
  have HQ3 := hidm (hb.keeps (Ne.symm hrt) HQ2.out)
  have HZ3 := hidm (hb.keeps hzr HZ2.out)
  have HB3 := hidm (But.then HB2.out hb (by omega) HB2.out.size)
  have HR3 := hidm hr
  have HZZ3 := hidm (Nat.le_trans HZZ2.out hb.size)
  have HP3 := hidm hp3
  clear hr hb hp3 HB2 HQ2 HZ2 HR2 HZZ2 G2 HP2 hk hv3
  go_wp2_with fail
  go_loopw [7] (fun ii wr => ∃ (i p : Nat) (e : Int) (l : List M) (so : Option Addr) (sc : Nat), ii = .int .i64 i ∧ i ≤ 101 ∧ Hid (Rrd r (S lb) p e wr ∧ p ≤ (S lb).size) ∧ Hid (Below w.heap.size w wr) ∧ Hid (wr.heap[w1.heap.size]? = some (.cells #[.int .i64 k1, .int .i64 k2, .slice so i sc] 24 (0, 0))) ∧ Hid (wr.heap[w.heap.size]? = some (.cells #[.int .i64 0, .int .i64 0, .slice none 0 0] 24 (0, 0))) ∧ Hid (wr.ownsRow (w1.heap.size + 1) 32 8 (.slice so i sc) i (mflat l)) ∧ Hid (l.length = i ∧ w1.heap.size + 1 ≤ wr.heap.size) ∧ Hid (∀ x ∈ l, El (w1.heap.size + 1) (S lb).size (.slice so i sc) wr x) ∧
    Hid (GX (S lb) (fun q => (k1 = q.seq ∧ k2 = q.tm) ∧ (k3 = (q.chs.length : Int) ∧ l.map M.c = q.chs.take i)) e p (fun q => (q.chs.drop i).flatMap chBy))) (fun ii _ => 101 - (intOf ii).toNat)
  case atStart =>
    refine ⟨0, p3, e3, [], none, 0, rfl, by omega, hidm ⟨HR3.out, HP3.out⟩, HB3, HQ3, HZ3, hidm (World.ownsRow_nil _ _ _ _), hidm ⟨rfl, HZZ3.out⟩, hidm (fun x hx => by cases hx), hidm ?_⟩
    refine GX.mono G3.out (fun q hr hp => ⟨⟨⟨?_, ?_⟩, ?_, by simp⟩, by simp⟩)
    · have h1 := tx_parts hr
      rw [← HK1.out, hp.1.1.2, nb_small _ (by omega)]; omega
    · have h1 := tx_parts hr
      rw [← HK2.out, hp.1.2, nb_small _ (by omega)]; omega
    · have h1 := tx_parts hr
      rw [← HK3.out, hp.2, nb_small _ (by omega)]
  case round =>
    clear HR3 HB3 HQ3 HZ3 HZZ3 G3 HP3
    obtain ⟨i, p, e, l, so, sc, rfl, hin, HR, HB, HQ, HZ, HO, HC, HE, HG⟩ := hrel
    have re := HR.out.1.c2
    by_cases hcond : (i : Int) < k3 ∧ i < 101 ∧ e = 0
    · obtain ⟨f1, h101, he0⟩ := hcond
      subst he0
      have f2 : (i : Int) < 101 := by omega
      have hwz := HC.out.2
      have bd : Below wr.heap.size wr wr.drew := (Below.refl _ _).drew
      have HR0 := hidm (HR.out.1.later bd)
      have HQ0 := hidm (below_keeps bd HQ.out)
      have HZ0 := hidm (below_keeps bd HZ.out)
      have HB0 := hidm (HB.out.trans (bd.mono HB.out.size))
      have HO0 := hidm (Cod.owns_later HO.out bd)
      have HE0 := hidm (fun y hy => (HE.out y hy).later bd)
      obtain ⟨y0, y1, y2⟩ := three HQ.out
      have bz : wr.drew.heap.size = wr.heap.size := rfl
      clear bd
      go_wp2_with fail
      refine wp_region_held_drew (S := fun _ => True) (by kernel_rfl) trivial (fun _ => ?_)
      refine Man.take1 (i := 0) (v := ?_) rfl (by kernel_rfl) (by kernel_rfl) (by kernel_rfl) (fun _ _ _ h => h) (by rfl) ?_ trivial ?_
      rotate_left
      · (intro u hSu; go_simp; (try with_reducible rfl))
      (try simp only [Act.put, List.setIfInBounds_toArray, List.set_cons_zero, List.set_cons_succ])
      refine Man.take1 (i := 2) (v := ?_) rfl (by kernel_rfl) (by kernel_rfl) (by kernel_rfl) (fun _ _ _ h => h) (by rfl) ?_ trivial ?_
      rotate_left
      · (intro u hSu; go_simp; (try with_reducible rfl))
      (try simp only [Act.put, List.setIfInBounds_toArray, List.set_cons_zero, List.set_cons_succ])
      refine Man.two (i := 1) (j := 3) rfl rfl (by kernel_rfl) (fun K hK => ?_) (fun K hK => ?_)
      · go_simp
        refine hK.out _ _ trivial (fun _ => ?_)
        clear hK K
        (try simp only [Act.put, List.setIfInBounds_toArray, List.set_cons_zero, List.set_cons_succ])
        refine Man.one (i := 3) rfl (by kernel_rfl) (fun K hK => ?_)
        go_simp
        go_at_call 53
        refine (rchread_any r (S lb) p 0 _ HR0.out HR.out.2 hs).mono ?_
        rintro e' w4 ⟨x, p4, e4, he4, hin, hfrom, hsm, hr, hb, hp4, ht⟩
        unfold M.agg at he4
        subst he4
        have hq4 := hb.keeps (Ne.symm hrt) HQ0.out
        have HZ4 := hidm (hb.keeps (Ne.symm hrz) HZ0.out)
        have HB4 := hidm (But.then HB0.out hb (by omega) HB0.out.size)
        have HR4 := hidm hr
        have HP4 := hidm hp4
        have HT4 := hidm ht
        have HO4 := hidm (Cod.owns_but HO0.out (by omega) hb)
        have HE4 := hidm (fun y hy => (HE0.out y hy).but (by omega : r < w1.heap.size + 1) hb)
        have hsz4 := hb.size
        simp only [World.size_drew] at hsz4
        have HX4 := hidm (show El (w1.heap.size + 1) (S lb).size (.slice so i sc) w4 x from ⟨hin, hfrom.mono (by simp only [World.size_drew]; omega), hsm, fun g hg hx => by have h1 := (HO0.out.lt g hg).2; have h2 := hfrom g hx; omega⟩)
        have HQ4 := hidm hq4
        obtain ⟨t0, t1, t2⟩ := three hq4
        clear hin hfrom hsm hr hb hp4 ht hq4
        refine hK.out _ _ trivial (fun _ => ?_)
        clear hK K
        (try simp only [Act.put, List.setIfInBounds_toArray, List.set_cons_zero, List.set_cons_succ])
        refine Man.one (i := 4) rfl (by kernel_rfl) (fun K hK => ?_)
        go_simp
        refine hK.out _ _ trivial (fun _ => ?_)
        clear hK K
        (try simp only [Act.put, List.setIfInBounds_toArray, List.set_cons_zero, List.set_cons_succ])
        have hbA : Below w4.heap.size w4 (w4.alloc (.cells #[.int .i64 x.c.op, .string (S x.c.tb), .slice x.ro x.c.row.length x.rc, .int .i64 x.c.a, .int .i64 x.c.z, .string (S x.c.df.nm), .slice x.qo x.c.df.cols.length x.qc, .int .i64 x.c.df.keys] 32)) := (Below.refl _ _).alloc (Nat.le_refl _) _
        refine Man.one (i := 5) rfl (by kernel_rfl) (fun K hK => ?_)
        refine step_append_lies _ rfl _ _ 22 rfl (w1.heap.size + 1) 32 i0 (.agg #[.int .i64 0, .string ⟨#[]⟩, .slice none 0 0, .int .i64 0, .int .i64 0, .string ⟨#[]⟩, .slice none 0 0, .int .i64 0]) 8 112 Tryz.underlying22 hi hz0 hz1 hz2 rfl (by decide) _ i (mflat l) rfl (Cod.owns_later HO4.out hbA) ⟨w4.heap.size, 0, none⟩ 1 1 x.cells ?a1xD rfl ?a2xD ?a3xD (by decide) ?a4xD ?a5xD ?a6xD _ rfl (fun g cap w7 hown hgrow hg hlt7 => ?_)
        case a1xD => first | rfl | (simp; done)
        case a2xD => intro j u hj; exact World.news_of_block (heap_alloc_new w4 (.cells #[.int .i64 x.c.op, .string (S x.c.tb), .slice x.ro x.c.row.length x.rc, .int .i64 x.c.a, .int .i64 x.c.z, .string (S x.c.df.nm), .slice x.qo x.c.df.cols.length x.qc, .int .i64 x.c.df.keys] 32)) j u hj
        case a3xD => intro u hu; simp [M.cells] at hu; rcases hu with rfl | rfl | rfl | rfl | rfl | rfl | rfl | rfl <;> rfl
        case a4xD => unfold maxLen; omega
        case a5xD => omega
        case a6xD => have := HC.out.2; simp only [World.size_alloc]; omega
        have hq7 := grown_keeps (below_keeps hbA HQ4.out) hgrow (fun g hg => by have := (HO4.out.lt g hg).1; omega)
        have hz7 := grown_keeps (below_keeps hbA HZ4.out) hgrow (fun g hg => by have := (HO4.out.lt g hg).1; omega)
        have HR7 := hidm ((Rr.Rrd.grown (HR4.out.past (.cells #[.int .i64 x.c.op, .string (S x.c.tb), .slice x.ro x.c.row.length x.rc, .int .i64 x.c.a, .int .i64 x.c.z, .string (S x.c.df.nm), .slice x.qo x.c.df.cols.length x.qc, .int .i64 x.c.df.keys] 32)) hgrow (fun k hk => by have := (HO4.out.lt k hk).1; omega)).other (a := ⟨w1.heap.size, 2, none⟩) hrt (.slice (some ⟨g, 0, none⟩) (i + 1) cap))
        have HB7 := hidm (((HB4.out.alloc HB4.out.size (.cells #[.int .i64 x.c.op, .string (S x.c.tb), .slice x.ro x.c.row.length x.rc, .int .i64 x.c.a, .int .i64 x.c.z, .string (S x.c.df.nm), .slice x.qo x.c.df.cols.length x.qc, .int .i64 x.c.df.keys] 32)).grown hgrow (by have := HB4.out.size; simp; omega) (fun k hk => by have := (HO4.out.lt k hk).1; omega)).setCell (p := ⟨w1.heap.size, 2, none⟩) (by show w.heap.size ≤ w1.heap.size; omega) (.slice (some ⟨g, 0, none⟩) (i + 1) cap))
        rw [show mflat l ++ x.cells = mflat (l ++ [x]) from (mflat_snoc l x).symm] at hown
        have HO7 := hidm (owns_low (o := 2) (u := .slice (some ⟨g, 0, none⟩) (i + 1) cap) hown (show w1.heap.size < w1.heap.size + 1 by omega))
        have HE7 := hidm (show ∀ y ∈ l ++ [x], El (w1.heap.size + 1) (S lb).size (.slice (some ⟨g, 0, none⟩) (i + 1) cap) (w7.setCell ⟨w1.heap.size, 2, none⟩ (.slice (some ⟨g, 0, none⟩) (i + 1) cap)) y from fun y hy => by
          rcases List.mem_append.1 hy with h | h
          · exact (((HE4.out y h).later hbA).grown hgrow rfl hg).put (by omega)
          · rw [List.mem_singleton] at h
            rw [h]
            exact ((HX4.out.later hbA).grown hgrow rfl hg).put (by omega))
        have HC7 := hidm (show (l ++ [x]).length = i + 1 ∧ w1.heap.size + 1 ≤ (w7.setCell ⟨w1.heap.size, 2, none⟩ (.slice (some ⟨g, 0, none⟩) (i + 1) cap)).heap.size from ⟨by rw [List.length_append, HC.out.1]; rfl, by have := hgrow.size; simp only [World.size_alloc, World.size_setCell] at this ⊢; have := HC.out.2; omega⟩)
        have HQ7 := hidm (put2 (u := .slice (some ⟨g, 0, none⟩) (i + 1) cap) hq7)
        have HZ7 := hidm (put_other (c := w1.heap.size) (o := 2) (u := .slice (some ⟨g, 0, none⟩) (i + 1) cap) hz7 (by omega))
        have HG7 := hidm (show GX (S lb) (fun q => (k1 = q.seq ∧ k2 = q.tm) ∧ (k3 = (q.chs.length : Int) ∧ (l ++ [x]).map M.c = q.chs.take (i + 1))) e4 p4 (fun q => (q.chs.drop (i + 1)).flatMap chBy) from fun q h1 h2 h3 => by
          obtain ⟨⟨g1, g2, g3⟩, g4, g5⟩ := HG.out q h1 h2 h3
          have hil : i < q.chs.length := by omega
          obtain ⟨d1, d2, d3⟩ := HT4.out q.chs[i] ((q.chs.drop (i + 1)).flatMap chBy) g4 (by rw [g5]; show (q.chs.drop i).flatMap chBy = _; rw [List.drop_eq_getElem_cons hil, List.flatMap_cons]) ((tx_parts h1).2.2.2.2.2 _ (List.getElem_mem hil)) (h2 _ (List.getElem_mem hil))
          refine ⟨⟨g1, g2, ?_⟩, d2, d3⟩
          rw [List.map_append, g3, List.take_succ_eq_append_getElem hil]
          simp [d1])
        obtain ⟨u0, u1, u2⟩ := three hq7
        have uf := frz hq7 2
        clear hown hgrow hg hq7 hz7 hbA t0 t1 t2
        refine hK.out _ _ trivial (fun _ => ?_)
        clear hK K
        (try simp only [Act.put, List.setIfInBounds_toArray, List.set_cons_zero, List.set_cons_succ])
        refine Man.take1 (i := 6) (v := ?_) rfl (by kernel_rfl) (by kernel_rfl) (by kernel_rfl) (fun _ _ _ h => h) (by rfl) ?_ trivial ?_
        rotate_left
        · (intro u hSu; go_simp; (try with_reducible rfl))
        (try simp only [Act.put, List.setIfInBounds_toArray, List.set_cons_zero, List.set_cons_succ])
        refine Man.one (i := 7) rfl (by kernel_rfl) (fun K hK => ?_)
        go_simp
        refine hK.out _ _ trivial (fun _ => ?_)
        clear hK K
        (try simp only [Act.put, List.setIfInBounds_toArray, List.set_cons_zero, List.set_cons_succ])
        refine wpAnyH_done (by kernel_rfl) ?_ _
        go_wp2_with fail
        go_roundw
        case rel => exact ⟨i + 1, p4, e4, l ++ [x], some ⟨g, 0, none⟩, cap, by go_num, by omega, hidm ⟨HR7.out, HP4.out⟩, HB7, HQ7, HZ7, HO7, HC7, HE7, HG7⟩
        case measure => simp [intOf]; omega
      · go_simp
        go_at_call 53
        refine (rchread_any r (S lb) p 0 _ HR0.out HR.out.2 hs).mono ?_
        rintro e' w4 ⟨x, p4, e4, he4, hin, hfrom, hsm, hr, hb, hp4, ht⟩
        unfold M.agg at he4
        subst he4
        have hq4 := hb.keeps (Ne.symm hrt) HQ0.out
        have HZ4 := hidm (hb.keeps (Ne.symm hrz) HZ0.out)
        have HB4 := hidm (But.then HB0.out hb (by omega) HB0.out.size)
        have HR4 := hidm hr
        have HP4 := hidm hp4
        have HT4 := hidm ht
        have HO4 := hidm (Cod.owns_but HO0.out (by omega) hb)
        have HE4 := hidm (fun y hy => (HE0.out y hy).but (by omega : r < w1.heap.size + 1) hb)
        have hsz4 := hb.size
        simp only [World.size_drew] at hsz4
        have HX4 := hidm (show El (w1.heap.size + 1) (S lb).size (.slice so i sc) w4 x from ⟨hin, hfrom.mono (by simp only [World.size_drew]; omega), hsm, fun g hg hx => by have h1 := (HO0.out.lt g hg).2; have h2 := hfrom g hx; omega⟩)
        have HQ4 := hidm hq4
        obtain ⟨t0, t1, t2⟩ := three hq4
        clear hin hfrom hsm hr hb hp4 ht hq4
        refine hK.out _ _ trivial (fun _ => ?_)
        clear hK K
        (try simp only [Act.put, List.setIfInBounds_toArray, List.set_cons_zero, List.set_cons_succ])
        refine Man.two (i := 1) (j := 4) rfl rfl (by kernel_rfl) (fun K hK => ?_) (fun K hK => ?_)
        · go_simp
          refine hK.out _ _ trivial (fun _ => ?_)
          clear hK K
          (try simp only [Act.put, List.setIfInBounds_toArray, List.set_cons_zero, List.set_cons_succ])
          refine Man.one (i := 4) rfl (by kernel_rfl) (fun K hK => ?_)
          go_simp
          refine hK.out _ _ trivial (fun _ => ?_)
          clear hK K
          (try simp only [Act.put, List.setIfInBounds_toArray, List.set_cons_zero, List.set_cons_succ])
          have hbA : Below w4.heap.size w4 (w4.alloc (.cells #[.int .i64 x.c.op, .string (S x.c.tb), .slice x.ro x.c.row.length x.rc, .int .i64 x.c.a, .int .i64 x.c.z, .string (S x.c.df.nm), .slice x.qo x.c.df.cols.length x.qc, .int .i64 x.c.df.keys] 32)) := (Below.refl _ _).alloc (Nat.le_refl _) _
          refine Man.one (i := 5) rfl (by kernel_rfl) (fun K hK => ?_)
          refine step_append_lies _ rfl _ _ 22 rfl (w1.heap.size + 1) 32 i0 (.agg #[.int .i64 0, .string ⟨#[]⟩, .slice none 0 0, .int .i64 0, .int .i64 0, .string ⟨#[]⟩, .slice none 0 0, .int .i64 0]) 8 112 Tryz.underlying22 hi hz0 hz1 hz2 rfl (by decide) _ i (mflat l) rfl (Cod.owns_later HO4.out hbA) ⟨w4.heap.size, 0, none⟩ 1 1 x.cells ?a1yD rfl ?a2yD ?a3yD (by decide) ?a4yD ?a5yD ?a6yD _ rfl (fun g cap w7 hown hgrow hg hlt7 => ?_)
          case a1yD => first | rfl | (simp; done)
          case a2yD => intro j u hj; exact World.news_of_block (heap_alloc_new w4 (.cells #[.int .i64 x.c.op, .string (S x.c.tb), .slice x.ro x.c.row.length x.rc, .int .i64 x.c.a, .int .i64 x.c.z, .string (S x.c.df.nm), .slice x.qo x.c.df.cols.length x.qc, .int .i64 x.c.df.keys] 32)) j u hj
          case a3yD => intro u hu; simp [M.cells] at hu; rcases hu with rfl | rfl | rfl | rfl | rfl | rfl | rfl | rfl <;> rfl
          case a4yD => unfold maxLen; omega
          case a5yD => omega
          case a6yD => have := HC.out.2; simp only [World.size_alloc]; omega
          have hq7 := grown_keeps (below_keeps hbA HQ4.out) hgrow (fun g hg => by have := (HO4.out.lt g hg).1; omega)
          have hz7 := grown_keeps (below_keeps hbA HZ4.out) hgrow (fun g hg => by have := (HO4.out.lt g hg).1; omega)
          have HR7 := hidm ((Rr.Rrd.grown (HR4.out.past (.cells #[.int .i64 x.c.op, .string (S x.c.tb), .slice x.ro x.c.row.length x.rc, .int .i64 x.c.a, .int .i64 x.c.z, .string (S x.c.df.nm), .slice x.qo x.c.df.cols.length x.qc, .int .i64 x.c.df.keys] 32)) hgrow (fun k hk => by have := (HO4.out.lt k hk).1; omega)).other (a := ⟨w1.heap.size, 2, none⟩) hrt (.slice (some ⟨g, 0, none⟩) (i + 1) cap))
          have HB7 := hidm (((HB4.out.alloc HB4.out.size (.cells #[.int .i64 x.c.op, .string (S x.c.tb), .slice x.ro x.c.row.length x.rc, .int .i64 x.c.a, .int .i64 x.c.z, .string (S x.c.df.nm), .slice x.qo x.c.df.cols.length x.qc, .int .i64 x.c.df.keys] 32)).grown hgrow (by have := HB4.out.size; simp; omega) (fun k hk => by have := (HO4.out.lt k hk).1; omega)).setCell (p := ⟨w1.heap.size, 2, none⟩) (by show w.heap.size ≤ w1.heap.size; omega) (.slice (some ⟨g, 0, none⟩) (i + 1) cap))
          rw [show mflat l ++ x.cells = mflat (l ++ [x]) from (mflat_snoc l x).symm] at hown
          have HO7 := hidm (owns_low (o := 2) (u := .slice (some ⟨g, 0, none⟩) (i + 1) cap) hown (show w1.heap.size < w1.heap.size + 1 by omega))
          have HE7 := hidm (show ∀ y ∈ l ++ [x], El (w1.heap.size + 1) (S lb).size (.slice (some ⟨g, 0, none⟩) (i + 1) cap) (w7.setCell ⟨w1.heap.size, 2, none⟩ (.slice (some ⟨g, 0, none⟩) (i + 1) cap)) y from fun y hy => by
            rcases List.mem_append.1 hy with h | h
            · exact (((HE4.out y h).later hbA).grown hgrow rfl hg).put (by omega)
            · rw [List.mem_singleton] at h
              rw [h]
              exact ((HX4.out.later hbA).grown hgrow rfl hg).put (by omega))
          have HC7 := hidm (show (l ++ [x]).length = i + 1 ∧ w1.heap.size + 1 ≤ (w7.setCell ⟨w1.heap.size, 2, none⟩ (.slice (some ⟨g, 0, none⟩) (i + 1) cap)).heap.size from ⟨by rw [List.length_append, HC.out.1]; rfl, by have := hgrow.size; simp only [World.size_alloc, World.size_setCell] at this ⊢; have := HC.out.2; omega⟩)
          have HQ7 := hidm (put2 (u := .slice (some ⟨g, 0, none⟩) (i + 1) cap) hq7)
          have HZ7 := hidm (put_other (c := w1.heap.size) (o := 2) (u := .slice (some ⟨g, 0, none⟩) (i + 1) cap) hz7 (by omega))
          have HG7 := hidm (show GX (S lb) (fun q => (k1 = q.seq ∧ k2 = q.tm) ∧ (k3 = (q.chs.length : Int) ∧ (l ++ [x]).map M.c = q.chs.take (i + 1))) e4 p4 (fun q => (q.chs.drop (i + 1)).flatMap chBy) from fun q h1 h2 h3 => by
            obtain ⟨⟨g1, g2, g3⟩, g4, g5⟩ := HG.out q h1 h2 h3
            have hil : i < q.chs.length := by omega
            obtain ⟨d1, d2, d3⟩ := HT4.out q.chs[i] ((q.chs.drop (i + 1)).flatMap chBy) g4 (by rw [g5]; show (q.chs.drop i).flatMap chBy = _; rw [List.drop_eq_getElem_cons hil, List.flatMap_cons]) ((tx_parts h1).2.2.2.2.2 _ (List.getElem_mem hil)) (h2 _ (List.getElem_mem hil))
            refine ⟨⟨g1, g2, ?_⟩, d2, d3⟩
            rw [List.map_append, g3, List.take_succ_eq_append_getElem hil]
            simp [d1])
          obtain ⟨u0, u1, u2⟩ := three hq7
          have uf := frz hq7 2
          clear hown hgrow hg hq7 hz7 hbA t0 t1 t2
          refine hK.out _ _ trivial (fun _ => ?_)
          clear hK K
          (try simp only [Act.put, List.setIfInBounds_toArray, List.set_cons_zero, List.set_cons_succ])
          refine Man.take1 (i := 6) (v := ?_) rfl (by kernel_rfl) (by kernel_rfl) (by kernel_rfl) (fun _ _ _ h => h) (by rfl) ?_ trivial ?_
          rotate_left
          · (intro u hSu; go_simp; (try with_reducible rfl))
          (try simp only [Act.put, List.setIfInBounds_toArray, List.set_cons_zero, List.set_cons_succ])
          refine Man.one (i := 7) rfl (by kernel_rfl) (fun K hK => ?_)
          go_simp
          refine hK.out _ _ trivial (fun _ => ?_)
          clear hK K
          (try simp only [Act.put, List.setIfInBounds_toArray, List.set_cons_zero, List.set_cons_succ])
          refine wpAnyH_done (by kernel_rfl) ?_ _
          go_wp2_with fail
          go_roundw
          case rel => exact ⟨i + 1, p4, e4, l ++ [x], some ⟨g, 0, none⟩, cap, by go_num, by omega, hidm ⟨HR7.out, HP4.out⟩, HB7, HQ7, HZ7, HO7, HC7, HE7, HG7⟩
          case measure => simp [intOf]; omega
        · go_simp
          refine hK.out _ _ trivial (fun _ => ?_)
          clear hK K
          (try simp only [Act.put, List.setIfInBounds_toArray, List.set_cons_zero, List.set_cons_succ])
          refine Man.one (i := 1) rfl (by kernel_rfl) (fun K hK => ?_)
          have ta2 := (three (below_keeps ((Below.refl _ _).alloc (Nat.le_refl _) (.cells #[.int .i64 x.c.op, .string (S x.c.tb), .slice x.ro x.c.row.length x.rc, .int .i64 x.c.a, .int .i64 x.c.z, .string (S x.c.df.nm), .slice x.qo x.c.df.cols.length x.qc, .int .i64 x.c.df.keys] 32) : Below w4.heap.size w4 (w4.alloc (.cells #[.int .i64 x.c.op, .string (S x.c.tb), .slice x.ro x.c.row.length x.rc, .int .i64 x.c.a, .int .i64 x.c.z, .string (S x.c.df.nm), .slice x.qo x.c.df.cols.length x.qc, .int .i64 x.c.df.keys] 32))) HQ4.out)).2.2
          go_simp
          refine hK.out _ _ trivial (fun _ => ?_)
          clear hK K
          (try simp only [Act.put, List.setIfInBounds_toArray, List.set_cons_zero, List.set_cons_succ])
          have hbA : Below w4.heap.size w4 (w4.alloc (.cells #[.int .i64 x.c.op, .string (S x.c.tb), .slice x.ro x.c.row.length x.rc, .int .i64 x.c.a, .int .i64 x.c.z, .string (S x.c.df.nm), .slice x.qo x.c.df.cols.length x.qc, .int .i64 x.c.df.keys] 32)) := (Below.refl _ _).alloc (Nat.le_refl _) _
          refine Man.one (i := 5) rfl (by kernel_rfl) (fun K hK => ?_)
          refine step_append_lies _ rfl _ _ 22 rfl (w1.heap.size + 1) 32 i0 (.agg #[.int .i64 0, .string ⟨#[]⟩, .slice none 0 0, .int .i64 0, .int .i64 0, .string ⟨#[]⟩, .slice none 0 0, .int .i64 0]) 8 112 Tryz.underlying22 hi hz0 hz1 hz2 rfl (by decide) _ i (mflat l) rfl (Cod.owns_later HO4.out hbA) ⟨w4.heap.size, 0, none⟩ 1 1 x.cells ?a1zD rfl ?a2zD ?a3zD (by decide) ?a4zD ?a5zD ?a6zD _ rfl (fun g cap w7 hown hgrow hg hlt7 => ?_)
          case a1zD => first | rfl | (simp; done)
          case a2zD => intro j u hj; exact World.news_of_block (heap_alloc_new w4 (.cells #[.int .i64 x.c.op, .string (S x.c.tb), .slice x.ro x.c.row.length x.rc, .int .i64 x.c.a, .int .i64 x.c.z, .string (S x.c.df.nm), .slice x.qo x.c.df.cols.length x.qc, .int .i64 x.c.df.keys] 32)) j u hj
          case a3zD => intro u hu; simp [M.cells] at hu; rcases hu with rfl | rfl | rfl | rfl | rfl | rfl | rfl | rfl <;> rfl
          case a4zD => unfold maxLen; omega
          case a5zD => omega
          case a6zD => have := HC.out.2; simp only [World.size_alloc]; omega
          have hq7 := grown_keeps (below_keeps hbA HQ4.out) hgrow (fun g hg => by have := (HO4.out.lt g hg).1; omega)
          have hz7 := grown_keeps (below_keeps hbA HZ4.out) hgrow (fun g hg => by have := (HO4.out.lt g hg).1; omega)
          have HR7 := hidm ((Rr.Rrd.grown (HR4.out.past (.cells #[.int .i64 x.c.op, .string (S x.c.tb), .slice x.ro x.c.row.length x.rc, .int .i64 x.c.a, .int .i64 x.c.z, .string (S x.c.df.nm), .slice x.qo x.c.df.cols.length x.qc, .int .i64 x.c.df.keys] 32)) hgrow (fun k hk => by have := (HO4.out.lt k hk).1; omega)).other (a := ⟨w1.heap.size, 2, none⟩) hrt (.slice (some ⟨g, 0, none⟩) (i + 1) cap))
          have HB7 := hidm (((HB4.out.alloc HB4.out.size (.cells #[.int .i64 x.c.op, .string (S x.c.tb), .slice x.ro x.c.row.length x.rc, .int .i64 x.c.a, .int .i64 x.c.z, .string (S x.c.df.nm), .slice x.qo x.c.df.cols.length x.qc, .int .i64 x.c.df.keys] 32)).grown hgrow (by have := HB4.out.size; simp; omega) (fun k hk => by have := (HO4.out.lt k hk).1; omega)).setCell (p := ⟨w1.heap.size, 2, none⟩) (by show w.heap.size ≤ w1.heap.size; omega) (.slice (some ⟨g, 0, none⟩) (i + 1) cap))
          rw [show mflat l ++ x.cells = mflat (l ++ [x]) from (mflat_snoc l x).symm] at hown
          have HO7 := hidm (owns_low (o := 2) (u := .slice (some ⟨g, 0, none⟩) (i + 1) cap) hown (show w1.heap.size < w1.heap.size + 1 by omega))
          have HE7 := hidm (show ∀ y ∈ l ++ [x], El (w1.heap.size + 1) (S lb).size (.slice (some ⟨g, 0, none⟩) (i + 1) cap) (w7.setCell ⟨w1.heap.size, 2, none⟩ (.slice (some ⟨g, 0, none⟩) (i + 1) cap)) y from fun y hy => by
            rcases List.mem_append.1 hy with h | h
            · exact (((HE4.out y h).later hbA).grown hgrow rfl hg).put (by omega)
            · rw [List.mem_singleton] at h
              rw [h]
              exact ((HX4.out.later hbA).grown hgrow rfl hg).put (by omega))
          have HC7 := hidm (show (l ++ [x]).length = i + 1 ∧ w1.heap.size + 1 ≤ (w7.setCell ⟨w1.heap.size, 2, none⟩ (.slice (some ⟨g, 0, none⟩) (i + 1) cap)).heap.size from ⟨by rw [List.length_append, HC.out.1]; rfl, by have := hgrow.size; simp only [World.size_alloc, World.size_setCell] at this ⊢; have := HC.out.2; omega⟩)
          have HQ7 := hidm (put2 (u := .slice (some ⟨g, 0, none⟩) (i + 1) cap) hq7)
          have HZ7 := hidm (put_other (c := w1.heap.size) (o := 2) (u := .slice (some ⟨g, 0, none⟩) (i + 1) cap) hz7 (by omega))
          have HG7 := hidm (show GX (S lb) (fun q => (k1 = q.seq ∧ k2 = q.tm) ∧ (k3 = (q.chs.length : Int) ∧ (l ++ [x]).map M.c = q.chs.take (i + 1))) e4 p4 (fun q => (q.chs.drop (i + 1)).flatMap chBy) from fun q h1 h2 h3 => by
            obtain ⟨⟨g1, g2, g3⟩, g4, g5⟩ := HG.out q h1 h2 h3
            have hil : i < q.chs.length := by omega
            obtain ⟨d1, d2, d3⟩ := HT4.out q.chs[i] ((q.chs.drop (i + 1)).flatMap chBy) g4 (by rw [g5]; show (q.chs.drop i).flatMap chBy = _; rw [List.drop_eq_getElem_cons hil, List.flatMap_cons]) ((tx_parts h1).2.2.2.2.2 _ (List.getElem_mem hil)) (h2 _ (List.getElem_mem hil))
            refine ⟨⟨g1, g2, ?_⟩, d2, d3⟩
            rw [List.map_append, g3, List.take_succ_eq_append_getElem hil]
            simp [d1])
          obtain ⟨u0, u1, u2⟩ := three hq7
          have uf := frz hq7 2
          clear hown hgrow hg hq7 hz7 hbA t0 t1 t2
          refine hK.out _ _ trivial (fun _ => ?_)
          clear hK K
          (try simp only [Act.put, List.setIfInBounds_toArray, List.set_cons_zero, List.set_cons_succ])
          refine Man.take1 (i := 6) (v := ?_) rfl (by kernel_rfl) (by kernel_rfl) (by kernel_rfl) (fun _ _ _ h => h) (by rfl) ?_ trivial ?_
          rotate_left
          · (intro u hSu; go_simp; (try with_reducible rfl))
          (try simp only [Act.put, List.setIfInBounds_toArray, List.set_cons_zero, List.set_cons_succ])
          refine Man.one (i := 7) rfl (by kernel_rfl) (fun K hK => ?_)
          go_simp
          refine hK.out _ _ trivial (fun _ => ?_)
          clear hK K
          (try simp only [Act.put, List.setIfInBounds_toArray, List.set_cons_zero, List.set_cons_succ])
          refine wpAnyH_done (by kernel_rfl) ?_ _
          go_wp2_with fail
          go_roundw
          case rel => exact ⟨i + 1, p4, e4, l ++ [x], some ⟨g, 0, none⟩, cap, by go_num, by omega, hidm ⟨HR7.out, HP4.out⟩, HB7, HQ7, HZ7, HO7, HC7, HE7, HG7⟩
          case measure => simp [intOf]; omega
    · have HEX := hidm (show ∀ q : Tx, txB q = true → q.wf → bodyT q = lb → (⟨k1, k2, l.map M.c⟩ : Tx) = q from fun q h1 h2 h3 => by
        obtain ⟨⟨⟨g1, g2⟩, g3, g4⟩, g5, _⟩ := HG.out q h1 h2 h3
        have hq100 := (tx_parts h1).2.2.2.2.1
        have hln := congrArg List.length g4
        rw [List.length_map, List.length_take, HC.out.1] at hln
        have hiq : q.chs.length ≤ i := by
          rcases Nat.lt_or_ge i q.chs.length with h | h
          · exact absurd ⟨by omega, by omega, g5⟩ hcond
          · exact h
        obtain ⟨qs, qt, qc⟩ := q
        simp only at g1 g2 g4 hiq
        rw [List.take_of_length_le hiq] at g4
        rw [g1, g2, g4])
      have fsp : (¬ (i : Int) < k3) ∨ ((i : Int) < k3 ∧ ¬ (i : Int) < 101) ∨ ((i : Int) < k3 ∧ (i : Int) < 101 ∧ (e == 0) = false) := by
        by_cases c1 : (i : Int) < k3
        · by_cases c2 : (i : Int) < 101
          · exact .inr (.inr ⟨c1, c2, by
              have : e ≠ 0 := fun he => hcond ⟨c1, by omega, he⟩
              simpa using this⟩)
          · exact .inr (.inl ⟨c1, c2⟩)
        · exact .inl c1
      obtain rfl : i = l.length := HC.out.1.symm
      have HXI := hidm (show (⟨k1, k2, l, so, sc⟩ : X).In wr from MsAt.of_owns (base := w1.heap.size + 1) HO.out (fun y hy => (HE.out y hy).i))
      have HWF := hidm (show (⟨k1, k2, l, so, sc⟩ : X).tx.wf from fun c hc => by
        obtain ⟨m, hm, rfl⟩ := List.mem_map.1 hc
        exact ((HE.out m hm).s).wf (by omega))
      have HSML := hidm (show ∀ c ∈ l, Small lb.length c.c from fun c hc => by have := (HE.out c hc).s; rw [HSZ.out.1] at this; exact this)
      clear hcond HG HC HR
      rcases fsp with f1 | ⟨f1, f2⟩ | ⟨f1, f2, f3⟩
      all_goals
        rcases Decidable.em (lb = []) with h0 | h0
        · have HNO := hidm (show ∀ q : Tx, txB q = true → q.wf → bodyT q = lb → False from fun q _ _ h3 => bodyT_ne q (h3.trans h0))
          have f5 : (lb == []) = true := by simpa using h0
          have HZ5 := HZ
          have HB5 := HB
          clear h0
          obtain ⟨z0, z1, z2⟩ := three HZ5.out
          have zf0 := frz HZ5.out 0
          have zf1 := frz HZ5.out 1
          have zf2 := frz HZ5.out 2
          obtain ⟨r0, r1, r2⟩ := three (put2 (u := .slice none 0 0) (put1 (u := .int .i64 0) (put0 (u := .int .i64 0) HZ5.out)))
          have R0 := hidm r0
          have R1 := hidm r1
          have R2 := hidm r2
          have HBF := hidm (((HB5.out.setCell (p := ⟨w.heap.size, 0, none⟩) (Nat.le_refl _) (.int .i64 0)).setCell (p := ⟨w.heap.size, 1, none⟩) (Nat.le_refl _) (.int .i64 0)).setCell (p := ⟨w.heap.size, 2, none⟩) (Nat.le_refl _) (.slice none 0 0))
          clear r0 r1 r2
          go_wp2_with fail
          refine bodyPost_ret (v := .tuple #[.agg #[.int .i64 0, .int .i64 0, .slice none 0 0], .int .i64 7]) (by simp [results, Tryz.results22, go_sem, R0.out, R1.out, R2.out]) rfl ?_
          exact ⟨⟨0, 0, [], none, 0⟩, 7, rfl, MsAt.nil _, HBF.out, (fun c hc => by cases hc), .inr ⟨rfl, rfl, HNO.out⟩⟩
        · have f5 : (lb == []) = false := by simpa using h0
          obtain ⟨A, hA⟩ : ∃ A, bodyR (⟨k1, k2, l, so, sc⟩ : X).tx = A := ⟨_, rfl⟩
          have RB := rbody_is (x := ⟨k1, k2, l, so, sc⟩) hA (fun c hc => ((HE.out c hc).s).lim (by omega)) (fun c hc => small_lim (HE.out c hc).s (by omega)) (fun c hc v hv => (((HE.out c hc).s).row v hv).2.b) (fun _ => HWF.out) wr HXI.out
          have RBB := hidm RB
          clear RB
          obtain ⟨y0, y1, y2⟩ := three HQ.out
          go_wp2_with fail
          refine RBB.out.mono ?_
          rintro e' w5 ⟨rfl, hb⟩
          have HZ5 := hidm (below_keeps hb HZ.out)
          have HQ5 := hidm (below_keeps hb HQ.out)
          have HB5 := hidm (HB.out.trans (hb.mono HB.out.size))
          have HO5 := hidm (Cod.owns_later HO.out hb)
          have HE5 := hidm (fun y hy => (HE.out y hy).later hb)
          clear hb y0 y1 y2 RBB
          rcases Decidable.em (A = lb) with hal | hal
          · have HYS := hidm (show txB (⟨k1, k2, l, so, sc⟩ : X).tx = true ∧ bodyT (⟨k1, k2, l, so, sc⟩ : X).tx = lb from by
              have hne : bodyR (⟨k1, k2, l, so, sc⟩ : X).tx ≠ [] := by rw [hA, hal]; exact h0
              obtain ⟨b1, _, b3⟩ := bodyR_ok hne
              exact ⟨b1, by rw [← b3, hA, hal]⟩)
            have f6 : (A == lb) = true := by simpa using hal
            have f7 : (A != lb) = false := by simpa using hal
            clear hA hal h0
            obtain ⟨z0, z1, z2⟩ := three HZ5.out
            have zf0 := frz HZ5.out 0
            have zf1 := frz HZ5.out 1
            have zf2 := frz HZ5.out 2
            obtain ⟨t0, t1, t2⟩ := three HQ5.out
            obtain ⟨r0, r1, r2⟩ := three (put2 (u := .slice so l.length sc) (put1 (u := .int .i64 k2) (put0 (u := .int .i64 k1) HZ5.out)))
            have R0 := hidm r0
            have R1 := hidm r1
            have R2 := hidm r2
            have HBF := hidm (((HB5.out.setCell (p := ⟨w.heap.size, 0, none⟩) (Nat.le_refl _) (.int .i64 k1)).setCell (p := ⟨w.heap.size, 1, none⟩) (Nat.le_refl _) (.int .i64 k2)).setCell (p := ⟨w.heap.size, 2, none⟩) (Nat.le_refl _) (.slice so l.length sc))
            have HO6 := hidm (owns_low (o := 2) (u := .slice so l.length sc) (owns_low (o := 1) (u := .int .i64 k2) (owns_low (o := 0) (u := .int .i64 k1) HO5.out (show w.heap.size < w1.heap.size + 1 by omega)) (show w.heap.size < w1.heap.size + 1 by omega)) (show w.heap.size < w1.heap.size + 1 by omega))
            have HE6 := hidm (fun y hy => (((HE5.out y hy).put (k := 0) (u := .int .i64 k1) (show w.heap.size < w1.heap.size + 1 by omega)).put (k := 1) (u := .int .i64 k2) (show w.heap.size < w1.heap.size + 1 by omega)).put (k := 2) (u := .slice so l.length sc) (show w.heap.size < w1.heap.size + 1 by omega))
            clear r0 r1 r2
            go_wp2_with fail
            refine bodyPost_ret (v := .tuple #[.agg #[.int .i64 k1, .int .i64 k2, .slice so l.length sc], .int .i64 0]) (by simp [results, Tryz.results22, go_sem, R0.out, R1.out, R2.out]) rfl ?_
            exact ⟨⟨k1, k2, l, so, sc⟩, 0, rfl, MsAt.of_owns (base := w1.heap.size + 1) HO6.out (fun y hy => (HE6.out y hy).i), HBF.out, HSML.out, .inl ⟨rfl, HYS.out.1, HWF.out, HYS.out.2⟩⟩
          · have HNO := hidm (show ∀ q : Tx, txB q = true → q.wf → bodyT q = lb → False from fun q h1 h2 h3 => by
              have h4 := HEX.out q h1 h2 h3
              have h5 : bodyR (⟨k1, k2, l, so, sc⟩ : X).tx = lb := by
                show bodyR (⟨k1, k2, l.map M.c⟩ : Tx) = lb
                rw [h4]; unfold bodyR; rw [if_pos h1, if_pos (by rw [h3]; have := HSZ.out; omega), h3]
              exact hal (hA.symm.trans h5))
            have f6 : (A == lb) = false := by simpa using hal
            have f7 : (A != lb) = true := by simpa using hal
            clear hA hal h0
            obtain ⟨z0, z1, z2⟩ := three HZ5.out
            have zf0 := frz HZ5.out 0
            have zf1 := frz HZ5.out 1
            have zf2 := frz HZ5.out 2
            obtain ⟨r0, r1, r2⟩ := three (put2 (u := .slice none 0 0) (put1 (u := .int .i64 0) (put0 (u := .int .i64 0) HZ5.out)))
            have R0 := hidm r0
            have R1 := hidm r1
            have R2 := hidm r2
            have HBF := hidm (((HB5.out.setCell (p := ⟨w.heap.size, 0, none⟩) (Nat.le_refl _) (.int .i64 0)).setCell (p := ⟨w.heap.size, 1, none⟩) (Nat.le_refl _) (.int .i64 0)).setCell (p := ⟨w.heap.size, 2, none⟩) (Nat.le_refl _) (.slice none 0 0))
            clear r0 r1 r2
            go_wp2_with fail
            refine bodyPost_ret (v := .tuple #[.agg #[.int .i64 0, .int .i64 0, .slice none 0 0], .int .i64 7]) (by simp [results, Tryz.results22, go_sem, R0.out, R1.out, R2.out]) rfl ?_
            exact ⟨⟨0, 0, [], none, 0⟩, 7, rfl, MsAt.nil _, HBF.out, (fun c hc => by cases hc), .inr ⟨rfl, rfl, HNO.out⟩⟩
end Frm
end Go.Proofs.YtopmbhpjdmcabaaGreat
