/- The document's small, Read (layer 5). Condition: the bytes are at most 2^48. -/
import Derived.Test.YtopmbhpjdmcabaaGreatMh
import Derived.Test.YtopmbhpjdmcabaaGreatJs
namespace Go.Proofs.YtopmbhpjdmcabaaGreat
open Go.RowKit
namespace Sch
open Cod Rr
def smallB (v : Nat) : Nat := if 1000 < v then 1000 else v
theorem small_any (v : Nat) (hv : v < 18446744073709551616) (w : World) :
    Calls Tryz.prog 125 #[.int .u64 v] w fun e w' => e = .returned (.int .i64 (smallB v : Nat)) ∧ w = w' := by
  rcases Nat.lt_or_ge 1000 v with h | h
  · have e : smallB v = 1000 := if_pos h
    rw [e]
    have h1 : (1000 : Int) < v := by omega
    clear e
    go_enter Tryz.func125, Tryz.ntmps125
    go_wp2_with fail
    go_ret
    exact ⟨rfl, rfl⟩
  · have e : smallB v = v := if_neg (by omega)
    rw [e]
    have h1 : ¬ (1000 : Int) < v := by omega
    have hw : wrap64 (v : Int) = v := by unfold wrap64; omega
    have hw2 : IntKind.i64.wrap (v : Int) = v := by rw [wrap_is]; exact hw
    clear e
    go_enter Tryz.func125, Tryz.ntmps125
    go_wp2_with fail
    go_ret
    exact ⟨rfl, rfl⟩
theorem small_le (v : Nat) : smallB v ≤ 1000 := by unfold smallB; split <;> omega
theorem small_id {v : Nat} (h : v ≤ 1000) : smallB v = v := if_neg (by omega)
theorem Rrd.grown {r : Nat} {s : ByteArray} {q e : Int} {w w' : World} {row : Option Nat} (h : Rrd r s q e w) (hg : w.grownBy w' row) (hr : ∀ k, row = some k → r ≠ k) : Rrd r s q e w' := by
  unfold Rrd; rw [hg.block r h.lt (fun e => hr r e.symm rfl)]; exact h
theorem rcols_step {t : T} {cs : List C} {i v5 v6 : Nat} {l4 : List UInt8} {dd : Bool} (ht : rightB t = true) (hi : i < t.cols.length) (hc : cs = t.cols.take i) (h1 : l4 = (cAt t i).nm) (h2 : v5 = (cAt t i).k.toNat) (h3 : v6 = bitB (cAt t i))
    (h5 : ((v6 : Int) == 1) = dd) : cs ++ [(⟨l4, (smallB v5 : Nat), dd⟩ : C)] = t.cols.take (i + 1) := by
  have h2' := h2
  rw [cAt_at hi] at h2'
  obtain ⟨_, g1, g2⟩ := col_parts (right_mem ht (List.getElem_mem hi))
  have e : smallB v5 = v5 := small_id (by omega)
  rw [e]
  exact cols_step ht hi hc h1 h2 h3 (by rw [IntKind.wrap_i64]; omega) h5
set_option maxHeartbeats 8000000 in
set_option maxRecDepth 100000 in
theorem rread_any (r : Nat) (s : ByteArray) (hs : s.size ≤ 281474976710656) (w : World) (hr : Rrd r s 0 0 w) :
    Calls Tryz.prog 104 #[.pointer (some ⟨r, 0, none⟩)] w fun en w' => ReadP 1000 r s w en w' := by
  obtain ⟨i0, hi, hz0, hz1, hz2⟩ := info_parts infoC
  have hlt := hr.lt
  have hrz : r ≠ w.heap.size := by omega
  have HR := hidm (hr.past (.cells #[.string ⟨#[]⟩, .slice none 0 0, .int .i64 0] 30))
  have HZ := hidm (heap_alloc_new w (.cells #[.string ⟨#[]⟩, .slice none 0 0, .int .i64 0] 30))
  have HB := hidm ((But.refl r w).alloc (.cells #[.string ⟨#[]⟩, .slice none 0 0, .int .i64 0] 30))
  have G0 := hidm (GG.start s)
  clear hr
  go_enter Tryz.func104, Tryz.ntmps104
  go_wp2_with fail
  refine (rtext_uni r s 0 0 _ HR.out (by omega) hs).mono ?_
  rintro e w1 ⟨l, p1, e1, rfl, hr, hb, hp1, hl, ht⟩
  have hs1 : w.heap.size + 1 ≤ w1.heap.size := by have := hb.size; simpa using this
  have hrq : r ≠ w1.heap.size := by omega
  have HQ1 := hidm (heap_alloc_new w1 (.cells #[.string (S l), .slice none 0 0, .int .i64 0] 30))
  have hbA : Below w1.heap.size w1 (w1.alloc (.cells #[.string (S l), .slice none 0 0, .int .i64 0] 30)) := (Below.refl _ _).alloc (Nat.le_refl _) _
  have HB1 := hidm ((HB.out.trans hb).alloc (.cells #[.string (S l), .slice none 0 0, .int .i64 0] 30))
  have HZ1 := hidm (below_keeps hbA (hb.keeps (Ne.symm hrz) HZ.out))
  have HR1 := hidm (hr.past (.cells #[.string (S l), .slice none 0 0, .int .i64 0] 30))
  have G1 := hidm (GG.text G0.out (fun t h => by have := name_len (head_parts (right_head h)).1; omega) ht)
  have HP1 := hidm hp1
  have HL := hidm hl
  clear hr hb hp1 hl ht HB HZ HR G0 hbA
  go_wp2_with fail
  refine (rnum_uni r s p1 e1 _ HR1.out HP1.out hs).mono ?_
  rintro e w2 ⟨v2, p2, e2, rfl, hr, hb, hp2, hv2, ht⟩
  go_wp2_with fail
  refine (small_any v2 hv2 _).mono ?_
  rintro e w2b ⟨rfl, rfl⟩
  have hq2 := hb.keeps (Ne.symm hrq) HQ1.out
  obtain ⟨y0, y1, y2⟩ := three hq2
  have yf := frz hq2 2
  obtain ⟨kk, hkk⟩ : ∃ k : Int, k = (smallB v2 : Nat) := ⟨_, rfl⟩
  rw [← hkk]
  have HKK := hidm hkk
  have hs2 : w1.heap.size + 1 ≤ w2.heap.size := by have := hb.size; simpa using this
  have HB2 := hidm ((HB1.out.trans hb).setNew (p := ⟨w1.heap.size, 2, none⟩) (by simp; omega) (.int .i64 kk))
  have HQ2 := hidm (put2 (u := .int .i64 kk) hq2)
  have HZ2 := hidm (put_other (c := w1.heap.size) (o := 2) (u := .int .i64 kk) (hb.keeps (Ne.symm hrz) HZ1.out) (by omega))
  have HR2 := hidm (hr.other (a := ⟨w1.heap.size, 2, none⟩) hrq (.int .i64 kk))
  have HZZ2 := hidm (show w1.heap.size + 1 ≤ (w2.setCell ⟨w1.heap.size, 2, none⟩ (.int .i64 kk)).heap.size from by simpa using hs2)
  have G2 := hidm (GG.num (f := fun t => t.keys.toNat) G1.out (fun t h => by have := (head_parts (right_head h)).2.2.2.1; omega) ht)
  have HP2 := hidm hp2
  clear hr hb hp2 hv2 ht hq2 HB1 HQ1 HZ1 HR1 G1 HP1 hkk hs2
  go_wp2_with fail
  refine (rnum_uni r s p2 e2 _ HR2.out HP2.out hs).mono ?_
  rintro e w3 ⟨v3, p3, e3, rfl, hr, hb, hp3, hv3, ht⟩
  clear y0 y1 y2 yf
  go_wp2_with fail
  refine (small_any v3 hv3 _).mono ?_
  rintro e w3b ⟨rfl, rfl⟩
  obtain ⟨n, hn⟩ : ∃ n, n = smallB v3 := ⟨_, rfl⟩
  rw [← hn]
  have hn1 : n ≤ 1000 := by rw [hn]; exact small_le v3
  have HNN := hidm hn
  have HQ3 := hidm (hb.keeps (Ne.symm hrq) HQ2.out)
  have HZ3 := hidm (hb.keeps (Ne.symm hrz) HZ2.out)
  have HB3 := hidm (HB2.out.trans hb)
  have HR3 := hidm hr
  have HZZ3 := hidm (Nat.le_trans HZZ2.out hb.size)
  have G3 := hidm (GG.num (f := fun t => t.cols.length) G2.out (fun t h => by have := (head_parts (right_head h)).2.1; omega) ht)
  have HP3 := hidm hp3
  clear hr hb hp3 hv3 ht HB2 HQ2 HZ2 HR2 HZZ2 G2 HP2 hn
  go_wp2_with fail
  go_loopw [5] (fun ii wr => ∃ (i p : Nat) (e : Int) (cs : List C) (sl : Value), ii = .int .i64 i ∧ i ≤ n ∧ Hid (Rrd r s p e wr ∧ p ≤ s.size) ∧ Hid (But r w wr) ∧ Hid (wr.heap[w1.heap.size]? = some (.cells #[.string (S l), sl, .int .i64 kk] 30 (0, 0))) ∧ Hid (wr.heap[w.heap.size]? = some (.cells #[.string ⟨#[]⟩, .slice none 0 0, .int .i64 0] 30 (0, 0))) ∧ Hid (wr.ownsRow (w1.heap.size + 1) 81 3 sl i (cflat cs)) ∧ Hid (cs.length = i ∧ (∀ c ∈ cs, c.nm.length ≤ s.size) ∧ w1.heap.size + 1 ≤ wr.heap.size) ∧
    Hid (GG s (fun t => (l = t.nm ∧ kk = t.keys) ∧ (n = t.cols.length ∧ cs = t.cols.take i)) e p (fun t => (t.cols.drop i).flatMap colB))) (fun ii _ => n - (intOf ii).toNat)
  case atStart =>
    refine ⟨0, p3, e3, [], .slice none 0 0, rfl, by omega, hidm ⟨HR3.out, HP3.out⟩, HB3, HQ3, HZ3, hidm (World.ownsRow_nil _ _ _ _), hidm ⟨rfl, by simp, HZZ3.out⟩, hidm ?_⟩
    refine GG.mono G3.out (fun t hr hp => ⟨⟨⟨hp.1.1.2, ?_⟩, ?_, by simp⟩, by simp⟩)
    · have h1 := (head_parts (right_head hr)).2.2
      rw [HKK.out, hp.1.2, small_id (by omega)]; omega
    · have h1 := (head_parts (right_head hr)).2.1
      rw [HNN.out, hp.2, small_id (by omega)]
  case round =>
    clear HR3 HB3 HQ3 HZ3 HZZ3 G3 HP3
    obtain ⟨i, p, e, cs, sl, rfl, hin, HR, HB, HQ, HZ, HO, HC, HG⟩ := hrel
    have k2 := HR.out.1.c2
    rcases Nat.lt_or_ge i n with hlt2 | hge
    · have f1 : (i : Int) < n := by omega
      by_cases he : e = 0
      · subst he
        have hwz := HC.out.2.2
        go_wp2_with fail
        refine (rtext_uni r s p 0 _ HR.out.1 HR.out.2 hs).mono ?_
        rintro e' w4 ⟨l4, p4, e4, rfl, hr, hb, hp4, hl4, ht⟩
        have hs4 := hb.size
        have hrc : r ≠ w4.heap.size := by omega
        have HB4 := hidm (hb.alloc (.cells #[.string (S l4), .int .i64 0, .bool false] 81))
        have HK4 := hidm (heap_alloc_new w4 (.cells #[.string (S l4), .int .i64 0, .bool false] 81))
        have HR4 := hidm (hr.past (.cells #[.string (S l4), .int .i64 0, .bool false] 81))
        have HP4 := hidm hp4
        have HL4 := hidm hl4
        have HT4 := hidm ht
        clear hr hb hp4 hl4 ht k2
        go_wp2_with fail
        refine (rnum_uni r s p4 e4 _ HR4.out HP4.out hs).mono ?_
        rintro e' w5 ⟨v5, p5, e5, rfl, hr, hb, hp5, hv5, ht⟩
        go_wp2_with fail
        refine (small_any v5 hv5 _).mono ?_
        rintro e' w5b ⟨rfl, rfl⟩
        have hk5 := hb.keeps (Ne.symm hrc) HK4.out
        obtain ⟨x0, x1, x2⟩ := three hk5
        have xf := frz hk5 1
        have HB5 := hidm ((HB4.out.trans hb).setNew (p := ⟨w4.heap.size, 1, none⟩) hs4 (.int .i64 (smallB v5 : Nat)))
        have HK5 := hidm (put1 (u := .int .i64 (smallB v5 : Nat)) hk5)
        have HR5 := hidm (hr.other (a := ⟨w4.heap.size, 1, none⟩) hrc (.int .i64 (smallB v5 : Nat)))
        have HP5 := hidm hp5
        have HT5 := hidm ht
        clear hr hb hp5 hv5 ht hk5 HB4 HK4 HR4
        go_wp2_with fail
        refine (rnum_uni r s p5 e5 _ HR5.out HP5.out hs).mono ?_
        rintro e' w6 ⟨v6, p6, e6, rfl, hr, hb, hp6, hv6, ht⟩
        clear x0 x1 x2 xf
        have hk6 := hb.keeps (Ne.symm hrc) HK5.out
        obtain ⟨x0, x1, x2⟩ := three hk6
        have xf := frz hk6 2
        obtain ⟨dd, hdd⟩ : ∃ d, ((v6 : Int) == 1) = d := ⟨_, rfl⟩
        have HDD := hidm hdd
        have HB6 := hidm ((HB5.out.trans hb).setNew (p := ⟨w4.heap.size, 2, none⟩) hs4 (.bool dd))
        have HK6 := hidm (put2 (u := .bool dd) hk6)
        have HR6 := hidm (hr.other (a := ⟨w4.heap.size, 2, none⟩) hrc (.bool dd))
        have HP6 := hidm hp6
        have HT6 := hidm ht
        clear hr hb hp6 hv6 ht hk6 HB5 HK5 HR5
        have hq6 := HB6.out.keeps (Ne.symm hrq) HQ.out
        obtain ⟨y0, y1, y2⟩ := three hq6
        have yf := frz hq6 1
        have hown := owns_but HO.out (by omega) HB6.out
        have hlt6 := hown.lt
        have HQ6 := hidm hq6
        have HZ6 := hidm (HB6.out.keeps (Ne.symm hrz) HZ.out)
        have hs6 : w4.heap.size < w6.heap.size := by have h := lt_of_block HK6.out; simpa using h
        clear hq6
        obtain ⟨so, sc, hsl⟩ : ∃ so sc, sl = .slice so i sc := by
          rcases HO.out.2 with ⟨hv, h0⟩ | ⟨g, cap, cur, hv, _⟩
          · exact ⟨none, 0, by rw [hv, h0]⟩
          · exact ⟨_, _, hv⟩
        subst hsl
        go_wp2_with (at_builtin; refine wpList_append_own _ rfl _ _ 28 rfl (w1.heap.size + 1) 81 i0 (.agg #[.string ⟨#[]⟩, .int .i64 0, .bool false]) 3 32 Tryz.underlying28 hi hz0 hz1 hz2 rfl (by decide) _ _ _ rfl (hown.alloc _) ⟨w6.heap.size, 0, none⟩ 1 1 [.string (S l4), .int .i64 (smallB v5 : Nat), .bool dd] rfl rfl ?CA ?CB ?CC ?CD ?CE ?_)
        case CA =>
          intro j y hj
          rcases cell_thr _ _ _ j y hj with ⟨rfl, rfl⟩ | ⟨rfl, rfl⟩ | ⟨rfl, rfl⟩ <;> simp [Addr.add, go_sem]
        case CB => intro y hy; simp at hy; rcases hy with rfl | rfl | rfl <;> rfl
        case CC => unfold maxLen; omega
        case CD => omega
        case CE => simp; omega
        intro v' w7 hown' hgrow _
        have hfl : cflat cs ++ [.string (S l4), .int .i64 (smallB v5 : Nat), .bool dd] = cflat (cs ++ [⟨l4, (smallB v5 : Nat), dd⟩]) := (cflat_snoc cs ⟨l4, (smallB v5 : Nat), dd⟩).symm
        rw [hfl] at hown'
        have HO7 := hidm (owns_low (o := 1) (u := v') hown' (show w1.heap.size < w1.heap.size + 1 by omega))
        have hbz : Below (w6.setCell ⟨w4.heap.size, 2, none⟩ (.bool dd)).heap.size (w6.setCell ⟨w4.heap.size, 2, none⟩ (.bool dd)) ((w6.setCell ⟨w4.heap.size, 2, none⟩ (.bool dd)).alloc (.cells #[.string (S l4), .int .i64 (smallB v5 : Nat), .bool dd] 81)) := (Below.refl _ _).alloc (Nat.le_refl _) _
        have hq7 := grown_keeps (below_keeps hbz HQ6.out) hgrow (fun g hg => by have := (hlt6 g hg).1; omega)
        have hz7 := grown_keeps (below_keeps hbz HZ6.out) hgrow (fun g hg => by have := (hlt6 g hg).1; omega)
        obtain ⟨u0, u1, u2⟩ := three hq7
        have uf := frz hq7 1
        have HQ7 := hidm (put1 (u := v') hq7)
        have HZ7 := hidm (put_other (c := w1.heap.size) (o := 1) (u := v') hz7 (by omega))
        have HR7 := hidm ((Rrd.grown (HR6.out.past (.cells #[.string (S l4), .int .i64 (smallB v5 : Nat), .bool dd] 81)) hgrow (fun k hk => by have := (hlt6 k hk).1; omega)).other (a := ⟨w1.heap.size, 1, none⟩) hrq v')
        have HB7 := hidm ((But.grown ((HB.out.trans HB6.out).alloc (.cells #[.string (S l4), .int .i64 (smallB v5 : Nat), .bool dd] 81)) hgrow (fun k hk => by have := (hlt6 k hk).1; omega)).setNew (p := ⟨w1.heap.size, 1, none⟩) (by simp; omega) v')
        have HC7 := hidm (show (cs ++ [(⟨l4, (smallB v5 : Nat), dd⟩ : C)]).length = i + 1 ∧ (∀ c ∈ cs ++ [(⟨l4, (smallB v5 : Nat), dd⟩ : C)], c.nm.length ≤ s.size) ∧ w1.heap.size + 1 ≤ (w7.setCell ⟨w1.heap.size, 1, none⟩ v').heap.size from ⟨by rw [List.length_append, HC.out.1]; rfl, fun c hc => by
          rcases List.mem_append.1 hc with h | h
          · exact HC.out.2.1 c h
          · rw [List.mem_singleton] at h; rw [h]; exact HL4.out, by have := hgrow.size; simp at this ⊢; omega⟩)
        have hg1 : GG s (fun t => ((l = t.nm ∧ kk = t.keys) ∧ (n = t.cols.length ∧ cs = t.cols.take i)) ∧ i < t.cols.length) 0 p (fun t => tB (cAt t i).nm ++ (uB (cAt t i).k.toNat ++ (uB (bitB (cAt t i)) ++ (t.cols.drop (i + 1)).flatMap colB))) :=
          GG.mono HG.out (fun t _ hp => by
            have hil : i < t.cols.length := by have := hp.2.1; omega
            exact ⟨⟨hp, hil⟩, rest_round hil⟩)
        have hg2 := GG.text hg1 (fun t h => by have := (cAt_len h i).1; omega) (fun nm X _ => HT4.out nm X trivial)
        have hg3 := GG.num (f := fun t => (cAt t i).k.toNat) hg2 (fun t h => by have := (cAt_len h i).2; omega) HT5.out
        have hg4 := GG.num (f := fun t => bitB (cAt t i)) hg3 (fun t h => by unfold bitB; split <;> omega) HT6.out
        have HG7 := hidm (show GG s (fun t => (l = t.nm ∧ kk = t.keys) ∧ (n = t.cols.length ∧ cs ++ [(⟨l4, (smallB v5 : Nat), dd⟩ : C)] = t.cols.take (i + 1))) e6 p6 (fun t => (t.cols.drop (i + 1)).flatMap colB) from
          GG.mono hg4 (fun t hr hp => ⟨⟨hp.1.1.1.1.1, hp.1.1.1.1.2.1, rcols_step hr hp.1.1.1.2 hp.1.1.1.1.2.2 hp.1.1.2 hp.1.2 hp.2 HDD.out⟩, rfl⟩))
        obtain ⟨vo, vc, hvv⟩ : ∃ so sc, v' = .slice so (i + 1) sc := by
          rcases hown'.2 with ⟨hv, h0⟩ | ⟨g, cap, cur, hv, _⟩
          · exact absurd h0 (by omega)
          · exact ⟨_, _, hv⟩
        subst hvv
        clear hg1 hg2 hg3 hg4 hq7 hz7 hbz hfl hown' hgrow hlt6 hown x0 x1 x2 xf y0 y1 y2 yf hdd
        go_wp2
        go_roundw
        case rel => exact ⟨i + 1, p6, e6, cs ++ [⟨l4, (smallB v5 : Nat), dd⟩], .slice vo (i + 1) vc, by go_num, by omega, hidm ⟨HR7.out, HP6.out⟩, HB7, HQ7, HZ7, HO7, HC7, HG7⟩
        case measure => simp [intOf]; omega
      · have f2 : (e == 0) = false := by simpa using he
        obtain ⟨y0, y1, y2⟩ := three HQ.out
        obtain ⟨z0, z1, z2⟩ := three HZ.out
        have zf0 := frz HZ.out 0
        have zf1 := frz HZ.out 1
        have zf2 := frz HZ.out 2
        have hne : ¬ (w1.heap.size = w.heap.size) := by omega
        obtain ⟨so, sc, hsl⟩ : ∃ so sc, sl = .slice so i sc := by
          rcases HO.out.2 with ⟨hv, h0⟩ | ⟨g, cap, cur, hv, _⟩
          · exact ⟨none, 0, by rw [hv, h0]⟩
          · exact ⟨_, _, hv⟩
        subst hsl
        have HO2 := hidm (owns_low (o := 2) (u := .int .i64 kk) (owns_low (o := 1) (u := .slice so i sc) (owns_low (o := 0) (u := .string (S l)) HO.out (show w.heap.size < w1.heap.size + 1 by omega)) (show w.heap.size < w1.heap.size + 1 by omega)) (show w.heap.size < w1.heap.size + 1 by omega))
        have HB2 := hidm (((HB.out.setNew (p := ⟨w.heap.size, 0, none⟩) (Nat.le_refl _) (.string (S l))).setNew (p := ⟨w.heap.size, 1, none⟩) (Nat.le_refl _) (.slice so i sc)).setNew (p := ⟨w.heap.size, 2, none⟩) (Nat.le_refl _) (.int .i64 kk))
        obtain ⟨r0, r1, r2⟩ := three (put2 (u := .int .i64 kk) (put1 (u := .slice so i sc) (put0 (u := .string (S l)) HZ.out)))
        have R0 := hidm r0
        have R1 := hidm r1
        have R2 := hidm r2
        clear r0 r1 r2
        go_wp2_with fail
        refine bodyPost_ret (v := .agg #[.string (S l), .slice so i sc, .int .i64 kk]) (by simp [results, Tryz.results104, go_sem, R0.out, R1.out, R2.out]) rfl ?_
        have hcl : i = cs.length := HC.out.1.symm
        refine ⟨⟨l, cs, kk⟩, _, rfl, ColsAt.of_owns (by have h := HO2.out; rw [← HC.out.1]; rw [← HC.out.1] at h; exact h), HB2.out, HL.out, by show cs.length ≤ 1000; omega, HC.out.2.1, fun q hr hb => ?_, (fresh_owns HO2.out).mono (by omega)⟩
        obtain ⟨⟨⟨h1, h2⟩, h3, h4⟩, h5, _⟩ := HG.out q hr hb
        obtain ⟨qn, qc, qk⟩ := q
        simp only at h1 h2 h3 h4
        exact absurd h5 he
    · have f1 : ¬ (i : Int) < n := by omega
      have hiN : n = i := by omega
      subst hiN
      obtain ⟨y0, y1, y2⟩ := three HQ.out
      obtain ⟨z0, z1, z2⟩ := three HZ.out
      have zf0 := frz HZ.out 0
      have zf1 := frz HZ.out 1
      have zf2 := frz HZ.out 2
      have hne : ¬ (w1.heap.size = w.heap.size) := by omega
      obtain ⟨so, sc, hsl⟩ : ∃ so sc, sl = .slice so n sc := by
        rcases HO.out.2 with ⟨hv, h0⟩ | ⟨g, cap, cur, hv, _⟩
        · exact ⟨none, 0, by rw [hv, h0]⟩
        · exact ⟨_, _, hv⟩
      subst hsl
      have HO2 := hidm (owns_low (o := 2) (u := .int .i64 kk) (owns_low (o := 1) (u := .slice so n sc) (owns_low (o := 0) (u := .string (S l)) HO.out (show w.heap.size < w1.heap.size + 1 by omega)) (show w.heap.size < w1.heap.size + 1 by omega)) (show w.heap.size < w1.heap.size + 1 by omega))
      have HB2 := hidm (((HB.out.setNew (p := ⟨w.heap.size, 0, none⟩) (Nat.le_refl _) (.string (S l))).setNew (p := ⟨w.heap.size, 1, none⟩) (Nat.le_refl _) (.slice so n sc)).setNew (p := ⟨w.heap.size, 2, none⟩) (Nat.le_refl _) (.int .i64 kk))
      obtain ⟨r0, r1, r2⟩ := three (put2 (u := .int .i64 kk) (put1 (u := .slice so n sc) (put0 (u := .string (S l)) HZ.out)))
      have R0 := hidm r0
      have R1 := hidm r1
      have R2 := hidm r2
      clear r0 r1 r2
      go_wp2_with fail
      refine bodyPost_ret (v := .agg #[.string (S l), .slice so n sc, .int .i64 kk]) (by simp [results, Tryz.results104, go_sem, R0.out, R1.out, R2.out]) rfl ?_
      have hcl : n = cs.length := HC.out.1.symm
      refine ⟨⟨l, cs, kk⟩, _, rfl, ColsAt.of_owns (by have h := HO2.out; rw [← HC.out.1]; rw [← HC.out.1] at h; exact h), HB2.out, HL.out, by show cs.length ≤ 1000; omega, HC.out.2.1, fun q hr hb => ?_, (fresh_owns HO2.out).mono (by omega)⟩
      obtain ⟨⟨⟨h1, h2⟩, h3, h4⟩, h5, _⟩ := HG.out q hr hb
      obtain ⟨qn, qc, qk⟩ := q
      simp only at h1 h2 h3 h4
      rw [List.take_of_length_le (by omega)] at h4
      rw [h1, h2, h4]
end Sch
end Go.Proofs.YtopmbhpjdmcabaaGreat
