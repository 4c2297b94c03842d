/- schema.read. Condition: the bytes are at most 2^48. -/
/- schema.Decode. Condition: the bytes are at most 2^48. -/
import Derived.Test.YtopmbhpjdmcabaaGreatJtf
import Derived.Test.YtopmbhpjdmcabaaGreatJg
namespace Go.Proofs.YtopmbhpjdmcabaaGreat
open Go.RowKit
namespace Sch
open Cod
theorem wrap_is (n : Int) : IntKind.i64.wrap n = wrap64 n := by
  rw [IntKind.wrap_i64]; unfold wrap64; omega
theorem cols_step {t : T} {cs : List C} {i v5 v6 : Nat} {l4 : List UInt8} {k5 : Int} {dd : Bool} (ht : rightB t = true) (hi : i < t.cols.length) (hc : cs = t.cols.take i) (h1 : l4 = (cAt t i).nm) (h2 : v5 = (cAt t i).k.toNat) (h3 : v6 = bitB (cAt t i))
    (h4 : IntKind.i64.wrap (v5 : Int) = k5) (h5 : ((v6 : Int) == 1) = dd) : cs ++ [(⟨l4, k5, dd⟩ : C)] = t.cols.take (i + 1) := by
  rw [List.take_succ_eq_append_getElem hi, hc]
  congr 2
  rw [cAt_at hi] at h1 h2 h3
  obtain ⟨_, g1, g2⟩ := col_parts (right_mem ht (List.getElem_mem hi))
  generalize t.cols[i] = x at *
  obtain ⟨xn, xk, xd⟩ := x
  simp only at h1 h2 h3 g1 g2
  subst h1
  have e4 : k5 = xk := by rw [← h4, h2, IntKind.wrap_i64]; omega
  have e5 : dd = xd := by rw [← h5, h3]; unfold bitB; cases xd <;> rfl
  rw [e4, e5]
theorem owns_but {r base : Nat} {e : TypeId} {sz : Nat} {v : Value} {n : Nat} {xs : List Value} {w w' : World} (h : w.ownsRow base e sz v n xs) (hr : r < base) (hb : But r w w') : w'.ownsRow base e sz v n xs := by
  refine ⟨h.1, ?_⟩
  rcases h.2 with h2 | ⟨g, cap, cur, hv, hg, hh, rest⟩
  · exact .inl h2
  · exact .inr ⟨g, cap, cur, hv, hg, hb.keeps (by omega) hh, rest⟩
theorem owns_low {k base o : Nat} {e : TypeId} {sz : Nat} {v u : Value} {n : Nat} {xs : List Value} {w : World} (h : w.ownsRow base e sz v n xs) (hk : k < base) : (w.setCell ⟨k, o, none⟩ u).ownsRow base e sz v n xs := by
  refine ⟨h.1, ?_⟩
  rcases h.2 with h2 | ⟨g, cap, cur, hv, hg, hh, rest⟩
  · exact .inl h2
  · exact .inr ⟨g, cap, cur, hv, hg, put_other hh (by omega), rest⟩
theorem But.grown {r : Nat} {a w w' : World} {row : Option Nat} (h : But r a w) (hg : w.grownBy w' row) (hr : ∀ k, row = some k → a.heap.size ≤ k) : But r a w' := by
  refine ⟨hg.os.trans h.os, hg.tape.trans h.tape, hg.output.trans h.output, Nat.le_trans h.size hg.size, fun k hk hn => ?_⟩
  rw [hg.block k (Nat.lt_of_lt_of_le hk h.size) (fun e => by have := hr k e.symm; omega), h.block k hk hn]
theorem Rdr.grown {r : Nat} {s : ByteArray} {q e : Int} {w w' : World} {row : Option Nat} (h : Rdr r s q e w) (hg : w.grownBy w' row) (hr : ∀ k, row = some k → r ≠ k) : Rdr r s q e w' := by
  unfold Rdr; rw [hg.block r h.lt (fun e => hr r e.symm rfl)]; exact h
theorem grown_keeps {k : Nat} {w w' : World} {row : Option Nat} {o : Obj} (h : w.heap[k]? = some o) (hg : w.grownBy w' row) (hr : ∀ g, row = some g → k ≠ g) : w'.heap[k]? = some o := by
  rw [hg.block k (lt_of_block h) (fun e => hr k e.symm rfl)]; exact h
set_option maxHeartbeats 4000000 in
set_option maxRecDepth 100000 in
theorem read_any (r : Nat) (s : ByteArray) (hs : s.size ≤ 281474976710656) (w : World) (hr : Rdr r s 0 0 w) :
    Calls Tryz.prog 119 #[.pointer (some ⟨r, 0, none⟩)] w fun en w' => ReadP 16 r s w en w' := by
  obtain ⟨i0, hi, hz0, hz1, hz2⟩ := info_parts infoC
  have hlt := hr.lt
  have hrq : r ≠ w.heap.size + 1 := by omega
  have hrz : r ≠ w.heap.size := by omega
  have HR := hidm ((hr.past (.cells #[.string ⟨#[]⟩, .slice none 0 0, .int .i64 0] 30)).past (.cells #[.string ⟨#[]⟩, .slice none 0 0, .int .i64 0] 30))
  have HQ := hidm (show ((w.alloc (.cells #[.string ⟨#[]⟩, .slice none 0 0, .int .i64 0] 30)).alloc (.cells #[.string ⟨#[]⟩, .slice none 0 0, .int .i64 0] 30)).heap[w.heap.size + 1]? = some (.cells #[.string ⟨#[]⟩, .slice none 0 0, .int .i64 0] 30 (0, 0)) from by have g := heap_alloc_new (w.alloc (.cells #[.string ⟨#[]⟩, .slice none 0 0, .int .i64 0] 30)) (.cells #[.string ⟨#[]⟩, .slice none 0 0, .int .i64 0] 30); simpa using g)
  have HZ := hidm (show ((w.alloc (.cells #[.string ⟨#[]⟩, .slice none 0 0, .int .i64 0] 30)).alloc (.cells #[.string ⟨#[]⟩, .slice none 0 0, .int .i64 0] 30)).heap[w.heap.size]? = some (.cells #[.string ⟨#[]⟩, .slice none 0 0, .int .i64 0] 30 (0, 0)) from below_keeps ((Below.refl _ _).alloc (Nat.le_refl _) _) (heap_alloc_new w (.cells #[.string ⟨#[]⟩, .slice none 0 0, .int .i64 0] 30)))
  have HB := hidm ((((But.refl r w).alloc (.cells #[.string ⟨#[]⟩, .slice none 0 0, .int .i64 0] 30)).alloc (.cells #[.string ⟨#[]⟩, .slice none 0 0, .int .i64 0] 30)))
  have HZZ := hidm (show w.heap.size + 2 ≤ ((w.alloc (.cells #[.string ⟨#[]⟩, .slice none 0 0, .int .i64 0] 30)).alloc (.cells #[.string ⟨#[]⟩, .slice none 0 0, .int .i64 0] 30)).heap.size by simp)
  have G0 := hidm (GG.start s)
  clear hr
  go_enter Tryz.func119, Tryz.ntmps119
  go_wp2_with fail
  refine (text_uni r s 0 0 _ HR.out (by omega) hs).mono ?_
  rintro e w1 ⟨l, p1, e1, rfl, hr, hb, hp1, hl, ht⟩
  have hq1 := hb.keeps (Ne.symm hrq) HQ.out
  obtain ⟨y0, y1, y2⟩ := three hq1
  have yf := frz hq1 0
  have HB1 := hidm ((HB.out.trans hb).setNew (p := ⟨w.heap.size + 1, 0, none⟩) (by simp) (.string (S l)))
  have HQ1 := hidm (put0 (u := .string (S l)) hq1)
  have HZ1 := hidm (put_other (c := w.heap.size + 1) (o := 0) (u := .string (S l)) (hb.keeps (Ne.symm hrz) HZ.out) (by omega))
  have HR1 := hidm (hr.other (a := ⟨w.heap.size + 1, 0, none⟩) hrq (.string (S l)))
  have HZZ1 := hidm (show w.heap.size + 2 ≤ (w1.setCell ⟨w.heap.size + 1, 0, none⟩ (.string (S l))).heap.size from by have := HZZ.out; have := hb.size; simp; omega)
  have G1 := hidm (GG.text G0.out (fun t h => by have := name_len (head_parts (right_head h)).1; omega) ht)
  have HP1 := hidm hp1
  have HL := hidm hl
  clear hr hb hp1 hl ht hq1 HB HQ HZ HR HZZ G0
  go_wp2_with fail
  refine (num_uni r s p1 e1 _ HR1.out HP1.out hs).mono ?_
  rintro e w2 ⟨v2, p2, e2, rfl, hr, hb, hp2, hv2, ht⟩
  clear y0 y1 y2 yf
  have hq2 := hb.keeps (Ne.symm hrq) HQ1.out
  obtain ⟨y0, y1, y2⟩ := three hq2
  have yf := frz hq2 2
  obtain ⟨kk, hkk⟩ : ∃ k, IntKind.i64.wrap (v2 : Int) = k := ⟨_, rfl⟩
  have hkk2 : wrap64 (v2 : Int) = kk := (wrap_is _).symm.trans hkk
  have HKK := hidm hkk
  have HB2 := hidm ((HB1.out.trans hb).setNew (p := ⟨w.heap.size + 1, 2, none⟩) (by simp) (.int .i64 kk))
  have HQ2 := hidm (put2 (u := .int .i64 kk) hq2)
  have HZ2 := hidm (put_other (c := w.heap.size + 1) (o := 2) (u := .int .i64 kk) (hb.keeps (Ne.symm hrz) HZ1.out) (by omega))
  have HR2 := hidm (hr.other (a := ⟨w.heap.size + 1, 2, none⟩) hrq (.int .i64 kk))
  have HZZ2 := hidm (show w.heap.size + 2 ≤ (w2.setCell ⟨w.heap.size + 1, 2, none⟩ (.int .i64 kk)).heap.size from by have := HZZ1.out; have := hb.size; simp at *; omega)
  have G2 := hidm (GG.num (f := fun t => t.keys.toNat) G1.out (fun t h => by have := (head_parts (right_head h)).2.2.2.1; omega) ht)
  have HP2 := hidm hp2
  clear hr hb hp2 hv2 ht hq2 HB1 HQ1 HZ1 HR1 HZZ1 G1 HP1
  go_wp2_with fail
  refine (num_uni r s p2 e2 _ HR2.out HP2.out hs).mono ?_
  rintro e w3 ⟨v3, p3, e3, rfl, hr, hb, hp3, hv3, ht⟩
  clear y0 y1 y2 yf
  have HQ3 := hidm (hb.keeps (Ne.symm hrq) HQ2.out)
  have HZ3 := hidm (hb.keeps (Ne.symm hrz) HZ2.out)
  have HB3 := hidm (HB2.out.trans hb)
  have HR3 := hidm hr
  have HZZ3 := hidm (Nat.le_trans HZZ2.out hb.size)
  have G3 := hidm (GG.num (f := fun t => t.cols.length) G2.out (fun t h => by have := (head_parts (right_head h)).2.1; omega) ht)
  have HP3 := hidm hp3
  clear hr hb hp3 ht HB2 HQ2 HZ2 HR2 HZZ2 G2 HP2 hkk hkk2
  have hv3b := hv3
  rcases Nat.lt_or_ge v3 16 with hn | hn
  · go_wp2_with fail
    go_loopw [15] (fun ii wr => ∃ (i p : Nat) (e : Int) (cs : List C) (sl : Value), ii = .int .u64 i ∧ i ≤ v3 ∧ Hid (Rdr r s p e wr ∧ p ≤ s.size) ∧ Hid (But r w wr) ∧ Hid (wr.heap[w.heap.size + 1]? = some (.cells #[.string (S l), sl, .int .i64 kk] 30 (0, 0))) ∧ Hid (wr.heap[w.heap.size]? = some (.cells #[.string ⟨#[]⟩, .slice none 0 0, .int .i64 0] 30 (0, 0))) ∧ Hid (wr.ownsRow (w.heap.size + 2) 81 3 sl i (cflat cs)) ∧ Hid (cs.length = i ∧ (∀ c ∈ cs, c.nm.length ≤ s.size) ∧ w.heap.size + 2 ≤ wr.heap.size) ∧
      Hid (GG s (fun t => (l = t.nm ∧ kk = t.keys) ∧ (v3 = t.cols.length ∧ cs = t.cols.take i)) e p (fun t => (t.cols.drop i).flatMap colB))) (fun ii _ => v3 - (intOf ii).toNat)
    case atStart =>
      refine ⟨0, p3, e3, [], .slice none 0 0, rfl, by omega, hidm ⟨HR3.out, HP3.out⟩, HB3, HQ3, HZ3, hidm (World.ownsRow_nil _ _ _ _), hidm ⟨rfl, by simp, HZZ3.out⟩, hidm ?_⟩
      refine GG.mono G3.out (fun t hr hp => ⟨⟨⟨hp.1.1.2, ?_⟩, hp.2, by simp⟩, by simp⟩)
      have h1 := (head_parts (right_head hr)).2.2
      rw [← HKK.out, hp.1.2]
      rw [IntKind.wrap_i64]; omega
    case round =>
      clear HR3 HB3 HQ3 HZ3 HZZ3 G3 HP3
      obtain ⟨i, p, e, cs, sl, rfl, hin, HR, HB, HQ, HZ, HO, HC, HG⟩ := hrel
      rcases Nat.lt_or_ge i v3 with hlt2 | hge
      · have f1 : (i : Int) < v3 := by omega
        have hwz := HC.out.2.2
        have hR0 := HR.out.1.past (.cells #[.string ⟨#[]⟩, .int .i64 0, .bool false] 81)
        have hrc : r ≠ wr.heap.size := by omega
        have HRA := hidm hR0
        have hBA := (But.refl r wr).alloc (.cells #[.string ⟨#[]⟩, .int .i64 0, .bool false] 81)
        have HBA := hidm hBA
        have HKA := hidm (heap_alloc_new wr (.cells #[.string ⟨#[]⟩, .int .i64 0, .bool false] 81))
        clear hR0 hBA
        go_wp2_with fail
        refine (text_uni r s p e _ HRA.out HR.out.2 hs).mono ?_
        rintro e' w4 ⟨l4, p4, e4, rfl, hr, hb, hp4, hl4, ht⟩
        have hk4 := hb.keeps (Ne.symm hrc) HKA.out
        obtain ⟨x0, x1, x2⟩ := three hk4
        have xf := frz hk4 0
        have HB4 := hidm ((HBA.out.trans hb).setNew (p := ⟨wr.heap.size, 0, none⟩) (Nat.le_refl _) (.string (S l4)))
        have HK4 := hidm (put0 (u := .string (S l4)) hk4)
        have HR4 := hidm (hr.other (a := ⟨wr.heap.size, 0, none⟩) hrc (.string (S l4)))
        have HP4 := hidm hp4
        have HL4 := hidm hl4
        have HT4 := hidm ht
        clear hr hb hp4 hl4 ht hk4 HBA HKA HRA
        go_wp2_with fail
        refine (num_uni r s p4 e4 _ HR4.out HP4.out hs).mono ?_
        rintro e' w5 ⟨v5, p5, e5, rfl, hr, hb, hp5, hv5, ht⟩
        clear x0 x1 x2 xf
        have hk5 := hb.keeps (Ne.symm hrc) HK4.out
        obtain ⟨x0, x1, x2⟩ := three hk5
        have xf := frz hk5 1
        obtain ⟨k5, hk5z⟩ : ∃ k, IntKind.i64.wrap (v5 : Int) = k := ⟨_, rfl⟩
        have hk5y : wrap64 (v5 : Int) = k5 := (wrap_is _).symm.trans hk5z
        have HK5Z := hidm hk5z
        have HB5 := hidm ((HB4.out.trans hb).setNew (p := ⟨wr.heap.size, 1, none⟩) (Nat.le_refl _) (.int .i64 k5))
        have HK5 := hidm (put1 (u := .int .i64 k5) hk5)
        have HR5 := hidm (hr.other (a := ⟨wr.heap.size, 1, none⟩) hrc (.int .i64 k5))
        have HP5 := hidm hp5
        have HT5 := hidm ht
        clear hr hb hp5 hv5 ht hk5 HB4 HK4 HR4
        go_wp2_with fail
        refine (num_uni r s p5 e5 _ HR5.out HP5.out hs).mono ?_
        rintro e' w6 ⟨v6, p6, e6, rfl, hr, hb, hp6, hv6, ht⟩
        clear x0 x1 x2 xf hk5z hk5y
        have hk6 := hb.keeps (Ne.symm hrc) HK5.out
        obtain ⟨x0, x1, x2⟩ := three hk6
        have xf := frz hk6 2
        obtain ⟨dd, hdd⟩ : ∃ d, ((v6 : Int) == 1) = d := ⟨_, rfl⟩
        have HDD := hidm hdd
        have HB6 := hidm ((HB5.out.trans hb).setNew (p := ⟨wr.heap.size, 2, none⟩) (Nat.le_refl _) (.bool dd))
        have HK6 := hidm (put2 (u := .bool dd) hk6)
        have HR6 := hidm (hr.other (a := ⟨wr.heap.size, 2, none⟩) hrc (.bool dd))
        have HP6 := hidm hp6
        have HT6 := hidm ht
        clear hr hb hp6 hv6 ht hk6 HB5 HK5 HR5
        have hq6 := HB6.out.keeps (Ne.symm hrq) HQ.out
        obtain ⟨y0, y1, y2⟩ := three hq6
        have yf := frz hq6 1
        have hown := owns_but HO.out (by omega) HB6.out
        have hlt6 := hown.lt
        have hsz6 := HB6.out.size
        simp only [World.size_setCell] at hsz6
        have HQ6 := hidm hq6
        have HZ6 := hidm (HB6.out.keeps (Ne.symm hrz) HZ.out)
        have hs6 : wr.heap.size < w6.heap.size := by have h := lt_of_block HK6.out; simpa using h
        clear hq6
        obtain ⟨so, sc, hsl⟩ : ∃ so sc, sl = .slice so i sc := by
          rcases HO.out.2 with ⟨hv, h0⟩ | ⟨g, cap, cur, hv, _⟩
          · exact ⟨none, 0, by rw [hv, h0]⟩
          · exact ⟨_, _, hv⟩
        subst hsl
        go_wp2_with (at_builtin; refine wpList_append_own _ rfl _ _ 28 rfl (w.heap.size + 2) 81 i0 (.agg #[.string ⟨#[]⟩, .int .i64 0, .bool false]) 3 32 Tryz.underlying28 hi hz0 hz1 hz2 rfl (by decide) _ _ _ rfl (hown.alloc _) ⟨w6.heap.size, 0, none⟩ 1 1 [.string (S l4), .int .i64 k5, .bool dd] rfl rfl ?CA ?CB ?CC ?CD ?CE ?_)
        case CA =>
          intro j y hj
          rcases cell_thr _ _ _ j y hj with ⟨rfl, rfl⟩ | ⟨rfl, rfl⟩ | ⟨rfl, rfl⟩ <;> simp [Addr.add, go_sem]
        case CB => intro y hy; simp at hy; rcases hy with rfl | rfl | rfl <;> rfl
        case CC => unfold maxLen; omega
        case CD => omega
        case CE => simp; omega
        intro v' w7 hown' hgrow _
        have hfl : cflat cs ++ [.string (S l4), .int .i64 k5, .bool dd] = cflat (cs ++ [⟨l4, k5, dd⟩]) := (cflat_snoc cs ⟨l4, k5, dd⟩).symm
        rw [hfl] at hown'
        have HO7 := hidm (owns_low (o := 1) (u := v') hown' (show w.heap.size + 1 < w.heap.size + 2 by omega))
        have hbz : Below (w6.setCell ⟨wr.heap.size, 2, none⟩ (.bool dd)).heap.size (w6.setCell ⟨wr.heap.size, 2, none⟩ (.bool dd)) ((w6.setCell ⟨wr.heap.size, 2, none⟩ (.bool dd)).alloc (.cells #[.string (S l4), .int .i64 k5, .bool dd] 81)) := (Below.refl _ _).alloc (Nat.le_refl _) _
        have hq7 := grown_keeps (below_keeps hbz HQ6.out) hgrow (fun g hg => by have := (hlt6 g hg).1; omega)
        have hz7 := grown_keeps (below_keeps hbz HZ6.out) hgrow (fun g hg => by have := (hlt6 g hg).1; omega)
        obtain ⟨u0, u1, u2⟩ := three hq7
        have uf := frz hq7 1
        have HQ7 := hidm (put1 (u := v') hq7)
        have HZ7 := hidm (put_other (c := w.heap.size + 1) (o := 1) (u := v') hz7 (by omega))
        have HR7 := hidm ((Rdr.grown (HR6.out.past (.cells #[.string (S l4), .int .i64 k5, .bool dd] 81)) hgrow (fun k hk => by have := (hlt6 k hk).1; omega)).other (a := ⟨w.heap.size + 1, 1, none⟩) hrq v')
        have HB7 := hidm ((But.grown ((HB.out.trans HB6.out).alloc (.cells #[.string (S l4), .int .i64 k5, .bool dd] 81)) hgrow (fun k hk => by have := (hlt6 k hk).1; omega)).setNew (p := ⟨w.heap.size + 1, 1, none⟩) (by simp) v')
        have HC7 := hidm (show (cs ++ [(⟨l4, k5, dd⟩ : C)]).length = i + 1 ∧ (∀ c ∈ cs ++ [(⟨l4, k5, dd⟩ : C)], c.nm.length ≤ s.size) ∧ w.heap.size + 2 ≤ (w7.setCell ⟨w.heap.size + 1, 1, none⟩ v').heap.size from ⟨by rw [List.length_append, HC.out.1]; rfl, fun c hc => by
          rcases List.mem_append.1 hc with h | h
          · exact HC.out.2.1 c h
          · rw [List.mem_singleton] at h; rw [h]; exact HL4.out, by have := hgrow.size; simp at this ⊢; omega⟩)
        have hg1 : GG s (fun t => ((l = t.nm ∧ kk = t.keys) ∧ (v3 = t.cols.length ∧ cs = t.cols.take i)) ∧ i < t.cols.length) e p (fun t => tB (cAt t i).nm ++ (uB (cAt t i).k.toNat ++ (uB (bitB (cAt t i)) ++ (t.cols.drop (i + 1)).flatMap colB))) :=
          GG.mono HG.out (fun t _ hp => by
            have hil : i < t.cols.length := by have := hp.2.1; omega
            exact ⟨⟨hp, hil⟩, rest_round hil⟩)
        have hg2 := GG.text hg1 (fun t h => by have := (cAt_len h i).1; omega) HT4.out
        have hg3 := GG.num (f := fun t => (cAt t i).k.toNat) hg2 (fun t h => by have := (cAt_len h i).2; omega) HT5.out
        have hg4 := GG.num (f := fun t => bitB (cAt t i)) hg3 (fun t h => by unfold bitB; split <;> omega) HT6.out
        have HG7 := hidm (show GG s (fun t => (l = t.nm ∧ kk = t.keys) ∧ (v3 = t.cols.length ∧ cs ++ [(⟨l4, k5, dd⟩ : C)] = t.cols.take (i + 1))) e6 p6 (fun t => (t.cols.drop (i + 1)).flatMap colB) from
          GG.mono hg4 (fun t hr hp => ⟨⟨hp.1.1.1.1.1, hp.1.1.1.1.2.1, cols_step hr hp.1.1.1.2 hp.1.1.1.1.2.2 hp.1.1.2 hp.1.2 hp.2 HK5Z.out HDD.out⟩, rfl⟩))
        obtain ⟨vo, vc, hvv⟩ : ∃ so sc, v' = .slice so (i + 1) sc := by
          rcases hown'.2 with ⟨hv, h0⟩ | ⟨g, cap, cur, hv, _⟩
          · exact absurd h0 (by omega)
          · exact ⟨_, _, hv⟩
        subst hvv
        clear hg1 hg2 hg3 hg4 hq7 hz7 hbz hfl hown' hgrow hlt6 hown x0 x1 x2 xf y0 y1 y2 yf hdd
        go_wp2
        go_roundw
        case rel => exact ⟨i + 1, p6, e6, cs ++ [⟨l4, k5, dd⟩], .slice vo (i + 1) vc, by go_num, by omega, hidm ⟨HR7.out, HP6.out⟩, HB7, HQ7, HZ7, HO7, HC7, HG7⟩
        case measure => simp [intOf]; omega
      · have hiN : v3 = i := by omega
        subst hiN
        obtain ⟨y0, y1, y2⟩ := three HQ.out
        obtain ⟨z0, z1, z2⟩ := three HZ.out
        have zf0 := frz HZ.out 0
        have zf1 := frz HZ.out 1
        have zf2 := frz HZ.out 2
        have hne : ¬ (w.heap.size + 1 = w.heap.size) := by omega
        obtain ⟨so, sc, hsl⟩ : ∃ so sc, sl = .slice so v3 sc := by
          rcases HO.out.2 with ⟨hv, h0⟩ | ⟨g, cap, cur, hv, _⟩
          · exact ⟨none, 0, by rw [hv, h0]⟩
          · exact ⟨_, _, hv⟩
        subst hsl
        have HO2 := hidm (owns_low (o := 2) (u := .int .i64 kk) (owns_low (o := 1) (u := .slice so v3 sc) (owns_low (o := 0) (u := .string (S l)) HO.out (show w.heap.size < w.heap.size + 2 by omega)) (show w.heap.size < w.heap.size + 2 by omega)) (show w.heap.size < w.heap.size + 2 by omega))
        have HB2 := hidm (((HB.out.setNew (p := ⟨w.heap.size, 0, none⟩) (Nat.le_refl _) (.string (S l))).setNew (p := ⟨w.heap.size, 1, none⟩) (Nat.le_refl _) (.slice so v3 sc)).setNew (p := ⟨w.heap.size, 2, none⟩) (Nat.le_refl _) (.int .i64 kk))
        obtain ⟨r0, r1, r2⟩ := three (put2 (u := .int .i64 kk) (put1 (u := .slice so v3 sc) (put0 (u := .string (S l)) HZ.out)))
        have R0 := hidm r0
        have R1 := hidm r1
        have R2 := hidm r2
        clear r0 r1 r2
        go_wp2_with fail
        refine bodyPost_ret (v := .agg #[.string (S l), .slice so v3 sc, .int .i64 kk]) (by simp [results, Tryz.results119, go_sem, R0.out, R1.out, R2.out]) rfl ?_
        have hcl : v3 = cs.length := HC.out.1.symm
        refine ⟨⟨l, cs, kk⟩, _, rfl, ColsAt.of_owns (by have h := HO2.out; rw [← HC.out.1]; rw [← HC.out.1] at h; exact h), HB2.out, HL.out, by show cs.length ≤ 16; omega, HC.out.2.1, fun q hr hb => ?_, (fresh_owns HO2.out).mono (by omega)⟩
        obtain ⟨⟨⟨h1, h2⟩, h3, h4⟩, _⟩ := HG.out q hr hb
        obtain ⟨qn, qc, qk⟩ := q
        have hq16 := (head_parts (right_head hr)).2.1
        simp only at h1 h2 h3 h4 hq16
        rw [List.take_of_length_le (by omega)] at h4
        rw [h1, h2, h4]
  · go_wp2_with fail
    go_loopw [15] (fun ii wr => ∃ (i p : Nat) (e : Int) (cs : List C) (sl : Value), ii = .int .u64 i ∧ i ≤ 16 ∧ Hid (Rdr r s p e wr ∧ p ≤ s.size) ∧ Hid (But r w wr) ∧ Hid (wr.heap[w.heap.size + 1]? = some (.cells #[.string (S l), sl, .int .i64 kk] 30 (0, 0))) ∧ Hid (wr.heap[w.heap.size]? = some (.cells #[.string ⟨#[]⟩, .slice none 0 0, .int .i64 0] 30 (0, 0))) ∧ Hid (wr.ownsRow (w.heap.size + 2) 81 3 sl i (cflat cs)) ∧ Hid (cs.length = i ∧ (∀ c ∈ cs, c.nm.length ≤ s.size) ∧ w.heap.size + 2 ≤ wr.heap.size) ∧
      Hid (GG s (fun t => (l = t.nm ∧ kk = t.keys) ∧ (v3 = t.cols.length ∧ cs = t.cols.take i)) e p (fun t => (t.cols.drop i).flatMap colB))) (fun ii _ => 16 - (intOf ii).toNat)
    case atStart =>
      refine ⟨0, p3, e3, [], .slice none 0 0, rfl, by omega, hidm ⟨HR3.out, HP3.out⟩, HB3, HQ3, HZ3, hidm (World.ownsRow_nil _ _ _ _), hidm ⟨rfl, by simp, HZZ3.out⟩, hidm ?_⟩
      refine GG.mono G3.out (fun t hr hp => ⟨⟨⟨hp.1.1.2, ?_⟩, hp.2, by simp⟩, by simp⟩)
      have h1 := (head_parts (right_head hr)).2.2
      rw [← HKK.out, hp.1.2]
      rw [IntKind.wrap_i64]; omega
    case round =>
      clear HR3 HB3 HQ3 HZ3 HZZ3 G3 HP3
      obtain ⟨i, p, e, cs, sl, rfl, hin, HR, HB, HQ, HZ, HO, HC, HG⟩ := hrel
      rcases Nat.lt_or_ge i 16 with hlt2 | hge
      · have f1 : (i : Int) < 16 := by omega
        have hwz := HC.out.2.2
        have hR0 := HR.out.1.past (.cells #[.string ⟨#[]⟩, .int .i64 0, .bool false] 81)
        have hrc : r ≠ wr.heap.size := by omega
        have HRA := hidm hR0
        have hBA := (But.refl r wr).alloc (.cells #[.string ⟨#[]⟩, .int .i64 0, .bool false] 81)
        have HBA := hidm hBA
        have HKA := hidm (heap_alloc_new wr (.cells #[.string ⟨#[]⟩, .int .i64 0, .bool false] 81))
        clear hR0 hBA
        go_wp2_with fail
        refine (text_uni r s p e _ HRA.out HR.out.2 hs).mono ?_
        rintro e' w4 ⟨l4, p4, e4, rfl, hr, hb, hp4, hl4, ht⟩
        have hk4 := hb.keeps (Ne.symm hrc) HKA.out
        obtain ⟨x0, x1, x2⟩ := three hk4
        have xf := frz hk4 0
        have HB4 := hidm ((HBA.out.trans hb).setNew (p := ⟨wr.heap.size, 0, none⟩) (Nat.le_refl _) (.string (S l4)))
        have HK4 := hidm (put0 (u := .string (S l4)) hk4)
        have HR4 := hidm (hr.other (a := ⟨wr.heap.size, 0, none⟩) hrc (.string (S l4)))
        have HP4 := hidm hp4
        have HL4 := hidm hl4
        have HT4 := hidm ht
        clear hr hb hp4 hl4 ht hk4 HBA HKA HRA
        go_wp2_with fail
        refine (num_uni r s p4 e4 _ HR4.out HP4.out hs).mono ?_
        rintro e' w5 ⟨v5, p5, e5, rfl, hr, hb, hp5, hv5, ht⟩
        clear x0 x1 x2 xf
        have hk5 := hb.keeps (Ne.symm hrc) HK4.out
        obtain ⟨x0, x1, x2⟩ := three hk5
        have xf := frz hk5 1
        obtain ⟨k5, hk5z⟩ : ∃ k, IntKind.i64.wrap (v5 : Int) = k := ⟨_, rfl⟩
        have hk5y : wrap64 (v5 : Int) = k5 := (wrap_is _).symm.trans hk5z
        have HK5Z := hidm hk5z
        have HB5 := hidm ((HB4.out.trans hb).setNew (p := ⟨wr.heap.size, 1, none⟩) (Nat.le_refl _) (.int .i64 k5))
        have HK5 := hidm (put1 (u := .int .i64 k5) hk5)
        have HR5 := hidm (hr.other (a := ⟨wr.heap.size, 1, none⟩) hrc (.int .i64 k5))
        have HP5 := hidm hp5
        have HT5 := hidm ht
        clear hr hb hp5 hv5 ht hk5 HB4 HK4 HR4
        go_wp2_with fail
        refine (num_uni r s p5 e5 _ HR5.out HP5.out hs).mono ?_
        rintro e' w6 ⟨v6, p6, e6, rfl, hr, hb, hp6, hv6, ht⟩
        clear x0 x1 x2 xf hk5z hk5y
        have hk6 := hb.keeps (Ne.symm hrc) HK5.out
        obtain ⟨x0, x1, x2⟩ := three hk6
        have xf := frz hk6 2
        obtain ⟨dd, hdd⟩ : ∃ d, ((v6 : Int) == 1) = d := ⟨_, rfl⟩
        have HDD := hidm hdd
        have HB6 := hidm ((HB5.out.trans hb).setNew (p := ⟨wr.heap.size, 2, none⟩) (Nat.le_refl _) (.bool dd))
        have HK6 := hidm (put2 (u := .bool dd) hk6)
        have HR6 := hidm (hr.other (a := ⟨wr.heap.size, 2, none⟩) hrc (.bool dd))
        have HP6 := hidm hp6
        have HT6 := hidm ht
        clear hr hb hp6 hv6 ht hk6 HB5 HK5 HR5
        have hq6 := HB6.out.keeps (Ne.symm hrq) HQ.out
        obtain ⟨y0, y1, y2⟩ := three hq6
        have yf := frz hq6 1
        have hown := owns_but HO.out (by omega) HB6.out
        have hlt6 := hown.lt
        have hsz6 := HB6.out.size
        simp only [World.size_setCell] at hsz6
        have HQ6 := hidm hq6
        have HZ6 := hidm (HB6.out.keeps (Ne.symm hrz) HZ.out)
        have hs6 : wr.heap.size < w6.heap.size := by have h := lt_of_block HK6.out; simpa using h
        clear hq6
        obtain ⟨so, sc, hsl⟩ : ∃ so sc, sl = .slice so i sc := by
          rcases HO.out.2 with ⟨hv, h0⟩ | ⟨g, cap, cur, hv, _⟩
          · exact ⟨none, 0, by rw [hv, h0]⟩
          · exact ⟨_, _, hv⟩
        subst hsl
        go_wp2_with (at_builtin; refine wpList_append_own _ rfl _ _ 28 rfl (w.heap.size + 2) 81 i0 (.agg #[.string ⟨#[]⟩, .int .i64 0, .bool false]) 3 32 Tryz.underlying28 hi hz0 hz1 hz2 rfl (by decide) _ _ _ rfl (hown.alloc _) ⟨w6.heap.size, 0, none⟩ 1 1 [.string (S l4), .int .i64 k5, .bool dd] rfl rfl ?CA2 ?CB2 ?CC2 ?CD2 ?CE2 ?_)
        case CA2 =>
          intro j y hj
          rcases cell_thr _ _ _ j y hj with ⟨rfl, rfl⟩ | ⟨rfl, rfl⟩ | ⟨rfl, rfl⟩ <;> simp [Addr.add, go_sem]
        case CB2 => intro y hy; simp at hy; rcases hy with rfl | rfl | rfl <;> rfl
        case CC2 => unfold maxLen; omega
        case CD2 => omega
        case CE2 => simp; omega
        intro v' w7 hown' hgrow _
        have hfl : cflat cs ++ [.string (S l4), .int .i64 k5, .bool dd] = cflat (cs ++ [⟨l4, k5, dd⟩]) := (cflat_snoc cs ⟨l4, k5, dd⟩).symm
        rw [hfl] at hown'
        have HO7 := hidm (owns_low (o := 1) (u := v') hown' (show w.heap.size + 1 < w.heap.size + 2 by omega))
        have hbz : Below (w6.setCell ⟨wr.heap.size, 2, none⟩ (.bool dd)).heap.size (w6.setCell ⟨wr.heap.size, 2, none⟩ (.bool dd)) ((w6.setCell ⟨wr.heap.size, 2, none⟩ (.bool dd)).alloc (.cells #[.string (S l4), .int .i64 k5, .bool dd] 81)) := (Below.refl _ _).alloc (Nat.le_refl _) _
        have hq7 := grown_keeps (below_keeps hbz HQ6.out) hgrow (fun g hg => by have := (hlt6 g hg).1; omega)
        have hz7 := grown_keeps (below_keeps hbz HZ6.out) hgrow (fun g hg => by have := (hlt6 g hg).1; omega)
        obtain ⟨u0, u1, u2⟩ := three hq7
        have uf := frz hq7 1
        have HQ7 := hidm (put1 (u := v') hq7)
        have HZ7 := hidm (put_other (c := w.heap.size + 1) (o := 1) (u := v') hz7 (by omega))
        have HR7 := hidm ((Rdr.grown (HR6.out.past (.cells #[.string (S l4), .int .i64 k5, .bool dd] 81)) hgrow (fun k hk => by have := (hlt6 k hk).1; omega)).other (a := ⟨w.heap.size + 1, 1, none⟩) hrq v')
        have HB7 := hidm ((But.grown ((HB.out.trans HB6.out).alloc (.cells #[.string (S l4), .int .i64 k5, .bool dd] 81)) hgrow (fun k hk => by have := (hlt6 k hk).1; omega)).setNew (p := ⟨w.heap.size + 1, 1, none⟩) (by simp) v')
        have HC7 := hidm (show (cs ++ [(⟨l4, k5, dd⟩ : C)]).length = i + 1 ∧ (∀ c ∈ cs ++ [(⟨l4, k5, dd⟩ : C)], c.nm.length ≤ s.size) ∧ w.heap.size + 2 ≤ (w7.setCell ⟨w.heap.size + 1, 1, none⟩ v').heap.size from ⟨by rw [List.length_append, HC.out.1]; rfl, fun c hc => by
          rcases List.mem_append.1 hc with h | h
          · exact HC.out.2.1 c h
          · rw [List.mem_singleton] at h; rw [h]; exact HL4.out, by have := hgrow.size; simp at this ⊢; omega⟩)
        have hg1 : GG s (fun t => ((l = t.nm ∧ kk = t.keys) ∧ (v3 = t.cols.length ∧ cs = t.cols.take i)) ∧ i < t.cols.length) e p (fun t => tB (cAt t i).nm ++ (uB (cAt t i).k.toNat ++ (uB (bitB (cAt t i)) ++ (t.cols.drop (i + 1)).flatMap colB))) :=
          GG.mono HG.out (fun t _ hp => by
            have hil : i < t.cols.length := by have := hp.2.1; omega
            exact ⟨⟨hp, hil⟩, rest_round hil⟩)
        have hg2 := GG.text hg1 (fun t h => by have := (cAt_len h i).1; omega) HT4.out
        have hg3 := GG.num (f := fun t => (cAt t i).k.toNat) hg2 (fun t h => by have := (cAt_len h i).2; omega) HT5.out
        have hg4 := GG.num (f := fun t => bitB (cAt t i)) hg3 (fun t h => by unfold bitB; split <;> omega) HT6.out
        have HG7 := hidm (show GG s (fun t => (l = t.nm ∧ kk = t.keys) ∧ (v3 = t.cols.length ∧ cs ++ [(⟨l4, k5, dd⟩ : C)] = t.cols.take (i + 1))) e6 p6 (fun t => (t.cols.drop (i + 1)).flatMap colB) from
          GG.mono hg4 (fun t hr hp => ⟨⟨hp.1.1.1.1.1, hp.1.1.1.1.2.1, cols_step hr hp.1.1.1.2 hp.1.1.1.1.2.2 hp.1.1.2 hp.1.2 hp.2 HK5Z.out HDD.out⟩, rfl⟩))
        obtain ⟨vo, vc, hvv⟩ : ∃ so sc, v' = .slice so (i + 1) sc := by
          rcases hown'.2 with ⟨hv, h0⟩ | ⟨g, cap, cur, hv, _⟩
          · exact absurd h0 (by omega)
          · exact ⟨_, _, hv⟩
        subst hvv
        clear hg1 hg2 hg3 hg4 hq7 hz7 hbz hfl hown' hgrow hlt6 hown x0 x1 x2 xf y0 y1 y2 yf hdd
        go_wp2
        go_roundw
        case rel => exact ⟨i + 1, p6, e6, cs ++ [⟨l4, k5, dd⟩], .slice vo (i + 1) vc, by go_num, by omega, hidm ⟨HR7.out, HP6.out⟩, HB7, HQ7, HZ7, HO7, HC7, HG7⟩
        case measure => simp [intOf]; omega
      · have hiN : 16 = i := by omega
        subst hiN
        obtain ⟨y0, y1, y2⟩ := three HQ.out
        obtain ⟨z0, z1, z2⟩ := three HZ.out
        have zf0 := frz HZ.out 0
        have zf1 := frz HZ.out 1
        have zf2 := frz HZ.out 2
        have hne : ¬ (w.heap.size + 1 = w.heap.size) := by omega
        obtain ⟨so, sc, hsl⟩ : ∃ so sc, sl = .slice so 16 sc := by
          rcases HO.out.2 with ⟨hv, h0⟩ | ⟨g, cap, cur, hv, _⟩
          · exact ⟨none, 0, by rw [hv, h0]⟩
          · exact ⟨_, _, hv⟩
        subst hsl
        have HO2 := hidm (owns_low (o := 2) (u := .int .i64 kk) (owns_low (o := 1) (u := .slice so 16 sc) (owns_low (o := 0) (u := .string (S l)) HO.out (show w.heap.size < w.heap.size + 2 by omega)) (show w.heap.size < w.heap.size + 2 by omega)) (show w.heap.size < w.heap.size + 2 by omega))
        have HB2 := hidm (((HB.out.setNew (p := ⟨w.heap.size, 0, none⟩) (Nat.le_refl _) (.string (S l))).setNew (p := ⟨w.heap.size, 1, none⟩) (Nat.le_refl _) (.slice so 16 sc)).setNew (p := ⟨w.heap.size, 2, none⟩) (Nat.le_refl _) (.int .i64 kk))
        obtain ⟨r0, r1, r2⟩ := three (put2 (u := .int .i64 kk) (put1 (u := .slice so 16 sc) (put0 (u := .string (S l)) HZ.out)))
        have R0 := hidm r0
        have R1 := hidm r1
        have R2 := hidm r2
        clear r0 r1 r2
        go_wp2_with fail
        refine bodyPost_ret (v := .agg #[.string (S l), .slice so 16 sc, .int .i64 kk]) (by simp [results, Tryz.results119, go_sem, R0.out, R1.out, R2.out]) rfl ?_
        have hcl : 16 = cs.length := HC.out.1.symm
        refine ⟨⟨l, cs, kk⟩, _, rfl, ColsAt.of_owns (by have h := HO2.out; rw [← HC.out.1]; rw [← HC.out.1] at h; exact h), HB2.out, HL.out, by show cs.length ≤ 16; omega, HC.out.2.1, fun q hr hb => ?_, (fresh_owns HO2.out).mono (by omega)⟩
        obtain ⟨⟨⟨h1, h2⟩, h3, h4⟩, _⟩ := HG.out q hr hb
        obtain ⟨qn, qc, qk⟩ := q
        have hq16 := (head_parts (right_head hr)).2.1
        simp only at h1 h2 h3 h4 hq16
        rw [List.take_of_length_le (by omega)] at h4
        rw [h1, h2, h4]
end Sch
end Go.Proofs.YtopmbhpjdmcabaaGreat
namespace Go.Proofs.YtopmbhpjdmcabaaGreat
open Go.RowKit
namespace Sch
open Cod
/-- What Decode comes to: the right schema whose bytes they are, or ErrForm, and there is none. -/
def DecP (M : Nat) (l : List UInt8) (w : World) (en : Ending) (w' : World) : Prop := ∃ (t : T) (sl : Value) (x : Int), en = .returned (.tuple #[.agg #[.string (S t.nm), sl, .int .i64 t.keys], .int .i64 x]) ∧ ColsAt t.cols sl w' ∧ Below w.heap.size w w' ∧ t.nm.length ≤ l.length ∧ t.cols.length ≤ M ∧ (∀ c ∈ t.cols, c.nm.length ≤ l.length) ∧
  ((x = 0 ∧ rightB t = true ∧ bodyB t = l ∧ ∀ q, rightB q = true → bodyB q = l → t = q) ∨ (x = 7 ∧ t = ⟨[], [], 0⟩ ∧ ∀ q, rightB q = true → bodyB q = l → False)) ∧ Fresh w.heap.size t.cols sl
/-- A slice's columns, when another block's three cells are stored to. -/
theorem ColsAt.put3 {cs : List C} {sl : Value} {w : World} {k : Nat} {a b d : Value} (h : ColsAt cs sl w) (hk : ∀ ao n cap, sl = .slice (some ao) n cap → cs ≠ [] → ao.block ≠ k) :
    ColsAt cs sl (((w.setCell ⟨k, 0, none⟩ a).setCell ⟨k, 1, none⟩ b).setCell ⟨k, 2, none⟩ d) := by
  obtain ⟨ao, cap, h1, hc, hm, h2⟩ := h
  refine ⟨ao, cap, h1, hc, hm, fun hne => ?_⟩
  obtain ⟨g, off, h3, h4, h5⟩ := h2 hne
  subst h3
  have hg : g ≠ k := hk _ _ _ h1 hne
  refine ⟨g, off, rfl, by simpa using h4, fun j hj => ?_⟩
  rw [World.cell?_setCell_other _ _ _ _ (fun e => hg (congrArg Addr.block e).symm), World.cell?_setCell_other _ _ _ _ (fun e => hg (congrArg Addr.block e).symm), World.cell?_setCell_other _ _ _ _ (fun e => hg (congrArg Addr.block e).symm)]
  exact h5 j hj
theorem encode_is {s : T} {l : List UInt8} (hx : encB s = l) (hl : Lim s) (sl : Value) (w : World) (h : ColsAt s.cols sl w) :
    Calls Tryz.prog 91 #[.agg #[.string (S s.nm), sl, .int .i64 s.keys]] w fun e w' => e = .returned (.string (S l)) ∧ Below w.heap.size w w' := hx ▸ encode_any s hl sl w h
set_option maxHeartbeats 4000000 in
set_option maxRecDepth 100000 in
theorem decode_any (l : List UInt8) (hl : l.length ≤ 100000) (w : World) :
    Calls Tryz.prog 99 #[.string (S l)] w fun en w' => DecP 16 l w en w' := by
  have hsz : (S l).size = l.length := S_size l
  have HZ := hidm (heap_alloc_new w (.cells #[.string ⟨#[]⟩, .slice none 0 0, .int .i64 0] 30))
  have HB := hidm (show Below w.heap.size w (w.alloc (.cells #[.string ⟨#[]⟩, .slice none 0 0, .int .i64 0] 30)) from (Below.refl _ _).alloc (Nat.le_refl _) _)
  have HSZ := hidm hsz
  clear hsz
  go_enter Tryz.func99, Tryz.ntmps99
  go_wp2_with fail
  refine (new_any (S l) _ (by rw [HSZ.out]; omega)).mono ?_
  rintro e w1 ⟨r, hrge, rfl, hr, hb⟩
  have hr1 : w.heap.size + 1 ≤ r := by simpa using hrge
  have hzr : w.heap.size ≠ r := by omega
  have HZ1 := hidm (below_keeps hb HZ.out)
  have HB1 := hidm (HB.out.trans (hb.mono (by simp)))
  have HR1 := hidm hr
  clear hrge hr hb HZ HB
  go_wp2_with fail
  refine (read_any r (S l) (by rw [HSZ.out]; omega) w1 HR1.out).mono ?_
  rintro e w2 ⟨t, sl, rfl, hc, hb, hn, hm, hcn, hq, hfr⟩
  rw [HSZ.out] at hn hcn
  have HC2 := hidm hc
  have HZ2 := hidm (hb.keeps hzr HZ1.out)
  have hbl : Below w.heap.size w w2 := But.then HB1.out hb (by omega) HB1.out.size
  have HB2 := hidm hbl
  have HT := hidm (show t.nm.length ≤ l.length ∧ t.cols.length ≤ 16 ∧ (∀ c ∈ t.cols, c.nm.length ≤ l.length) ∧ (∀ q, rightB q = true → bodyB q = l → t = q) from ⟨hn, hm, hcn, hq⟩)
  have HLM := hidm (show Lim t from ⟨by omega, fun c hc => by have := hcn c hc; omega, by omega⟩)
  obtain ⟨so, sc, hsl, _, _⟩ := hc.form
  subst hsl
  have HFR := hidm (hfr.mono HB1.out.size)
  have HNZ := hidm (show ∀ ao n cap, Value.slice so t.cols.length sc = .slice (some ao) n cap → t.cols ≠ [] → ao.block ≠ w.heap.size from fun ao n cap he hne => by
    obtain ⟨ao', cap', h1, _, _, h2⟩ := hc
    simp only [Value.slice.injEq, true_and] at h1 he
    obtain ⟨g, off, h3, h4, h5⟩ := h2 hne
    obtain ⟨e1, _⟩ := h1
    obtain ⟨e2, _⟩ := he
    rw [e2] at e1
    rw [← e1] at h3
    cases h3
    intro hg
    simp only at hg
    subst hg
    have hpos : 0 < t.cols.length := List.length_pos_iff.2 hne
    have hh := HZ2.out
    have a0 := h5 0 (by omega)
    have a1 := h5 1 (by omega)
    obtain ⟨x, xs, hx⟩ := List.exists_cons_of_ne_nil hne
    rw [hx] at a0 a1
    have e0 : (cflat (x :: xs))[0]? = some (.string (S x.nm)) := rfl
    have e1 : (cflat (x :: xs))[1]? = some (.int .i64 x.k) := rfl
    rw [e0] at a0
    rw [e1] at a1
    match off, a0, a1 with
    | 0, a0, a1 => simp [World.cell?, hh] at a1
    | 1, a0, a1 => simp [World.cell?, hh] at a0
    | 2, a0, a1 => simp [World.cell?, hh] at a0
    | o + 3, a0, a1 => simp [World.cell?, hh] at a0)
  clear hc hb hn hm hcn hq hfr hbl HZ1 HB1 HR1 hr1 hzr
  have hbA : Below w2.heap.size w2 (w2.alloc (.cells #[.string (S t.nm), .slice so t.cols.length sc, .int .i64 t.keys] 30)) := (Below.refl _ _).alloc (Nat.le_refl _) _
  have HC3 := hidm (HC2.out.later hbA)
  have HZ3 := hidm (below_keeps hbA HZ2.out)
  have HB3 := hidm (HB2.out.trans (hbA.mono HB2.out.size))
  have HK3 := hidm (heap_alloc_new w2 (.cells #[.string (S t.nm), .slice so t.cols.length sc, .int .i64 t.keys] 30))
  clear hbA
  rcases hrt : rightB t with _ | _
  · have R := right_is hrt HLM.out _ _ HC3.out
    have HNO := hidm (show ∀ q, rightB q = true → bodyB q = l → False from fun q h1 h2 => by
      rw [HT.out.2.2.2 q h1 h2, h1] at hrt; cases hrt)
    clear hrt
    go_wp2_with fail
    refine R.mono ?_
    rintro e w4 ⟨rfl, hb⟩
    have HZ4 := hidm (below_keeps hb HZ3.out)
    have HB4 := hidm (HB3.out.trans (hb.mono HB3.out.size))
    clear hb R HK3 HZ3 HZ2
    obtain ⟨z0, z1, z2⟩ := three HZ4.out
    have zf0 := frz HZ4.out 0
    have zf1 := frz HZ4.out 1
    have zf2 := frz HZ4.out 2
    obtain ⟨r0, r1, r2⟩ := three (put2 (u := .int .i64 0) (put1 (u := .slice none 0 0) (put0 (u := .string ⟨#[]⟩) HZ4.out)))
    have R0 := hidm r0
    have R1 := hidm r1
    have R2 := hidm r2
    have HBF := hidm (((HB4.out.setCell (p := ⟨w.heap.size, 0, none⟩) (Nat.le_refl _) (.string ⟨#[]⟩)).setCell (p := ⟨w.heap.size, 1, none⟩) (Nat.le_refl _) (.slice none 0 0)).setCell (p := ⟨w.heap.size, 2, none⟩) (Nat.le_refl _) (.int .i64 0))
    clear r0 r1 r2
    go_wp2_with fail
    refine bodyPost_ret (v := .tuple #[.agg #[.string ⟨#[]⟩, .slice none 0 0, .int .i64 0], .int .i64 7]) (by simp [results, Tryz.results99, go_sem, R0.out, R1.out, R2.out]) rfl ?_
    exact ⟨⟨[], [], 0⟩, .slice none 0 0, 7, rfl, ColsAt.nil _, HBF.out, by simp, by simp, by simp, .inr ⟨rfl, rfl, HNO.out⟩, Fresh.nil _ _⟩
  · have R := right_is hrt HLM.out _ _ HC3.out
    have HRT := hidm hrt
    have henc : encB t = bodyB t := by unfold encB; rw [if_pos hrt]
    have HENC := hidm henc
    clear hrt henc
    go_wp2_with fail
    refine R.mono ?_
    rintro e w4 ⟨rfl, hb⟩
    have HZ4 := hidm (below_keeps hb HZ3.out)
    have HB4 := hidm (HB3.out.trans (hb.mono HB3.out.size))
    have HC4 := hidm (HC3.out.later hb)
    have HK4 := hidm (below_keeps hb HK3.out)
    have E := encode_is HENC.out HLM.out _ w4 HC4.out
    obtain ⟨k0, k1, k2⟩ := three HK4.out
    clear hb R HK3 HZ3 HZ2
    go_wp2_with fail
    refine E.mono ?_
    rintro e w5 ⟨rfl, hb⟩
    have HZ5 := hidm (below_keeps hb HZ4.out)
    have HB5 := hidm (HB4.out.trans (hb.mono HB4.out.size))
    have HC5 := hidm (HC4.out.later hb)
    have HK5 := hidm (below_keeps hb HK4.out)
    clear hb E k0 k1 k2 HK4 HZ4 HB4 HC4 HB3 HC3 HB2 HC2
    by_cases heq : bodyB t = l
    · have HEQ := hidm heq
      have f1 : (bodyB t == l) = true := by simpa using heq
      have f2 : (bodyB t != l) = false := by simpa using heq
      clear heq
      obtain ⟨z0, z1, z2⟩ := three HZ5.out
      have zf0 := frz HZ5.out 0
      have zf1 := frz HZ5.out 1
      have zf2 := frz HZ5.out 2
      obtain ⟨x0, x1, x2⟩ := three HK5.out
      obtain ⟨r0, r1, r2⟩ := three (put2 (u := .int .i64 t.keys) (put1 (u := .slice so t.cols.length sc) (put0 (u := .string (S t.nm)) HZ5.out)))
      have R0 := hidm r0
      have R1 := hidm r1
      have R2 := hidm r2
      have HBF := hidm (((HB5.out.setCell (p := ⟨w.heap.size, 0, none⟩) (Nat.le_refl _) (.string (S t.nm))).setCell (p := ⟨w.heap.size, 1, none⟩) (Nat.le_refl _) (.slice so t.cols.length sc)).setCell (p := ⟨w.heap.size, 2, none⟩) (Nat.le_refl _) (.int .i64 t.keys))
      clear r0 r1 r2
      go_wp2_with fail
      refine bodyPost_ret (v := .tuple #[.agg #[.string (S t.nm), .slice so t.cols.length sc, .int .i64 t.keys], .int .i64 0]) (by simp [results, Tryz.results99, go_sem, R0.out, R1.out, R2.out]) rfl ?_
      exact ⟨t, _, 0, rfl, ColsAt.put3 HC5.out HNZ.out, HBF.out, HT.out.1, HT.out.2.1, HT.out.2.2.1, .inl ⟨rfl, HRT.out, HEQ.out, HT.out.2.2.2⟩, HFR.out⟩
    · have HNO := hidm (show ∀ q, rightB q = true → bodyB q = l → False from fun q h1 h2 => by
        rw [← HT.out.2.2.2 q h1 h2] at h2; exact heq h2)
      have f1 : (bodyB t == l) = false := by simpa using heq
      have f2 : (bodyB t != l) = true := by simpa using heq
      clear heq
      obtain ⟨z0, z1, z2⟩ := three HZ5.out
      have zf0 := frz HZ5.out 0
      have zf1 := frz HZ5.out 1
      have zf2 := frz HZ5.out 2
      obtain ⟨r0, r1, r2⟩ := three (put2 (u := .int .i64 0) (put1 (u := .slice none 0 0) (put0 (u := .string ⟨#[]⟩) HZ5.out)))
      have R0 := hidm r0
      have R1 := hidm r1
      have R2 := hidm r2
      have HBF := hidm (((HB5.out.setCell (p := ⟨w.heap.size, 0, none⟩) (Nat.le_refl _) (.string ⟨#[]⟩)).setCell (p := ⟨w.heap.size, 1, none⟩) (Nat.le_refl _) (.slice none 0 0)).setCell (p := ⟨w.heap.size, 2, none⟩) (Nat.le_refl _) (.int .i64 0))
      clear r0 r1 r2
      go_wp2_with fail
      refine bodyPost_ret (v := .tuple #[.agg #[.string ⟨#[]⟩, .slice none 0 0, .int .i64 0], .int .i64 7]) (by simp [results, Tryz.results99, go_sem, R0.out, R1.out, R2.out]) rfl ?_
      exact ⟨⟨[], [], 0⟩, .slice none 0 0, 7, rfl, ColsAt.nil _, HBF.out, by simp, by simp, by simp, .inr ⟨rfl, rfl, HNO.out⟩, Fresh.nil _ _⟩
end Sch
end Go.Proofs.YtopmbhpjdmcabaaGreat
