/- read of package frame. Condition: the bytes are at most 100000. -/
/- Decode of package frame. Condition: the bytes are at most 100000. -/
import Derived.Test.YtopmbhpjdmcabaaGreatMi
import Derived.Deep.AppendLies
import Derived.Test.YtopmbhpjdmcabaaGreatMan
namespace Go.Proofs.YtopmbhpjdmcabaaGreat
open Go.RowKit
namespace Frm
open Cod Sch
theorem infoM : (Tryz.prog.info? 32).map (fun i => (i.zero, i.size, i.bytes)) = some (some (.agg #[.int .i64 0, .string ⟨#[]⟩, .slice none 0 0, .int .i64 0, .int .i64 0, .string ⟨#[]⟩, .slice none 0 0, .int .i64 0]), 8, 112) := by kernel_rfl
/-- What is read comes to this transaction, if there is one whose body the bytes are. -/
def ReadX (r : Nat) (s : ByteArray) (w : World) (en : Ending) (w' : World) : Prop := ∃ (x : X), en = .returned x.agg ∧ x.In w' ∧ But r w w' ∧ x.l.length ≤ 100 ∧ (∀ c ∈ x.l, Small s.size c.c) ∧ (∀ q : Tx, txB q = true → q.wf → bodyT q = s.data.toList → x.tx = q) ∧ Fresh w.heap.size x.l (.slice x.co x.l.length x.cc) ∧ (∀ c ∈ x.l, c.From w.heap.size)
/-- What was read so far is what stands there. -/
def GX (s : ByteArray) (P : Tx → Prop) (e : Int) (p : Nat) (rest : Tx → List UInt8) : Prop := ∀ q : Tx, txB q = true → q.wf → bodyT q = s.data.toList → P q ∧ e = 0 ∧ s.data.toList.drop p = rest q
theorem body_form (q : Tx) : bodyT q = uB q.seq.toNat ++ (uB q.tm.toNat ++ (uB q.chs.length ++ q.chs.flatMap chBy)) := by
  unfold bodyT preT; rw [List.take_length]
theorem GX.num {s : ByteArray} {P : Tx → Prop} {e e' : Int} {p p' : Nat} {f : Tx → Nat} {g : Tx → List UInt8} {v : Nat} (h : GX s P e p (fun t => uB (f t) ++ g t)) (hf : ∀ t, txB t = true → f t < 18446744073709551616)
    (ht : ∀ n X, e = 0 → s.data.toList.drop p = uB n ++ X → n < 18446744073709551616 → v = n ∧ e' = 0 ∧ s.data.toList.drop p' = X) : GX s (fun t => P t ∧ v = f t) e' p' g := fun q h1 h2 h3 => by
  obtain ⟨a, b, c⟩ := h q h1 h2 h3
  obtain ⟨d, e2, f2⟩ := ht _ _ b c (hf q h1)
  exact ⟨⟨a, d⟩, e2, f2⟩
theorem GX.mono {s : ByteArray} {P Q : Tx → Prop} {e : Int} {p : Nat} {f g : Tx → List UInt8} (h : GX s P e p f) (hq : ∀ t, txB t = true → P t → Q t ∧ f t = g t) : GX s Q e p g := fun q h1 h2 h3 => by
  obtain ⟨a, b, c⟩ := h q h1 h2 h3
  obtain ⟨d, e2⟩ := hq q h1 a
  exact ⟨d, b, c.trans e2⟩
def Off (sl : Value) (x : M) : Prop := ∀ g, sl.ownBlock = some g → ¬ x.Blk g
structure El (B n : Nat) (sl : Value) (w : World) (x : M) : Prop where
  i : x.In w
  f : x.From B
  s : Small n x.c
  o : Off sl x
theorem El.but {B n r : Nat} {sl : Value} {w w' : World} {x : M} (h : El B n sl w x) (hr : r < B) (hb : But r w w') : El B n sl w' x := ⟨h.i.but h.f hr hb, h.f, h.s, h.o⟩
theorem El.later {B n : Nat} {sl : Value} {w w' : World} {x : M} (h : El B n sl w x) (hb : Below w.heap.size w w') : El B n sl w' x := ⟨h.i.later hb, h.f, h.s, h.o⟩
theorem El.put {B n c k : Nat} {sl u : Value} {w : World} {x : M} (h : El B n sl w x) (hr : c < B) : El B n sl (w.setCell ⟨c, k, none⟩ u) x := ⟨h.i.put h.f hr, h.f, h.s, h.o⟩
theorem El.grown {B n g H m cap : Nat} {sl : Value} {w w' : World} {x : M} (h : El B n sl w x) (hg : w.grownBy w' sl.ownBlock) (hH : w.heap.size = H) (hq : sl.ownBlock = some g ∨ g = H) : El B n (.slice (some ⟨g, 0, none⟩) m cap) w' x :=
  ⟨h.i.grown hg fun c hc => h.o c hc, h.f, h.s, fun g' e hx => by
    have e2 : g' = g := by simp only [Value.ownBlock, Option.some.injEq] at e; exact e.symm
    subst e2
    rcases hq with hq | hq
    · exact h.o _ hq hx
    · have := h.i.lt hx; omega⟩
set_option maxHeartbeats 4000000 in
set_option maxRecDepth 100000 in
theorem read_txn (r : Nat) (s : ByteArray) (hs : s.size ≤ 100000) (w : World) (hr : Rdr r s 0 0 w) :
    Calls Tryz.prog 48 #[.pointer (some ⟨r, 0, none⟩)] w fun en w' => ReadX r s w en w' := by
  obtain ⟨i0, hi, hz0, hz1, hz2⟩ := info_parts infoM
  have hs2 : s.size ≤ 281474976710656 := by omega
  have hlt := hr.lt
  have hrq : r ≠ w.heap.size + 1 := by omega
  have hrz : r ≠ w.heap.size := by omega
  have HR := hidm ((hr.past (.cells #[.int .i64 0, .int .i64 0, .slice none 0 0] 24)).past (.cells #[.int .i64 0, .int .i64 0, .slice none 0 0] 24))
  have HQ := hidm (show ((w.alloc (.cells #[.int .i64 0, .int .i64 0, .slice none 0 0] 24)).alloc (.cells #[.int .i64 0, .int .i64 0, .slice none 0 0] 24)).heap[w.heap.size + 1]? = some (.cells #[.int .i64 0, .int .i64 0, .slice none 0 0] 24 (0, 0)) from by have h := heap_alloc_new (w.alloc (.cells #[.int .i64 0, .int .i64 0, .slice none 0 0] 24)) (.cells #[.int .i64 0, .int .i64 0, .slice none 0 0] 24); simpa using h)
  have HZ := hidm (show ((w.alloc (.cells #[.int .i64 0, .int .i64 0, .slice none 0 0] 24)).alloc (.cells #[.int .i64 0, .int .i64 0, .slice none 0 0] 24)).heap[w.heap.size]? = some (.cells #[.int .i64 0, .int .i64 0, .slice none 0 0] 24 (0, 0)) from below_keeps ((Below.refl _ _).alloc (Nat.le_refl _) _) (heap_alloc_new w (.cells #[.int .i64 0, .int .i64 0, .slice none 0 0] 24)))
  have HB := hidm (((But.refl r w).alloc (.cells #[.int .i64 0, .int .i64 0, .slice none 0 0] 24)).alloc (.cells #[.int .i64 0, .int .i64 0, .slice none 0 0] 24))
  have HZZ := hidm (show w.heap.size + 2 ≤ ((w.alloc (.cells #[.int .i64 0, .int .i64 0, .slice none 0 0] 24)).alloc (.cells #[.int .i64 0, .int .i64 0, .slice none 0 0] 24)).heap.size from by simp)
  have G0 := hidm (show GX s (fun _ => True) 0 0 (fun q => uB q.seq.toNat ++ (uB q.tm.toNat ++ (uB q.chs.length ++ q.chs.flatMap chBy))) from fun q _ _ h3 => ⟨trivial, rfl, by rw [List.drop_zero, ← h3]; exact body_form q⟩)
  clear hr
  go_enter Tryz.func48, Tryz.ntmps48
  go_wp2_with fail
  refine (num_uni r s 0 0 _ HR.out (by omega) hs2).mono ?_
  rintro e w1 ⟨v1, p1, e1, rfl, hr, hb, hp1, hv1, ht⟩
  obtain ⟨k1, hk⟩ : ∃ k, IntKind.i64.wrap (v1 : Int) = k := ⟨_, rfl⟩
  have hk2 : wrap64 (v1 : Int) = k1 := (wrap_is _).symm.trans hk
  have HK1 := hidm hk
  have hq1 := hb.keeps (Ne.symm hrq) HQ.out
  obtain ⟨y0, y1, y2⟩ := three hq1
  have yf := frz hq1 0
  have HB1 := hidm ((HB.out.trans hb).setNew (p := ⟨w.heap.size + 1, 0, none⟩) (by simp) (.int .i64 k1))
  have HQ1 := hidm (put0 (u := .int .i64 k1) hq1)
  have HZ1 := hidm (put_other (c := w.heap.size + 1) (o := 0) (u := .int .i64 k1) (hb.keeps (Ne.symm hrz) HZ.out) (by omega))
  have HR1 := hidm (hr.other (a := ⟨w.heap.size + 1, 0, none⟩) hrq (.int .i64 k1))
  have HZZ1 := hidm (show w.heap.size + 2 ≤ (w1.setCell ⟨w.heap.size + 1, 0, none⟩ (.int .i64 k1)).heap.size from by have := HZZ.out; have := hb.size; simp only [World.size_setCell]; omega)
  have G1 := hidm (GX.num (f := fun t => t.seq.toNat) G0.out (fun t h => by have := tx_parts h; omega) ht)
  have HP1 := hidm hp1
  clear hr hb hp1 ht hq1 HB HQ HZ HR HZZ G0 hk hv1
  go_wp2_with fail
  refine (num_uni r s p1 e1 _ HR1.out HP1.out hs2).mono ?_
  rintro e w2 ⟨v2, p2, e2, rfl, hr, hb, hp2, hv2, ht⟩
  clear y0 y1 y2 yf hk2
  obtain ⟨k2, hk⟩ : ∃ k, IntKind.i64.wrap (v2 : Int) = k := ⟨_, rfl⟩
  have hk2 : wrap64 (v2 : Int) = k2 := (wrap_is _).symm.trans hk
  have HK2 := hidm hk
  have hq2 := hb.keeps (Ne.symm hrq) HQ1.out
  obtain ⟨y0, y1, y2⟩ := three hq2
  have yf := frz hq2 1
  have HB2 := hidm ((HB1.out.trans hb).setNew (p := ⟨w.heap.size + 1, 1, none⟩) (by simp) (.int .i64 k2))
  have HQ2 := hidm (put1 (u := .int .i64 k2) hq2)
  have HZ2 := hidm (put_other (c := w.heap.size + 1) (o := 1) (u := .int .i64 k2) (hb.keeps (Ne.symm hrz) HZ1.out) (by omega))
  have HR2 := hidm (hr.other (a := ⟨w.heap.size + 1, 1, none⟩) hrq (.int .i64 k2))
  have HZZ2 := hidm (show w.heap.size + 2 ≤ (w2.setCell ⟨w.heap.size + 1, 1, none⟩ (.int .i64 k2)).heap.size from by have := HZZ1.out; have := hb.size; simp only [World.size_setCell] at *; omega)
  have G2 := hidm (GX.num (f := fun t => t.tm.toNat) G1.out (fun t h => by have := tx_parts h; omega) ht)
  have HP2 := hidm hp2
  clear hr hb hp2 ht hq2 HB1 HQ1 HZ1 HR1 HZZ1 G1 HP1 hk hv2
  go_wp2_with fail
  refine (num_uni r s p2 e2 _ HR2.out HP2.out hs2).mono ?_
  rintro e w3 ⟨v3, p3, e3, rfl, hr, hb, hp3, hv3, ht⟩
  clear y0 y1 y2 yf hk2
  have HQ3 := hidm (hb.keeps (Ne.symm hrq) HQ2.out)
  have HZ3 := hidm (hb.keeps (Ne.symm hrz) HZ2.out)
  have HB3 := hidm (HB2.out.trans hb)
  have HR3 := hidm hr
  have HZZ3 := hidm (Nat.le_trans HZZ2.out hb.size)
  have G3 := hidm (GX.num (f := fun t => t.chs.length) G2.out (fun t h => by have := tx_parts h; omega) ht)
  have HP3 := hidm hp3
  clear hr hb hp3 ht HB2 HQ2 HZ2 HR2 HZZ2 G2 HP2
  have hv3b := hv3
  rcases Nat.lt_or_ge v3 100 with hn | hn
  · go_wp2_with fail
    go_loopw [15] (fun ii wr => ∃ (i p : Nat) (e : Int) (l : List M) (so : Option Addr) (sc : Nat), ii = .int .u64 i ∧ i ≤ v3 ∧ Hid (Rdr r s p e wr ∧ p ≤ s.size) ∧ Hid (But r w wr) ∧ Hid (wr.heap[w.heap.size + 1]? = some (.cells #[.int .i64 k1, .int .i64 k2, .slice so i sc] 24 (0, 0))) ∧ Hid (wr.heap[w.heap.size]? = some (.cells #[.int .i64 0, .int .i64 0, .slice none 0 0] 24 (0, 0))) ∧ Hid (wr.ownsRow (w.heap.size + 2) 32 8 (.slice so i sc) i (mflat l)) ∧ Hid (l.length = i ∧ w.heap.size + 2 ≤ wr.heap.size) ∧ Hid (∀ x ∈ l, El (w.heap.size + 2) s.size (.slice so i sc) wr x) ∧
      Hid (GX s (fun q => (k1 = q.seq ∧ k2 = q.tm) ∧ (v3 = q.chs.length ∧ l.map M.c = q.chs.take i)) e p (fun q => (q.chs.drop i).flatMap chBy))) (fun ii _ => v3 - (intOf ii).toNat)
    case atStart =>
      refine ⟨0, p3, e3, [], none, 0, rfl, by omega, hidm ⟨HR3.out, HP3.out⟩, HB3, HQ3, HZ3, hidm (World.ownsRow_nil _ _ _ _), hidm ⟨rfl, HZZ3.out⟩, hidm (fun x hx => by cases hx), hidm ?_⟩
      refine GX.mono G3.out (fun q hr hp => ⟨⟨⟨?_, ?_⟩, hp.2, by simp⟩, by simp⟩)
      · have h1 := tx_parts hr
        rw [← HK1.out, hp.1.1.2, wrap_small _ (by omega)]; omega
      · have h1 := tx_parts hr
        rw [← HK2.out, hp.1.2, wrap_small _ (by omega)]; omega
    case round =>
      clear HR3 HB3 HQ3 HZ3 HZZ3 G3 HP3
      obtain ⟨i, p, e, l, so, sc, rfl, hin, HR, HB, HQ, HZ, HO, HC, HE, HG⟩ := hrel
      rcases Nat.lt_or_ge i v3 with hlt2 | hge
      · have f1 : (i : Int) < v3 := by omega
        have hwz := HC.out.2
        have hi3 : i < v3 := by omega
        have hi100 : i < 100 := by omega
        have bd : Below wr.heap.size wr wr.drew := (Below.refl _ _).drew
        have HR0 := hidm (HR.out.1.later bd)
        have HQ0 := hidm (below_keeps bd HQ.out)
        have HZ0 := hidm (below_keeps bd HZ.out)
        have HB0 := hidm (HB.out.trans (.of bd))
        have HO0 := hidm (Cod.owns_later HO.out bd)
        have HE0 := hidm (fun y hy => (HE.out y hy).later bd)
        obtain ⟨y0, y1, y2⟩ := three HQ.out
        have bz : wr.drew.heap.size = wr.heap.size := rfl
        clear bd
        go_wp2_with fail
        refine wp_region_held_drew (S := fun _ => True) (by kernel_rfl) trivial (fun _ => ?_)
        refine Man.take1 (i := 0) (v := ?_) rfl (by kernel_rfl) (by kernel_rfl) (by kernel_rfl) (fun _ _ _ h => h) (by rfl) ?_ trivial ?_
        rotate_left
        · (intro u hSu; go_simp; (try with_reducible rfl))
        (try simp only [Act.put, List.setIfInBounds_toArray, List.set_cons_zero, List.set_cons_succ])
        refine Man.take1 (i := 2) (v := ?_) rfl (by kernel_rfl) (by kernel_rfl) (by kernel_rfl) (fun _ _ _ h => h) (by rfl) ?_ trivial ?_
        rotate_left
        · (intro u hSu; go_simp; (try with_reducible rfl))
        (try simp only [Act.put, List.setIfInBounds_toArray, List.set_cons_zero, List.set_cons_succ])
        refine Man.two (i := 1) (j := 3) rfl rfl (by kernel_rfl) (fun K hK => ?_) (fun K hK => ?_)
        · go_simp
          refine hK.out _ _ trivial (fun _ => ?_)
          clear hK K
          (try simp only [Act.put, List.setIfInBounds_toArray, List.set_cons_zero, List.set_cons_succ])
          refine Man.one (i := 3) rfl (by kernel_rfl) (fun K hK => ?_)
          go_simp
          go_at_call 74
          refine (readchange_any r s p e _ HR0.out HR.out.2 hs).mono ?_
          rintro e' w4 ⟨x, p4, e4, he4, hin, hfrom, hsm, hr, hb, hp4, ht⟩
          unfold M.agg at he4
          subst he4
          have hq4 := hb.keeps (Ne.symm hrq) HQ0.out
          have HZ4 := hidm (hb.keeps (Ne.symm hrz) HZ0.out)
          have HB4 := hidm (HB0.out.trans hb)
          have HR4 := hidm hr
          have HP4 := hidm hp4
          have HT4 := hidm ht
          have HO4 := hidm (Cod.owns_but HO0.out (by omega) hb)
          have HE4 := hidm (fun y hy => (HE0.out y hy).but (by omega : r < w.heap.size + 2) hb)
          have hsz4 := hb.size
          simp only [World.size_drew] at hsz4
          have HX4 := hidm (show El (w.heap.size + 2) s.size (.slice so i sc) w4 x from ⟨hin, hfrom.mono (by simp only [World.size_drew]; omega), hsm, fun g hg hx => by have h1 := (HO0.out.lt g hg).2; have h2 := hfrom g hx; omega⟩)
          have HQ4 := hidm hq4
          obtain ⟨t0, t1, t2⟩ := three hq4
          clear hin hfrom hsm hr hb hp4 ht hq4
          refine hK.out _ _ trivial (fun _ => ?_)
          clear hK K
          (try simp only [Act.put, List.setIfInBounds_toArray, List.set_cons_zero, List.set_cons_succ])
          refine Man.one (i := 4) rfl (by kernel_rfl) (fun K hK => ?_)
          go_simp
          refine hK.out _ _ trivial (fun _ => ?_)
          clear hK K
          (try simp only [Act.put, List.setIfInBounds_toArray, List.set_cons_zero, List.set_cons_succ])
          have hbA : Below w4.heap.size w4 (w4.alloc (.cells #[.int .i64 x.c.op, .string (S x.c.tb), .slice x.ro x.c.row.length x.rc, .int .i64 x.c.a, .int .i64 x.c.z, .string (S x.c.df.nm), .slice x.qo x.c.df.cols.length x.qc, .int .i64 x.c.df.keys] 32)) := (Below.refl _ _).alloc (Nat.le_refl _) _
          refine Man.one (i := 5) rfl (by kernel_rfl) (fun K hK => ?_)
          refine step_append_lies _ rfl _ _ 22 rfl (w.heap.size + 2) 32 i0 (.agg #[.int .i64 0, .string ⟨#[]⟩, .slice none 0 0, .int .i64 0, .int .i64 0, .string ⟨#[]⟩, .slice none 0 0, .int .i64 0]) 8 112 Tryz.underlying22 hi hz0 hz1 hz2 rfl (by decide) _ i (mflat l) rfl (Cod.owns_later HO4.out hbA) ⟨w4.heap.size, 0, none⟩ 1 1 x.cells ?a1xA rfl ?a2xA ?a3xA (by decide) ?a4xA ?a5xA ?a6xA _ rfl (fun g cap w7 hown hgrow hg hlt7 => ?_)
          case a1xA => first | rfl | (simp; done)
          case a2xA => intro j u hj; exact World.news_of_block (heap_alloc_new w4 (.cells #[.int .i64 x.c.op, .string (S x.c.tb), .slice x.ro x.c.row.length x.rc, .int .i64 x.c.a, .int .i64 x.c.z, .string (S x.c.df.nm), .slice x.qo x.c.df.cols.length x.qc, .int .i64 x.c.df.keys] 32)) j u hj
          case a3xA => intro u hu; simp [M.cells] at hu; rcases hu with rfl | rfl | rfl | rfl | rfl | rfl | rfl | rfl <;> rfl
          case a4xA => unfold maxLen; omega
          case a5xA => omega
          case a6xA => have := HC.out.2; simp only [World.size_alloc]; omega
          have hq7 := grown_keeps (below_keeps hbA HQ4.out) hgrow (fun g hg => by have := (HO4.out.lt g hg).1; omega)
          have hz7 := grown_keeps (below_keeps hbA HZ4.out) hgrow (fun g hg => by have := (HO4.out.lt g hg).1; omega)
          have HR7 := hidm ((Cod.Rdr.grown (HR4.out.past (.cells #[.int .i64 x.c.op, .string (S x.c.tb), .slice x.ro x.c.row.length x.rc, .int .i64 x.c.a, .int .i64 x.c.z, .string (S x.c.df.nm), .slice x.qo x.c.df.cols.length x.qc, .int .i64 x.c.df.keys] 32)) hgrow (fun k hk => by have := (HO4.out.lt k hk).1; omega)).other (a := ⟨w.heap.size + 1, 2, none⟩) hrq (.slice (some ⟨g, 0, none⟩) (i + 1) cap))
          have HB7 := hidm ((Cod.But.grown (HB4.out.alloc (.cells #[.int .i64 x.c.op, .string (S x.c.tb), .slice x.ro x.c.row.length x.rc, .int .i64 x.c.a, .int .i64 x.c.z, .string (S x.c.df.nm), .slice x.qo x.c.df.cols.length x.qc, .int .i64 x.c.df.keys] 32)) hgrow (fun k hk => by have := (HO4.out.lt k hk).1; omega)).setNew (p := ⟨w.heap.size + 1, 2, none⟩) (by simp) (.slice (some ⟨g, 0, none⟩) (i + 1) cap))
          rw [show mflat l ++ x.cells = mflat (l ++ [x]) from (mflat_snoc l x).symm] at hown
          have HO7 := hidm (owns_low (o := 2) (u := .slice (some ⟨g, 0, none⟩) (i + 1) cap) hown (show w.heap.size + 1 < w.heap.size + 2 by omega))
          have HE7 := hidm (show ∀ y ∈ l ++ [x], El (w.heap.size + 2) s.size (.slice (some ⟨g, 0, none⟩) (i + 1) cap) (w7.setCell ⟨w.heap.size + 1, 2, none⟩ (.slice (some ⟨g, 0, none⟩) (i + 1) cap)) y from fun y hy => by
            rcases List.mem_append.1 hy with h | h
            · exact (((HE4.out y h).later hbA).grown hgrow rfl hg).put (by omega)
            · rw [List.mem_singleton] at h
              rw [h]
              exact ((HX4.out.later hbA).grown hgrow rfl hg).put (by omega))
          have HC7 := hidm (show (l ++ [x]).length = i + 1 ∧ w.heap.size + 2 ≤ (w7.setCell ⟨w.heap.size + 1, 2, none⟩ (.slice (some ⟨g, 0, none⟩) (i + 1) cap)).heap.size from ⟨by rw [List.length_append, HC.out.1]; rfl, by have := hgrow.size; simp only [World.size_alloc, World.size_setCell] at this ⊢; have := HC.out.2; omega⟩)
          have HQ7 := hidm (put2 (u := .slice (some ⟨g, 0, none⟩) (i + 1) cap) hq7)
          have HZ7 := hidm (put_other (c := w.heap.size + 1) (o := 2) (u := .slice (some ⟨g, 0, none⟩) (i + 1) cap) hz7 (by omega))
          have HG7 := hidm (show GX s (fun q => (k1 = q.seq ∧ k2 = q.tm) ∧ (v3 = q.chs.length ∧ (l ++ [x]).map M.c = q.chs.take (i + 1))) e4 p4 (fun q => (q.chs.drop (i + 1)).flatMap chBy) from fun q h1 h2 h3 => by
            obtain ⟨⟨g1, g2, g3⟩, g4, g5⟩ := HG.out q h1 h2 h3
            have hil : i < q.chs.length := by omega
            obtain ⟨d1, d2, d3⟩ := HT4.out q.chs[i] ((q.chs.drop (i + 1)).flatMap chBy) g4 (by rw [g5]; show (q.chs.drop i).flatMap chBy = _; rw [List.drop_eq_getElem_cons hil, List.flatMap_cons]) ((tx_parts h1).2.2.2.2.2 _ (List.getElem_mem hil)) (h2 _ (List.getElem_mem hil))
            refine ⟨⟨g1, g2, ?_⟩, d2, d3⟩
            rw [List.map_append, g3, List.take_succ_eq_append_getElem hil]
            simp [d1])
          obtain ⟨u0, u1, u2⟩ := three hq7
          have uf := frz hq7 2
          clear hown hgrow hg hq7 hz7 hbA t0 t1 t2
          refine hK.out _ _ trivial (fun _ => ?_)
          clear hK K
          (try simp only [Act.put, List.setIfInBounds_toArray, List.set_cons_zero, List.set_cons_succ])
          refine Man.take1 (i := 6) (v := ?_) rfl (by kernel_rfl) (by kernel_rfl) (by kernel_rfl) (fun _ _ _ h => h) (by rfl) ?_ trivial ?_
          rotate_left
          · (intro u hSu; go_simp; (try with_reducible rfl))
          (try simp only [Act.put, List.setIfInBounds_toArray, List.set_cons_zero, List.set_cons_succ])
          refine Man.one (i := 7) rfl (by kernel_rfl) (fun K hK => ?_)
          go_simp
          refine hK.out _ _ trivial (fun _ => ?_)
          clear hK K
          (try simp only [Act.put, List.setIfInBounds_toArray, List.set_cons_zero, List.set_cons_succ])
          refine wpAnyH_done (by kernel_rfl) ?_ _
          go_wp2_with fail
          go_roundw
          case rel => exact ⟨i + 1, p4, e4, l ++ [x], some ⟨g, 0, none⟩, cap, by go_num, by omega, hidm ⟨HR7.out, HP4.out⟩, HB7, HQ7, HZ7, HO7, HC7, HE7, HG7⟩
          case measure => simp [intOf]; omega
        · go_simp
          go_at_call 74
          refine (readchange_any r s p e _ HR0.out HR.out.2 hs).mono ?_
          rintro e' w4 ⟨x, p4, e4, he4, hin, hfrom, hsm, hr, hb, hp4, ht⟩
          unfold M.agg at he4
          subst he4
          have hq4 := hb.keeps (Ne.symm hrq) HQ0.out
          have HZ4 := hidm (hb.keeps (Ne.symm hrz) HZ0.out)
          have HB4 := hidm (HB0.out.trans hb)
          have HR4 := hidm hr
          have HP4 := hidm hp4
          have HT4 := hidm ht
          have HO4 := hidm (Cod.owns_but HO0.out (by omega) hb)
          have HE4 := hidm (fun y hy => (HE0.out y hy).but (by omega : r < w.heap.size + 2) hb)
          have hsz4 := hb.size
          simp only [World.size_drew] at hsz4
          have HX4 := hidm (show El (w.heap.size + 2) s.size (.slice so i sc) w4 x from ⟨hin, hfrom.mono (by simp only [World.size_drew]; omega), hsm, fun g hg hx => by have h1 := (HO0.out.lt g hg).2; have h2 := hfrom g hx; omega⟩)
          have HQ4 := hidm hq4
          obtain ⟨t0, t1, t2⟩ := three hq4
          clear hin hfrom hsm hr hb hp4 ht hq4
          refine hK.out _ _ trivial (fun _ => ?_)
          clear hK K
          (try simp only [Act.put, List.setIfInBounds_toArray, List.set_cons_zero, List.set_cons_succ])
          refine Man.two (i := 1) (j := 4) rfl rfl (by kernel_rfl) (fun K hK => ?_) (fun K hK => ?_)
          · go_simp
            refine hK.out _ _ trivial (fun _ => ?_)
            clear hK K
            (try simp only [Act.put, List.setIfInBounds_toArray, List.set_cons_zero, List.set_cons_succ])
            refine Man.one (i := 4) rfl (by kernel_rfl) (fun K hK => ?_)
            go_simp
            refine hK.out _ _ trivial (fun _ => ?_)
            clear hK K
            (try simp only [Act.put, List.setIfInBounds_toArray, List.set_cons_zero, List.set_cons_succ])
            have hbA : Below w4.heap.size w4 (w4.alloc (.cells #[.int .i64 x.c.op, .string (S x.c.tb), .slice x.ro x.c.row.length x.rc, .int .i64 x.c.a, .int .i64 x.c.z, .string (S x.c.df.nm), .slice x.qo x.c.df.cols.length x.qc, .int .i64 x.c.df.keys] 32)) := (Below.refl _ _).alloc (Nat.le_refl _) _
            refine Man.one (i := 5) rfl (by kernel_rfl) (fun K hK => ?_)
            refine step_append_lies _ rfl _ _ 22 rfl (w.heap.size + 2) 32 i0 (.agg #[.int .i64 0, .string ⟨#[]⟩, .slice none 0 0, .int .i64 0, .int .i64 0, .string ⟨#[]⟩, .slice none 0 0, .int .i64 0]) 8 112 Tryz.underlying22 hi hz0 hz1 hz2 rfl (by decide) _ i (mflat l) rfl (Cod.owns_later HO4.out hbA) ⟨w4.heap.size, 0, none⟩ 1 1 x.cells ?a1yA rfl ?a2yA ?a3yA (by decide) ?a4yA ?a5yA ?a6yA _ rfl (fun g cap w7 hown hgrow hg hlt7 => ?_)
            case a1yA => first | rfl | (simp; done)
            case a2yA => intro j u hj; exact World.news_of_block (heap_alloc_new w4 (.cells #[.int .i64 x.c.op, .string (S x.c.tb), .slice x.ro x.c.row.length x.rc, .int .i64 x.c.a, .int .i64 x.c.z, .string (S x.c.df.nm), .slice x.qo x.c.df.cols.length x.qc, .int .i64 x.c.df.keys] 32)) j u hj
            case a3yA => intro u hu; simp [M.cells] at hu; rcases hu with rfl | rfl | rfl | rfl | rfl | rfl | rfl | rfl <;> rfl
            case a4yA => unfold maxLen; omega
            case a5yA => omega
            case a6yA => have := HC.out.2; simp only [World.size_alloc]; omega
            have hq7 := grown_keeps (below_keeps hbA HQ4.out) hgrow (fun g hg => by have := (HO4.out.lt g hg).1; omega)
            have hz7 := grown_keeps (below_keeps hbA HZ4.out) hgrow (fun g hg => by have := (HO4.out.lt g hg).1; omega)
            have HR7 := hidm ((Cod.Rdr.grown (HR4.out.past (.cells #[.int .i64 x.c.op, .string (S x.c.tb), .slice x.ro x.c.row.length x.rc, .int .i64 x.c.a, .int .i64 x.c.z, .string (S x.c.df.nm), .slice x.qo x.c.df.cols.length x.qc, .int .i64 x.c.df.keys] 32)) hgrow (fun k hk => by have := (HO4.out.lt k hk).1; omega)).other (a := ⟨w.heap.size + 1, 2, none⟩) hrq (.slice (some ⟨g, 0, none⟩) (i + 1) cap))
            have HB7 := hidm ((Cod.But.grown (HB4.out.alloc (.cells #[.int .i64 x.c.op, .string (S x.c.tb), .slice x.ro x.c.row.length x.rc, .int .i64 x.c.a, .int .i64 x.c.z, .string (S x.c.df.nm), .slice x.qo x.c.df.cols.length x.qc, .int .i64 x.c.df.keys] 32)) hgrow (fun k hk => by have := (HO4.out.lt k hk).1; omega)).setNew (p := ⟨w.heap.size + 1, 2, none⟩) (by simp) (.slice (some ⟨g, 0, none⟩) (i + 1) cap))
            rw [show mflat l ++ x.cells = mflat (l ++ [x]) from (mflat_snoc l x).symm] at hown
            have HO7 := hidm (owns_low (o := 2) (u := .slice (some ⟨g, 0, none⟩) (i + 1) cap) hown (show w.heap.size + 1 < w.heap.size + 2 by omega))
            have HE7 := hidm (show ∀ y ∈ l ++ [x], El (w.heap.size + 2) s.size (.slice (some ⟨g, 0, none⟩) (i + 1) cap) (w7.setCell ⟨w.heap.size + 1, 2, none⟩ (.slice (some ⟨g, 0, none⟩) (i + 1) cap)) y from fun y hy => by
              rcases List.mem_append.1 hy with h | h
              · exact (((HE4.out y h).later hbA).grown hgrow rfl hg).put (by omega)
              · rw [List.mem_singleton] at h
                rw [h]
                exact ((HX4.out.later hbA).grown hgrow rfl hg).put (by omega))
            have HC7 := hidm (show (l ++ [x]).length = i + 1 ∧ w.heap.size + 2 ≤ (w7.setCell ⟨w.heap.size + 1, 2, none⟩ (.slice (some ⟨g, 0, none⟩) (i + 1) cap)).heap.size from ⟨by rw [List.length_append, HC.out.1]; rfl, by have := hgrow.size; simp only [World.size_alloc, World.size_setCell] at this ⊢; have := HC.out.2; omega⟩)
            have HQ7 := hidm (put2 (u := .slice (some ⟨g, 0, none⟩) (i + 1) cap) hq7)
            have HZ7 := hidm (put_other (c := w.heap.size + 1) (o := 2) (u := .slice (some ⟨g, 0, none⟩) (i + 1) cap) hz7 (by omega))
            have HG7 := hidm (show GX s (fun q => (k1 = q.seq ∧ k2 = q.tm) ∧ (v3 = q.chs.length ∧ (l ++ [x]).map M.c = q.chs.take (i + 1))) e4 p4 (fun q => (q.chs.drop (i + 1)).flatMap chBy) from fun q h1 h2 h3 => by
              obtain ⟨⟨g1, g2, g3⟩, g4, g5⟩ := HG.out q h1 h2 h3
              have hil : i < q.chs.length := by omega
              obtain ⟨d1, d2, d3⟩ := HT4.out q.chs[i] ((q.chs.drop (i + 1)).flatMap chBy) g4 (by rw [g5]; show (q.chs.drop i).flatMap chBy = _; rw [List.drop_eq_getElem_cons hil, List.flatMap_cons]) ((tx_parts h1).2.2.2.2.2 _ (List.getElem_mem hil)) (h2 _ (List.getElem_mem hil))
              refine ⟨⟨g1, g2, ?_⟩, d2, d3⟩
              rw [List.map_append, g3, List.take_succ_eq_append_getElem hil]
              simp [d1])
            obtain ⟨u0, u1, u2⟩ := three hq7
            have uf := frz hq7 2
            clear hown hgrow hg hq7 hz7 hbA t0 t1 t2
            refine hK.out _ _ trivial (fun _ => ?_)
            clear hK K
            (try simp only [Act.put, List.setIfInBounds_toArray, List.set_cons_zero, List.set_cons_succ])
            refine Man.take1 (i := 6) (v := ?_) rfl (by kernel_rfl) (by kernel_rfl) (by kernel_rfl) (fun _ _ _ h => h) (by rfl) ?_ trivial ?_
            rotate_left
            · (intro u hSu; go_simp; (try with_reducible rfl))
            (try simp only [Act.put, List.setIfInBounds_toArray, List.set_cons_zero, List.set_cons_succ])
            refine Man.one (i := 7) rfl (by kernel_rfl) (fun K hK => ?_)
            go_simp
            refine hK.out _ _ trivial (fun _ => ?_)
            clear hK K
            (try simp only [Act.put, List.setIfInBounds_toArray, List.set_cons_zero, List.set_cons_succ])
            refine wpAnyH_done (by kernel_rfl) ?_ _
            go_wp2_with fail
            go_roundw
            case rel => exact ⟨i + 1, p4, e4, l ++ [x], some ⟨g, 0, none⟩, cap, by go_num, by omega, hidm ⟨HR7.out, HP4.out⟩, HB7, HQ7, HZ7, HO7, HC7, HE7, HG7⟩
            case measure => simp [intOf]; omega
          · go_simp
            refine hK.out _ _ trivial (fun _ => ?_)
            clear hK K
            (try simp only [Act.put, List.setIfInBounds_toArray, List.set_cons_zero, List.set_cons_succ])
            refine Man.one (i := 1) rfl (by kernel_rfl) (fun K hK => ?_)
            have ta2 := (three (below_keeps ((Below.refl _ _).alloc (Nat.le_refl _) (.cells #[.int .i64 x.c.op, .string (S x.c.tb), .slice x.ro x.c.row.length x.rc, .int .i64 x.c.a, .int .i64 x.c.z, .string (S x.c.df.nm), .slice x.qo x.c.df.cols.length x.qc, .int .i64 x.c.df.keys] 32) : Below w4.heap.size w4 (w4.alloc (.cells #[.int .i64 x.c.op, .string (S x.c.tb), .slice x.ro x.c.row.length x.rc, .int .i64 x.c.a, .int .i64 x.c.z, .string (S x.c.df.nm), .slice x.qo x.c.df.cols.length x.qc, .int .i64 x.c.df.keys] 32))) HQ4.out)).2.2
            go_simp
            refine hK.out _ _ trivial (fun _ => ?_)
            clear hK K
            (try simp only [Act.put, List.setIfInBounds_toArray, List.set_cons_zero, List.set_cons_succ])
            have hbA : Below w4.heap.size w4 (w4.alloc (.cells #[.int .i64 x.c.op, .string (S x.c.tb), .slice x.ro x.c.row.length x.rc, .int .i64 x.c.a, .int .i64 x.c.z, .string (S x.c.df.nm), .slice x.qo x.c.df.cols.length x.qc, .int .i64 x.c.df.keys] 32)) := (Below.refl _ _).alloc (Nat.le_refl _) _
            refine Man.one (i := 5) rfl (by kernel_rfl) (fun K hK => ?_)
            refine step_append_lies _ rfl _ _ 22 rfl (w.heap.size + 2) 32 i0 (.agg #[.int .i64 0, .string ⟨#[]⟩, .slice none 0 0, .int .i64 0, .int .i64 0, .string ⟨#[]⟩, .slice none 0 0, .int .i64 0]) 8 112 Tryz.underlying22 hi hz0 hz1 hz2 rfl (by decide) _ i (mflat l) rfl (Cod.owns_later HO4.out hbA) ⟨w4.heap.size, 0, none⟩ 1 1 x.cells ?a1zA rfl ?a2zA ?a3zA (by decide) ?a4zA ?a5zA ?a6zA _ rfl (fun g cap w7 hown hgrow hg hlt7 => ?_)
            case a1zA => first | rfl | (simp; done)
            case a2zA => intro j u hj; exact World.news_of_block (heap_alloc_new w4 (.cells #[.int .i64 x.c.op, .string (S x.c.tb), .slice x.ro x.c.row.length x.rc, .int .i64 x.c.a, .int .i64 x.c.z, .string (S x.c.df.nm), .slice x.qo x.c.df.cols.length x.qc, .int .i64 x.c.df.keys] 32)) j u hj
            case a3zA => intro u hu; simp [M.cells] at hu; rcases hu with rfl | rfl | rfl | rfl | rfl | rfl | rfl | rfl <;> rfl
            case a4zA => unfold maxLen; omega
            case a5zA => omega
            case a6zA => have := HC.out.2; simp only [World.size_alloc]; omega
            have hq7 := grown_keeps (below_keeps hbA HQ4.out) hgrow (fun g hg => by have := (HO4.out.lt g hg).1; omega)
            have hz7 := grown_keeps (below_keeps hbA HZ4.out) hgrow (fun g hg => by have := (HO4.out.lt g hg).1; omega)
            have HR7 := hidm ((Cod.Rdr.grown (HR4.out.past (.cells #[.int .i64 x.c.op, .string (S x.c.tb), .slice x.ro x.c.row.length x.rc, .int .i64 x.c.a, .int .i64 x.c.z, .string (S x.c.df.nm), .slice x.qo x.c.df.cols.length x.qc, .int .i64 x.c.df.keys] 32)) hgrow (fun k hk => by have := (HO4.out.lt k hk).1; omega)).other (a := ⟨w.heap.size + 1, 2, none⟩) hrq (.slice (some ⟨g, 0, none⟩) (i + 1) cap))
            have HB7 := hidm ((Cod.But.grown (HB4.out.alloc (.cells #[.int .i64 x.c.op, .string (S x.c.tb), .slice x.ro x.c.row.length x.rc, .int .i64 x.c.a, .int .i64 x.c.z, .string (S x.c.df.nm), .slice x.qo x.c.df.cols.length x.qc, .int .i64 x.c.df.keys] 32)) hgrow (fun k hk => by have := (HO4.out.lt k hk).1; omega)).setNew (p := ⟨w.heap.size + 1, 2, none⟩) (by simp) (.slice (some ⟨g, 0, none⟩) (i + 1) cap))
            rw [show mflat l ++ x.cells = mflat (l ++ [x]) from (mflat_snoc l x).symm] at hown
            have HO7 := hidm (owns_low (o := 2) (u := .slice (some ⟨g, 0, none⟩) (i + 1) cap) hown (show w.heap.size + 1 < w.heap.size + 2 by omega))
            have HE7 := hidm (show ∀ y ∈ l ++ [x], El (w.heap.size + 2) s.size (.slice (some ⟨g, 0, none⟩) (i + 1) cap) (w7.setCell ⟨w.heap.size + 1, 2, none⟩ (.slice (some ⟨g, 0, none⟩) (i + 1) cap)) y from fun y hy => by
              rcases List.mem_append.1 hy with h | h
              · exact (((HE4.out y h).later hbA).grown hgrow rfl hg).put (by omega)
              · rw [List.mem_singleton] at h
                rw [h]
                exact ((HX4.out.later hbA).grown hgrow rfl hg).put (by omega))
            have HC7 := hidm (show (l ++ [x]).length = i + 1 ∧ w.heap.size + 2 ≤ (w7.setCell ⟨w.heap.size + 1, 2, none⟩ (.slice (some ⟨g, 0, none⟩) (i + 1) cap)).heap.size from ⟨by rw [List.length_append, HC.out.1]; rfl, by have := hgrow.size; simp only [World.size_alloc, World.size_setCell] at this ⊢; have := HC.out.2; omega⟩)
            have HQ7 := hidm (put2 (u := .slice (some ⟨g, 0, none⟩) (i + 1) cap) hq7)
            have HZ7 := hidm (put_other (c := w.heap.size + 1) (o := 2) (u := .slice (some ⟨g, 0, none⟩) (i + 1) cap) hz7 (by omega))
            have HG7 := hidm (show GX s (fun q => (k1 = q.seq ∧ k2 = q.tm) ∧ (v3 = q.chs.length ∧ (l ++ [x]).map M.c = q.chs.take (i + 1))) e4 p4 (fun q => (q.chs.drop (i + 1)).flatMap chBy) from fun q h1 h2 h3 => by
              obtain ⟨⟨g1, g2, g3⟩, g4, g5⟩ := HG.out q h1 h2 h3
              have hil : i < q.chs.length := by omega
              obtain ⟨d1, d2, d3⟩ := HT4.out q.chs[i] ((q.chs.drop (i + 1)).flatMap chBy) g4 (by rw [g5]; show (q.chs.drop i).flatMap chBy = _; rw [List.drop_eq_getElem_cons hil, List.flatMap_cons]) ((tx_parts h1).2.2.2.2.2 _ (List.getElem_mem hil)) (h2 _ (List.getElem_mem hil))
              refine ⟨⟨g1, g2, ?_⟩, d2, d3⟩
              rw [List.map_append, g3, List.take_succ_eq_append_getElem hil]
              simp [d1])
            obtain ⟨u0, u1, u2⟩ := three hq7
            have uf := frz hq7 2
            clear hown hgrow hg hq7 hz7 hbA t0 t1 t2
            refine hK.out _ _ trivial (fun _ => ?_)
            clear hK K
            (try simp only [Act.put, List.setIfInBounds_toArray, List.set_cons_zero, List.set_cons_succ])
            refine Man.take1 (i := 6) (v := ?_) rfl (by kernel_rfl) (by kernel_rfl) (by kernel_rfl) (fun _ _ _ h => h) (by rfl) ?_ trivial ?_
            rotate_left
            · (intro u hSu; go_simp; (try with_reducible rfl))
            (try simp only [Act.put, List.setIfInBounds_toArray, List.set_cons_zero, List.set_cons_succ])
            refine Man.one (i := 7) rfl (by kernel_rfl) (fun K hK => ?_)
            go_simp
            refine hK.out _ _ trivial (fun _ => ?_)
            clear hK K
            (try simp only [Act.put, List.setIfInBounds_toArray, List.set_cons_zero, List.set_cons_succ])
            refine wpAnyH_done (by kernel_rfl) ?_ _
            go_wp2_with fail
            go_roundw
            case rel => exact ⟨i + 1, p4, e4, l ++ [x], some ⟨g, 0, none⟩, cap, by go_num, by omega, hidm ⟨HR7.out, HP4.out⟩, HB7, HQ7, HZ7, HO7, HC7, HE7, HG7⟩
            case measure => simp [intOf]; omega
      · have hiN : v3 = i := by omega
        subst hiN
        obtain ⟨y0, y1, y2⟩ := three HQ.out
        obtain ⟨z0, z1, z2⟩ := three HZ.out
        have zf0 := frz HZ.out 0
        have zf1 := frz HZ.out 1
        have zf2 := frz HZ.out 2
        have hne : ¬ (w.heap.size + 1 = w.heap.size) := by omega
        have HO2 := hidm (owns_low (o := 2) (u := .slice so v3 sc) (owns_low (o := 1) (u := .int .i64 k2) (owns_low (o := 0) (u := .int .i64 k1) HO.out (show w.heap.size < w.heap.size + 2 by omega)) (show w.heap.size < w.heap.size + 2 by omega)) (show w.heap.size < w.heap.size + 2 by omega))
        have HE2 := hidm (fun y hy => (((HE.out y hy).put (k := 0) (u := .int .i64 k1) (show w.heap.size < w.heap.size + 2 by omega)).put (k := 1) (u := .int .i64 k2) (show w.heap.size < w.heap.size + 2 by omega)).put (k := 2) (u := .slice so v3 sc) (show w.heap.size < w.heap.size + 2 by omega))
        have HB2 := hidm (((HB.out.setNew (p := ⟨w.heap.size, 0, none⟩) (Nat.le_refl _) (.int .i64 k1)).setNew (p := ⟨w.heap.size, 1, none⟩) (Nat.le_refl _) (.int .i64 k2)).setNew (p := ⟨w.heap.size, 2, none⟩) (Nat.le_refl _) (.slice so v3 sc))
        obtain ⟨r0, r1, r2⟩ := three (put2 (u := .slice so v3 sc) (put1 (u := .int .i64 k2) (put0 (u := .int .i64 k1) HZ.out)))
        have R0 := hidm r0
        have R1 := hidm r1
        have R2 := hidm r2
        clear r0 r1 r2
        go_wp2_with fail
        refine bodyPost_ret (v := .agg #[.int .i64 k1, .int .i64 k2, .slice so v3 sc]) (by simp [results, Tryz.results48, go_sem, R0.out, R1.out, R2.out]) rfl ?_
        have hcl : l.length = v3 := HC.out.1
        refine ⟨⟨k1, k2, l, so, sc⟩, by show Ending.returned _ = Ending.returned (.agg #[.int .i64 k1, .int .i64 k2, .slice so l.length sc]); rw [hcl], ?_, HB2.out, by show l.length ≤ 100; omega, fun y hy => (HE.out y hy).s, fun q h1 h2 h3 => ?_, by have h := fresh_owns (l := l) HO2.out; show Fresh w.heap.size l (.slice so l.length sc); rw [hcl]; exact h.mono (by omega), fun y hy => (HE.out y hy).f.mono (by omega)⟩
        · show MsAt l (.slice so l.length sc) _
          refine MsAt.of_owns (base := w.heap.size + 2) ?_ (fun y hy => (HE2.out y hy).i)
          rw [hcl]; exact HO2.out
        · obtain ⟨⟨⟨g1, g2⟩, g3, g4⟩, _⟩ := HG.out q h1 h2 h3
          obtain ⟨qs, qt, qc⟩ := q
          have hq100 : qc.length ≤ 100 := (tx_parts h1).2.2.2.2.1
          simp only at g1 g2 g3 g4
          rw [List.take_of_length_le (by omega)] at g4
          show (⟨k1, k2, l.map M.c⟩ : Tx) = _
          rw [g1, g2, g4]
  · go_wp2_with fail
    go_loopw [15] (fun ii wr => ∃ (i p : Nat) (e : Int) (l : List M) (so : Option Addr) (sc : Nat), ii = .int .u64 i ∧ i ≤ 100 ∧ Hid (Rdr r s p e wr ∧ p ≤ s.size) ∧ Hid (But r w wr) ∧ Hid (wr.heap[w.heap.size + 1]? = some (.cells #[.int .i64 k1, .int .i64 k2, .slice so i sc] 24 (0, 0))) ∧ Hid (wr.heap[w.heap.size]? = some (.cells #[.int .i64 0, .int .i64 0, .slice none 0 0] 24 (0, 0))) ∧ Hid (wr.ownsRow (w.heap.size + 2) 32 8 (.slice so i sc) i (mflat l)) ∧ Hid (l.length = i ∧ w.heap.size + 2 ≤ wr.heap.size) ∧ Hid (∀ x ∈ l, El (w.heap.size + 2) s.size (.slice so i sc) wr x) ∧
      Hid (GX s (fun q => (k1 = q.seq ∧ k2 = q.tm) ∧ (v3 = q.chs.length ∧ l.map M.c = q.chs.take i)) e p (fun q => (q.chs.drop i).flatMap chBy))) (fun ii _ => 100 - (intOf ii).toNat)
    case atStart =>
      refine ⟨0, p3, e3, [], none, 0, rfl, by omega, hidm ⟨HR3.out, HP3.out⟩, HB3, HQ3, HZ3, hidm (World.ownsRow_nil _ _ _ _), hidm ⟨rfl, HZZ3.out⟩, hidm (fun x hx => by cases hx), hidm ?_⟩
      refine GX.mono G3.out (fun q hr hp => ⟨⟨⟨?_, ?_⟩, hp.2, by simp⟩, by simp⟩)
      · have h1 := tx_parts hr
        rw [← HK1.out, hp.1.1.2, wrap_small _ (by omega)]; omega
      · have h1 := tx_parts hr
        rw [← HK2.out, hp.1.2, wrap_small _ (by omega)]; omega
    case round =>
      clear HR3 HB3 HQ3 HZ3 HZZ3 G3 HP3
      obtain ⟨i, p, e, l, so, sc, rfl, hin, HR, HB, HQ, HZ, HO, HC, HE, HG⟩ := hrel
      rcases Nat.lt_or_ge i 100 with hlt2 | hge
      · have f1 : (i : Int) < 100 := by omega
        have hwz := HC.out.2
        have hi3 : i < v3 := by omega
        have hi100 : i < 100 := by omega
        have bd : Below wr.heap.size wr wr.drew := (Below.refl _ _).drew
        have HR0 := hidm (HR.out.1.later bd)
        have HQ0 := hidm (below_keeps bd HQ.out)
        have HZ0 := hidm (below_keeps bd HZ.out)
        have HB0 := hidm (HB.out.trans (.of bd))
        have HO0 := hidm (Cod.owns_later HO.out bd)
        have HE0 := hidm (fun y hy => (HE.out y hy).later bd)
        obtain ⟨y0, y1, y2⟩ := three HQ.out
        have bz : wr.drew.heap.size = wr.heap.size := rfl
        clear bd
        go_wp2_with fail
        refine wp_region_held_drew (S := fun _ => True) (by kernel_rfl) trivial (fun _ => ?_)
        refine Man.take1 (i := 0) (v := ?_) rfl (by kernel_rfl) (by kernel_rfl) (by kernel_rfl) (fun _ _ _ h => h) (by rfl) ?_ trivial ?_
        rotate_left
        · (intro u hSu; go_simp; (try with_reducible rfl))
        (try simp only [Act.put, List.setIfInBounds_toArray, List.set_cons_zero, List.set_cons_succ])
        refine Man.take1 (i := 2) (v := ?_) rfl (by kernel_rfl) (by kernel_rfl) (by kernel_rfl) (fun _ _ _ h => h) (by rfl) ?_ trivial ?_
        rotate_left
        · (intro u hSu; go_simp; (try with_reducible rfl))
        (try simp only [Act.put, List.setIfInBounds_toArray, List.set_cons_zero, List.set_cons_succ])
        refine Man.two (i := 1) (j := 3) rfl rfl (by kernel_rfl) (fun K hK => ?_) (fun K hK => ?_)
        · go_simp
          refine hK.out _ _ trivial (fun _ => ?_)
          clear hK K
          (try simp only [Act.put, List.setIfInBounds_toArray, List.set_cons_zero, List.set_cons_succ])
          refine Man.one (i := 3) rfl (by kernel_rfl) (fun K hK => ?_)
          go_simp
          go_at_call 74
          refine (readchange_any r s p e _ HR0.out HR.out.2 hs).mono ?_
          rintro e' w4 ⟨x, p4, e4, he4, hin, hfrom, hsm, hr, hb, hp4, ht⟩
          unfold M.agg at he4
          subst he4
          have hq4 := hb.keeps (Ne.symm hrq) HQ0.out
          have HZ4 := hidm (hb.keeps (Ne.symm hrz) HZ0.out)
          have HB4 := hidm (HB0.out.trans hb)
          have HR4 := hidm hr
          have HP4 := hidm hp4
          have HT4 := hidm ht
          have HO4 := hidm (Cod.owns_but HO0.out (by omega) hb)
          have HE4 := hidm (fun y hy => (HE0.out y hy).but (by omega : r < w.heap.size + 2) hb)
          have hsz4 := hb.size
          simp only [World.size_drew] at hsz4
          have HX4 := hidm (show El (w.heap.size + 2) s.size (.slice so i sc) w4 x from ⟨hin, hfrom.mono (by simp only [World.size_drew]; omega), hsm, fun g hg hx => by have h1 := (HO0.out.lt g hg).2; have h2 := hfrom g hx; omega⟩)
          have HQ4 := hidm hq4
          obtain ⟨t0, t1, t2⟩ := three hq4
          clear hin hfrom hsm hr hb hp4 ht hq4
          refine hK.out _ _ trivial (fun _ => ?_)
          clear hK K
          (try simp only [Act.put, List.setIfInBounds_toArray, List.set_cons_zero, List.set_cons_succ])
          refine Man.one (i := 4) rfl (by kernel_rfl) (fun K hK => ?_)
          go_simp
          refine hK.out _ _ trivial (fun _ => ?_)
          clear hK K
          (try simp only [Act.put, List.setIfInBounds_toArray, List.set_cons_zero, List.set_cons_succ])
          have hbA : Below w4.heap.size w4 (w4.alloc (.cells #[.int .i64 x.c.op, .string (S x.c.tb), .slice x.ro x.c.row.length x.rc, .int .i64 x.c.a, .int .i64 x.c.z, .string (S x.c.df.nm), .slice x.qo x.c.df.cols.length x.qc, .int .i64 x.c.df.keys] 32)) := (Below.refl _ _).alloc (Nat.le_refl _) _
          refine Man.one (i := 5) rfl (by kernel_rfl) (fun K hK => ?_)
          refine step_append_lies _ rfl _ _ 22 rfl (w.heap.size + 2) 32 i0 (.agg #[.int .i64 0, .string ⟨#[]⟩, .slice none 0 0, .int .i64 0, .int .i64 0, .string ⟨#[]⟩, .slice none 0 0, .int .i64 0]) 8 112 Tryz.underlying22 hi hz0 hz1 hz2 rfl (by decide) _ i (mflat l) rfl (Cod.owns_later HO4.out hbA) ⟨w4.heap.size, 0, none⟩ 1 1 x.cells ?a1xB rfl ?a2xB ?a3xB (by decide) ?a4xB ?a5xB ?a6xB _ rfl (fun g cap w7 hown hgrow hg hlt7 => ?_)
          case a1xB => first | rfl | (simp; done)
          case a2xB => intro j u hj; exact World.news_of_block (heap_alloc_new w4 (.cells #[.int .i64 x.c.op, .string (S x.c.tb), .slice x.ro x.c.row.length x.rc, .int .i64 x.c.a, .int .i64 x.c.z, .string (S x.c.df.nm), .slice x.qo x.c.df.cols.length x.qc, .int .i64 x.c.df.keys] 32)) j u hj
          case a3xB => intro u hu; simp [M.cells] at hu; rcases hu with rfl | rfl | rfl | rfl | rfl | rfl | rfl | rfl <;> rfl
          case a4xB => unfold maxLen; omega
          case a5xB => omega
          case a6xB => have := HC.out.2; simp only [World.size_alloc]; omega
          have hq7 := grown_keeps (below_keeps hbA HQ4.out) hgrow (fun g hg => by have := (HO4.out.lt g hg).1; omega)
          have hz7 := grown_keeps (below_keeps hbA HZ4.out) hgrow (fun g hg => by have := (HO4.out.lt g hg).1; omega)
          have HR7 := hidm ((Cod.Rdr.grown (HR4.out.past (.cells #[.int .i64 x.c.op, .string (S x.c.tb), .slice x.ro x.c.row.length x.rc, .int .i64 x.c.a, .int .i64 x.c.z, .string (S x.c.df.nm), .slice x.qo x.c.df.cols.length x.qc, .int .i64 x.c.df.keys] 32)) hgrow (fun k hk => by have := (HO4.out.lt k hk).1; omega)).other (a := ⟨w.heap.size + 1, 2, none⟩) hrq (.slice (some ⟨g, 0, none⟩) (i + 1) cap))
          have HB7 := hidm ((Cod.But.grown (HB4.out.alloc (.cells #[.int .i64 x.c.op, .string (S x.c.tb), .slice x.ro x.c.row.length x.rc, .int .i64 x.c.a, .int .i64 x.c.z, .string (S x.c.df.nm), .slice x.qo x.c.df.cols.length x.qc, .int .i64 x.c.df.keys] 32)) hgrow (fun k hk => by have := (HO4.out.lt k hk).1; omega)).setNew (p := ⟨w.heap.size + 1, 2, none⟩) (by simp) (.slice (some ⟨g, 0, none⟩) (i + 1) cap))
          rw [show mflat l ++ x.cells = mflat (l ++ [x]) from (mflat_snoc l x).symm] at hown
          have HO7 := hidm (owns_low (o := 2) (u := .slice (some ⟨g, 0, none⟩) (i + 1) cap) hown (show w.heap.size + 1 < w.heap.size + 2 by omega))
          have HE7 := hidm (show ∀ y ∈ l ++ [x], El (w.heap.size + 2) s.size (.slice (some ⟨g, 0, none⟩) (i + 1) cap) (w7.setCell ⟨w.heap.size + 1, 2, none⟩ (.slice (some ⟨g, 0, none⟩) (i + 1) cap)) y from fun y hy => by
            rcases List.mem_append.1 hy with h | h
            · exact (((HE4.out y h).later hbA).grown hgrow rfl hg).put (by omega)
            · rw [List.mem_singleton] at h
              rw [h]
              exact ((HX4.out.later hbA).grown hgrow rfl hg).put (by omega))
          have HC7 := hidm (show (l ++ [x]).length = i + 1 ∧ w.heap.size + 2 ≤ (w7.setCell ⟨w.heap.size + 1, 2, none⟩ (.slice (some ⟨g, 0, none⟩) (i + 1) cap)).heap.size from ⟨by rw [List.length_append, HC.out.1]; rfl, by have := hgrow.size; simp only [World.size_alloc, World.size_setCell] at this ⊢; have := HC.out.2; omega⟩)
          have HQ7 := hidm (put2 (u := .slice (some ⟨g, 0, none⟩) (i + 1) cap) hq7)
          have HZ7 := hidm (put_other (c := w.heap.size + 1) (o := 2) (u := .slice (some ⟨g, 0, none⟩) (i + 1) cap) hz7 (by omega))
          have HG7 := hidm (show GX s (fun q => (k1 = q.seq ∧ k2 = q.tm) ∧ (v3 = q.chs.length ∧ (l ++ [x]).map M.c = q.chs.take (i + 1))) e4 p4 (fun q => (q.chs.drop (i + 1)).flatMap chBy) from fun q h1 h2 h3 => by
            obtain ⟨⟨g1, g2, g3⟩, g4, g5⟩ := HG.out q h1 h2 h3
            have hil : i < q.chs.length := by omega
            obtain ⟨d1, d2, d3⟩ := HT4.out q.chs[i] ((q.chs.drop (i + 1)).flatMap chBy) g4 (by rw [g5]; show (q.chs.drop i).flatMap chBy = _; rw [List.drop_eq_getElem_cons hil, List.flatMap_cons]) ((tx_parts h1).2.2.2.2.2 _ (List.getElem_mem hil)) (h2 _ (List.getElem_mem hil))
            refine ⟨⟨g1, g2, ?_⟩, d2, d3⟩
            rw [List.map_append, g3, List.take_succ_eq_append_getElem hil]
            simp [d1])
          obtain ⟨u0, u1, u2⟩ := three hq7
          have uf := frz hq7 2
          clear hown hgrow hg hq7 hz7 hbA t0 t1 t2
          refine hK.out _ _ trivial (fun _ => ?_)
          clear hK K
          (try simp only [Act.put, List.setIfInBounds_toArray, List.set_cons_zero, List.set_cons_succ])
          refine Man.take1 (i := 6) (v := ?_) rfl (by kernel_rfl) (by kernel_rfl) (by kernel_rfl) (fun _ _ _ h => h) (by rfl) ?_ trivial ?_
          rotate_left
          · (intro u hSu; go_simp; (try with_reducible rfl))
          (try simp only [Act.put, List.setIfInBounds_toArray, List.set_cons_zero, List.set_cons_succ])
          refine Man.one (i := 7) rfl (by kernel_rfl) (fun K hK => ?_)
          go_simp
          refine hK.out _ _ trivial (fun _ => ?_)
          clear hK K
          (try simp only [Act.put, List.setIfInBounds_toArray, List.set_cons_zero, List.set_cons_succ])
          refine wpAnyH_done (by kernel_rfl) ?_ _
          go_wp2_with fail
          go_roundw
          case rel => exact ⟨i + 1, p4, e4, l ++ [x], some ⟨g, 0, none⟩, cap, by go_num, by omega, hidm ⟨HR7.out, HP4.out⟩, HB7, HQ7, HZ7, HO7, HC7, HE7, HG7⟩
          case measure => simp [intOf]; omega
        · go_simp
          go_at_call 74
          refine (readchange_any r s p e _ HR0.out HR.out.2 hs).mono ?_
          rintro e' w4 ⟨x, p4, e4, he4, hin, hfrom, hsm, hr, hb, hp4, ht⟩
          unfold M.agg at he4
          subst he4
          have hq4 := hb.keeps (Ne.symm hrq) HQ0.out
          have HZ4 := hidm (hb.keeps (Ne.symm hrz) HZ0.out)
          have HB4 := hidm (HB0.out.trans hb)
          have HR4 := hidm hr
          have HP4 := hidm hp4
          have HT4 := hidm ht
          have HO4 := hidm (Cod.owns_but HO0.out (by omega) hb)
          have HE4 := hidm (fun y hy => (HE0.out y hy).but (by omega : r < w.heap.size + 2) hb)
          have hsz4 := hb.size
          simp only [World.size_drew] at hsz4
          have HX4 := hidm (show El (w.heap.size + 2) s.size (.slice so i sc) w4 x from ⟨hin, hfrom.mono (by simp only [World.size_drew]; omega), hsm, fun g hg hx => by have h1 := (HO0.out.lt g hg).2; have h2 := hfrom g hx; omega⟩)
          have HQ4 := hidm hq4
          obtain ⟨t0, t1, t2⟩ := three hq4
          clear hin hfrom hsm hr hb hp4 ht hq4
          refine hK.out _ _ trivial (fun _ => ?_)
          clear hK K
          (try simp only [Act.put, List.setIfInBounds_toArray, List.set_cons_zero, List.set_cons_succ])
          refine Man.two (i := 1) (j := 4) rfl rfl (by kernel_rfl) (fun K hK => ?_) (fun K hK => ?_)
          · go_simp
            refine hK.out _ _ trivial (fun _ => ?_)
            clear hK K
            (try simp only [Act.put, List.setIfInBounds_toArray, List.set_cons_zero, List.set_cons_succ])
            refine Man.one (i := 4) rfl (by kernel_rfl) (fun K hK => ?_)
            go_simp
            refine hK.out _ _ trivial (fun _ => ?_)
            clear hK K
            (try simp only [Act.put, List.setIfInBounds_toArray, List.set_cons_zero, List.set_cons_succ])
            have hbA : Below w4.heap.size w4 (w4.alloc (.cells #[.int .i64 x.c.op, .string (S x.c.tb), .slice x.ro x.c.row.length x.rc, .int .i64 x.c.a, .int .i64 x.c.z, .string (S x.c.df.nm), .slice x.qo x.c.df.cols.length x.qc, .int .i64 x.c.df.keys] 32)) := (Below.refl _ _).alloc (Nat.le_refl _) _
            refine Man.one (i := 5) rfl (by kernel_rfl) (fun K hK => ?_)
            refine step_append_lies _ rfl _ _ 22 rfl (w.heap.size + 2) 32 i0 (.agg #[.int .i64 0, .string ⟨#[]⟩, .slice none 0 0, .int .i64 0, .int .i64 0, .string ⟨#[]⟩, .slice none 0 0, .int .i64 0]) 8 112 Tryz.underlying22 hi hz0 hz1 hz2 rfl (by decide) _ i (mflat l) rfl (Cod.owns_later HO4.out hbA) ⟨w4.heap.size, 0, none⟩ 1 1 x.cells ?a1yB rfl ?a2yB ?a3yB (by decide) ?a4yB ?a5yB ?a6yB _ rfl (fun g cap w7 hown hgrow hg hlt7 => ?_)
            case a1yB => first | rfl | (simp; done)
            case a2yB => intro j u hj; exact World.news_of_block (heap_alloc_new w4 (.cells #[.int .i64 x.c.op, .string (S x.c.tb), .slice x.ro x.c.row.length x.rc, .int .i64 x.c.a, .int .i64 x.c.z, .string (S x.c.df.nm), .slice x.qo x.c.df.cols.length x.qc, .int .i64 x.c.df.keys] 32)) j u hj
            case a3yB => intro u hu; simp [M.cells] at hu; rcases hu with rfl | rfl | rfl | rfl | rfl | rfl | rfl | rfl <;> rfl
            case a4yB => unfold maxLen; omega
            case a5yB => omega
            case a6yB => have := HC.out.2; simp only [World.size_alloc]; omega
            have hq7 := grown_keeps (below_keeps hbA HQ4.out) hgrow (fun g hg => by have := (HO4.out.lt g hg).1; omega)
            have hz7 := grown_keeps (below_keeps hbA HZ4.out) hgrow (fun g hg => by have := (HO4.out.lt g hg).1; omega)
            have HR7 := hidm ((Cod.Rdr.grown (HR4.out.past (.cells #[.int .i64 x.c.op, .string (S x.c.tb), .slice x.ro x.c.row.length x.rc, .int .i64 x.c.a, .int .i64 x.c.z, .string (S x.c.df.nm), .slice x.qo x.c.df.cols.length x.qc, .int .i64 x.c.df.keys] 32)) hgrow (fun k hk => by have := (HO4.out.lt k hk).1; omega)).other (a := ⟨w.heap.size + 1, 2, none⟩) hrq (.slice (some ⟨g, 0, none⟩) (i + 1) cap))
            have HB7 := hidm ((Cod.But.grown (HB4.out.alloc (.cells #[.int .i64 x.c.op, .string (S x.c.tb), .slice x.ro x.c.row.length x.rc, .int .i64 x.c.a, .int .i64 x.c.z, .string (S x.c.df.nm), .slice x.qo x.c.df.cols.length x.qc, .int .i64 x.c.df.keys] 32)) hgrow (fun k hk => by have := (HO4.out.lt k hk).1; omega)).setNew (p := ⟨w.heap.size + 1, 2, none⟩) (by simp) (.slice (some ⟨g, 0, none⟩) (i + 1) cap))
            rw [show mflat l ++ x.cells = mflat (l ++ [x]) from (mflat_snoc l x).symm] at hown
            have HO7 := hidm (owns_low (o := 2) (u := .slice (some ⟨g, 0, none⟩) (i + 1) cap) hown (show w.heap.size + 1 < w.heap.size + 2 by omega))
            have HE7 := hidm (show ∀ y ∈ l ++ [x], El (w.heap.size + 2) s.size (.slice (some ⟨g, 0, none⟩) (i + 1) cap) (w7.setCell ⟨w.heap.size + 1, 2, none⟩ (.slice (some ⟨g, 0, none⟩) (i + 1) cap)) y from fun y hy => by
              rcases List.mem_append.1 hy with h | h
              · exact (((HE4.out y h).later hbA).grown hgrow rfl hg).put (by omega)
              · rw [List.mem_singleton] at h
                rw [h]
                exact ((HX4.out.later hbA).grown hgrow rfl hg).put (by omega))
            have HC7 := hidm (show (l ++ [x]).length = i + 1 ∧ w.heap.size + 2 ≤ (w7.setCell ⟨w.heap.size + 1, 2, none⟩ (.slice (some ⟨g, 0, none⟩) (i + 1) cap)).heap.size from ⟨by rw [List.length_append, HC.out.1]; rfl, by have := hgrow.size; simp only [World.size_alloc, World.size_setCell] at this ⊢; have := HC.out.2; omega⟩)
            have HQ7 := hidm (put2 (u := .slice (some ⟨g, 0, none⟩) (i + 1) cap) hq7)
            have HZ7 := hidm (put_other (c := w.heap.size + 1) (o := 2) (u := .slice (some ⟨g, 0, none⟩) (i + 1) cap) hz7 (by omega))
            have HG7 := hidm (show GX s (fun q => (k1 = q.seq ∧ k2 = q.tm) ∧ (v3 = q.chs.length ∧ (l ++ [x]).map M.c = q.chs.take (i + 1))) e4 p4 (fun q => (q.chs.drop (i + 1)).flatMap chBy) from fun q h1 h2 h3 => by
              obtain ⟨⟨g1, g2, g3⟩, g4, g5⟩ := HG.out q h1 h2 h3
              have hil : i < q.chs.length := by omega
              obtain ⟨d1, d2, d3⟩ := HT4.out q.chs[i] ((q.chs.drop (i + 1)).flatMap chBy) g4 (by rw [g5]; show (q.chs.drop i).flatMap chBy = _; rw [List.drop_eq_getElem_cons hil, List.flatMap_cons]) ((tx_parts h1).2.2.2.2.2 _ (List.getElem_mem hil)) (h2 _ (List.getElem_mem hil))
              refine ⟨⟨g1, g2, ?_⟩, d2, d3⟩
              rw [List.map_append, g3, List.take_succ_eq_append_getElem hil]
              simp [d1])
            obtain ⟨u0, u1, u2⟩ := three hq7
            have uf := frz hq7 2
            clear hown hgrow hg hq7 hz7 hbA t0 t1 t2
            refine hK.out _ _ trivial (fun _ => ?_)
            clear hK K
            (try simp only [Act.put, List.setIfInBounds_toArray, List.set_cons_zero, List.set_cons_succ])
            refine Man.take1 (i := 6) (v := ?_) rfl (by kernel_rfl) (by kernel_rfl) (by kernel_rfl) (fun _ _ _ h => h) (by rfl) ?_ trivial ?_
            rotate_left
            · (intro u hSu; go_simp; (try with_reducible rfl))
            (try simp only [Act.put, List.setIfInBounds_toArray, List.set_cons_zero, List.set_cons_succ])
            refine Man.one (i := 7) rfl (by kernel_rfl) (fun K hK => ?_)
            go_simp
            refine hK.out _ _ trivial (fun _ => ?_)
            clear hK K
            (try simp only [Act.put, List.setIfInBounds_toArray, List.set_cons_zero, List.set_cons_succ])
            refine wpAnyH_done (by kernel_rfl) ?_ _
            go_wp2_with fail
            go_roundw
            case rel => exact ⟨i + 1, p4, e4, l ++ [x], some ⟨g, 0, none⟩, cap, by go_num, by omega, hidm ⟨HR7.out, HP4.out⟩, HB7, HQ7, HZ7, HO7, HC7, HE7, HG7⟩
            case measure => simp [intOf]; omega
          · go_simp
            refine hK.out _ _ trivial (fun _ => ?_)
            clear hK K
            (try simp only [Act.put, List.setIfInBounds_toArray, List.set_cons_zero, List.set_cons_succ])
            refine Man.one (i := 1) rfl (by kernel_rfl) (fun K hK => ?_)
            have ta2 := (three (below_keeps ((Below.refl _ _).alloc (Nat.le_refl _) (.cells #[.int .i64 x.c.op, .string (S x.c.tb), .slice x.ro x.c.row.length x.rc, .int .i64 x.c.a, .int .i64 x.c.z, .string (S x.c.df.nm), .slice x.qo x.c.df.cols.length x.qc, .int .i64 x.c.df.keys] 32) : Below w4.heap.size w4 (w4.alloc (.cells #[.int .i64 x.c.op, .string (S x.c.tb), .slice x.ro x.c.row.length x.rc, .int .i64 x.c.a, .int .i64 x.c.z, .string (S x.c.df.nm), .slice x.qo x.c.df.cols.length x.qc, .int .i64 x.c.df.keys] 32))) HQ4.out)).2.2
            go_simp
            refine hK.out _ _ trivial (fun _ => ?_)
            clear hK K
            (try simp only [Act.put, List.setIfInBounds_toArray, List.set_cons_zero, List.set_cons_succ])
            have hbA : Below w4.heap.size w4 (w4.alloc (.cells #[.int .i64 x.c.op, .string (S x.c.tb), .slice x.ro x.c.row.length x.rc, .int .i64 x.c.a, .int .i64 x.c.z, .string (S x.c.df.nm), .slice x.qo x.c.df.cols.length x.qc, .int .i64 x.c.df.keys] 32)) := (Below.refl _ _).alloc (Nat.le_refl _) _
            refine Man.one (i := 5) rfl (by kernel_rfl) (fun K hK => ?_)
            refine step_append_lies _ rfl _ _ 22 rfl (w.heap.size + 2) 32 i0 (.agg #[.int .i64 0, .string ⟨#[]⟩, .slice none 0 0, .int .i64 0, .int .i64 0, .string ⟨#[]⟩, .slice none 0 0, .int .i64 0]) 8 112 Tryz.underlying22 hi hz0 hz1 hz2 rfl (by decide) _ i (mflat l) rfl (Cod.owns_later HO4.out hbA) ⟨w4.heap.size, 0, none⟩ 1 1 x.cells ?a1zB rfl ?a2zB ?a3zB (by decide) ?a4zB ?a5zB ?a6zB _ rfl (fun g cap w7 hown hgrow hg hlt7 => ?_)
            case a1zB => first | rfl | (simp; done)
            case a2zB => intro j u hj; exact World.news_of_block (heap_alloc_new w4 (.cells #[.int .i64 x.c.op, .string (S x.c.tb), .slice x.ro x.c.row.length x.rc, .int .i64 x.c.a, .int .i64 x.c.z, .string (S x.c.df.nm), .slice x.qo x.c.df.cols.length x.qc, .int .i64 x.c.df.keys] 32)) j u hj
            case a3zB => intro u hu; simp [M.cells] at hu; rcases hu with rfl | rfl | rfl | rfl | rfl | rfl | rfl | rfl <;> rfl
            case a4zB => unfold maxLen; omega
            case a5zB => omega
            case a6zB => have := HC.out.2; simp only [World.size_alloc]; omega
            have hq7 := grown_keeps (below_keeps hbA HQ4.out) hgrow (fun g hg => by have := (HO4.out.lt g hg).1; omega)
            have hz7 := grown_keeps (below_keeps hbA HZ4.out) hgrow (fun g hg => by have := (HO4.out.lt g hg).1; omega)
            have HR7 := hidm ((Cod.Rdr.grown (HR4.out.past (.cells #[.int .i64 x.c.op, .string (S x.c.tb), .slice x.ro x.c.row.length x.rc, .int .i64 x.c.a, .int .i64 x.c.z, .string (S x.c.df.nm), .slice x.qo x.c.df.cols.length x.qc, .int .i64 x.c.df.keys] 32)) hgrow (fun k hk => by have := (HO4.out.lt k hk).1; omega)).other (a := ⟨w.heap.size + 1, 2, none⟩) hrq (.slice (some ⟨g, 0, none⟩) (i + 1) cap))
            have HB7 := hidm ((Cod.But.grown (HB4.out.alloc (.cells #[.int .i64 x.c.op, .string (S x.c.tb), .slice x.ro x.c.row.length x.rc, .int .i64 x.c.a, .int .i64 x.c.z, .string (S x.c.df.nm), .slice x.qo x.c.df.cols.length x.qc, .int .i64 x.c.df.keys] 32)) hgrow (fun k hk => by have := (HO4.out.lt k hk).1; omega)).setNew (p := ⟨w.heap.size + 1, 2, none⟩) (by simp) (.slice (some ⟨g, 0, none⟩) (i + 1) cap))
            rw [show mflat l ++ x.cells = mflat (l ++ [x]) from (mflat_snoc l x).symm] at hown
            have HO7 := hidm (owns_low (o := 2) (u := .slice (some ⟨g, 0, none⟩) (i + 1) cap) hown (show w.heap.size + 1 < w.heap.size + 2 by omega))
            have HE7 := hidm (show ∀ y ∈ l ++ [x], El (w.heap.size + 2) s.size (.slice (some ⟨g, 0, none⟩) (i + 1) cap) (w7.setCell ⟨w.heap.size + 1, 2, none⟩ (.slice (some ⟨g, 0, none⟩) (i + 1) cap)) y from fun y hy => by
              rcases List.mem_append.1 hy with h | h
              · exact (((HE4.out y h).later hbA).grown hgrow rfl hg).put (by omega)
              · rw [List.mem_singleton] at h
                rw [h]
                exact ((HX4.out.later hbA).grown hgrow rfl hg).put (by omega))
            have HC7 := hidm (show (l ++ [x]).length = i + 1 ∧ w.heap.size + 2 ≤ (w7.setCell ⟨w.heap.size + 1, 2, none⟩ (.slice (some ⟨g, 0, none⟩) (i + 1) cap)).heap.size from ⟨by rw [List.length_append, HC.out.1]; rfl, by have := hgrow.size; simp only [World.size_alloc, World.size_setCell] at this ⊢; have := HC.out.2; omega⟩)
            have HQ7 := hidm (put2 (u := .slice (some ⟨g, 0, none⟩) (i + 1) cap) hq7)
            have HZ7 := hidm (put_other (c := w.heap.size + 1) (o := 2) (u := .slice (some ⟨g, 0, none⟩) (i + 1) cap) hz7 (by omega))
            have HG7 := hidm (show GX s (fun q => (k1 = q.seq ∧ k2 = q.tm) ∧ (v3 = q.chs.length ∧ (l ++ [x]).map M.c = q.chs.take (i + 1))) e4 p4 (fun q => (q.chs.drop (i + 1)).flatMap chBy) from fun q h1 h2 h3 => by
              obtain ⟨⟨g1, g2, g3⟩, g4, g5⟩ := HG.out q h1 h2 h3
              have hil : i < q.chs.length := by omega
              obtain ⟨d1, d2, d3⟩ := HT4.out q.chs[i] ((q.chs.drop (i + 1)).flatMap chBy) g4 (by rw [g5]; show (q.chs.drop i).flatMap chBy = _; rw [List.drop_eq_getElem_cons hil, List.flatMap_cons]) ((tx_parts h1).2.2.2.2.2 _ (List.getElem_mem hil)) (h2 _ (List.getElem_mem hil))
              refine ⟨⟨g1, g2, ?_⟩, d2, d3⟩
              rw [List.map_append, g3, List.take_succ_eq_append_getElem hil]
              simp [d1])
            obtain ⟨u0, u1, u2⟩ := three hq7
            have uf := frz hq7 2
            clear hown hgrow hg hq7 hz7 hbA t0 t1 t2
            refine hK.out _ _ trivial (fun _ => ?_)
            clear hK K
            (try simp only [Act.put, List.setIfInBounds_toArray, List.set_cons_zero, List.set_cons_succ])
            refine Man.take1 (i := 6) (v := ?_) rfl (by kernel_rfl) (by kernel_rfl) (by kernel_rfl) (fun _ _ _ h => h) (by rfl) ?_ trivial ?_
            rotate_left
            · (intro u hSu; go_simp; (try with_reducible rfl))
            (try simp only [Act.put, List.setIfInBounds_toArray, List.set_cons_zero, List.set_cons_succ])
            refine Man.one (i := 7) rfl (by kernel_rfl) (fun K hK => ?_)
            go_simp
            refine hK.out _ _ trivial (fun _ => ?_)
            clear hK K
            (try simp only [Act.put, List.setIfInBounds_toArray, List.set_cons_zero, List.set_cons_succ])
            refine wpAnyH_done (by kernel_rfl) ?_ _
            go_wp2_with fail
            go_roundw
            case rel => exact ⟨i + 1, p4, e4, l ++ [x], some ⟨g, 0, none⟩, cap, by go_num, by omega, hidm ⟨HR7.out, HP4.out⟩, HB7, HQ7, HZ7, HO7, HC7, HE7, HG7⟩
            case measure => simp [intOf]; omega
      · have hiN : 100 = i := by omega
        subst hiN
        obtain ⟨y0, y1, y2⟩ := three HQ.out
        obtain ⟨z0, z1, z2⟩ := three HZ.out
        have zf0 := frz HZ.out 0
        have zf1 := frz HZ.out 1
        have zf2 := frz HZ.out 2
        have hne : ¬ (w.heap.size + 1 = w.heap.size) := by omega
        have HO2 := hidm (owns_low (o := 2) (u := .slice so 100 sc) (owns_low (o := 1) (u := .int .i64 k2) (owns_low (o := 0) (u := .int .i64 k1) HO.out (show w.heap.size < w.heap.size + 2 by omega)) (show w.heap.size < w.heap.size + 2 by omega)) (show w.heap.size < w.heap.size + 2 by omega))
        have HE2 := hidm (fun y hy => (((HE.out y hy).put (k := 0) (u := .int .i64 k1) (show w.heap.size < w.heap.size + 2 by omega)).put (k := 1) (u := .int .i64 k2) (show w.heap.size < w.heap.size + 2 by omega)).put (k := 2) (u := .slice so 100 sc) (show w.heap.size < w.heap.size + 2 by omega))
        have HB2 := hidm (((HB.out.setNew (p := ⟨w.heap.size, 0, none⟩) (Nat.le_refl _) (.int .i64 k1)).setNew (p := ⟨w.heap.size, 1, none⟩) (Nat.le_refl _) (.int .i64 k2)).setNew (p := ⟨w.heap.size, 2, none⟩) (Nat.le_refl _) (.slice so 100 sc))
        obtain ⟨r0, r1, r2⟩ := three (put2 (u := .slice so 100 sc) (put1 (u := .int .i64 k2) (put0 (u := .int .i64 k1) HZ.out)))
        have R0 := hidm r0
        have R1 := hidm r1
        have R2 := hidm r2
        clear r0 r1 r2
        go_wp2_with fail
        refine bodyPost_ret (v := .agg #[.int .i64 k1, .int .i64 k2, .slice so 100 sc]) (by simp [results, Tryz.results48, go_sem, R0.out, R1.out, R2.out]) rfl ?_
        have hcl : l.length = 100 := HC.out.1
        refine ⟨⟨k1, k2, l, so, sc⟩, by show Ending.returned _ = Ending.returned (.agg #[.int .i64 k1, .int .i64 k2, .slice so l.length sc]); rw [hcl], ?_, HB2.out, by show l.length ≤ 100; omega, fun y hy => (HE.out y hy).s, fun q h1 h2 h3 => ?_, by have h := fresh_owns (l := l) HO2.out; show Fresh w.heap.size l (.slice so l.length sc); rw [hcl]; exact h.mono (by omega), fun y hy => (HE.out y hy).f.mono (by omega)⟩
        · show MsAt l (.slice so l.length sc) _
          refine MsAt.of_owns (base := w.heap.size + 2) ?_ (fun y hy => (HE2.out y hy).i)
          rw [hcl]; exact HO2.out
        · obtain ⟨⟨⟨g1, g2⟩, g3, g4⟩, _⟩ := HG.out q h1 h2 h3
          obtain ⟨qs, qt, qc⟩ := q
          have hq100 : qc.length ≤ 100 := (tx_parts h1).2.2.2.2.1
          simp only at g1 g2 g3 g4
          rw [List.take_of_length_le (by omega)] at g4
          show (⟨k1, k2, l.map M.c⟩ : Tx) = _
          rw [g1, g2, g4]
end Frm
end Go.Proofs.YtopmbhpjdmcabaaGreat
namespace Go.Proofs.YtopmbhpjdmcabaaGreat
open Go.RowKit
namespace Frm
open Cod Sch
theorem X.In.move {x : X} {w w' : World} {B : Nat} (h : x.In w) (hf : Fresh B x.l (.slice x.co x.l.length x.cc)) (hc : ∀ c ∈ x.l, c.From B) (hs : w.heap.size ≤ w'.heap.size) (hb : ∀ b, B ≤ b → w'.heap[b]? = w.heap[b]?) : x.In w' := by
  obtain ⟨⟨ao, cap, h1, hcc, hm, h2⟩, hi⟩ := h
  refine ⟨⟨ao, cap, h1, hcc, hm, fun hne => ?_⟩, fun c hx => (hi c hx).move hs fun b hbx => hb b (hc c hx b hbx)⟩
  obtain ⟨b, off, h3, h4, h5⟩ := h2 hne
  refine ⟨b, off, h3, by omega, fun j hj => ?_⟩
  simp only [Value.slice.injEq, true_and] at h1
  have hB := hf hne ⟨b, off, none⟩ _ _ (by rw [h1.1, h3])
  rw [cell_same (hb b hB)]; exact h5 j hj
/-- What Decode comes to: the right transaction whose body they are, or ErrForm, and there is none. -/
def DecX (l : List UInt8) (w : World) (en : Ending) (w' : World) : Prop := ∃ (x : X) (e : Int), en = .returned (.tuple #[x.agg, .int .i64 e]) ∧ x.In w' ∧ Below w.heap.size w w' ∧ x.l.length ≤ 100 ∧ (∀ c ∈ x.l, Small l.length c.c) ∧
  ((e = 0 ∧ txB x.tx = true ∧ x.tx.wf ∧ bodyT x.tx = l ∧ ∀ q : Tx, txB q = true → q.wf → bodyT q = l → x.tx = q) ∨ (e = 7 ∧ x = ⟨0, 0, [], none, 0⟩ ∧ ∀ q : Tx, txB q = true → q.wf → bodyT q = l → False))
set_option maxHeartbeats 4000000 in
set_option maxRecDepth 100000 in
theorem tdec_any (l : List UInt8) (hl : l.length ≤ 100000) (w : World) :
    Calls Tryz.prog 21 #[.string (S l)] w fun en w' => DecX l w en w' := by
  have hsz : (S l).size = l.length := S_size l
  have HZ := hidm (heap_alloc_new w (.cells #[.int .i64 0, .int .i64 0, .slice none 0 0] 24))
  have HB := hidm (show Below w.heap.size w (w.alloc (.cells #[.int .i64 0, .int .i64 0, .slice none 0 0] 24)) from (Below.refl _ _).alloc (Nat.le_refl _) _)
  have HSZ := hidm hsz
  clear hsz
  go_enter Tryz.func21, Tryz.ntmps21
  go_wp2_with fail
  refine (new_any (S l) _ (by rw [HSZ.out]; omega)).mono ?_
  rintro e w1 ⟨r, hrge, rfl, hr, hb⟩
  have hr1 : w.heap.size + 1 ≤ r := by simpa using hrge
  have hzr : w.heap.size ≠ r := by omega
  have HZ1 := hidm (below_keeps hb HZ.out)
  have HB1 := hidm (HB.out.trans (hb.mono (by simp)))
  have hsz1 : w.heap.size + 1 ≤ w1.heap.size := by have := hb.size; simpa using this
  have HR1 := hidm hr
  clear hrge hr hb HZ HB
  go_wp2_with fail
  refine (read_txn r (S l) (by rw [HSZ.out]; omega) w1 HR1.out).mono ?_
  rintro e w2 ⟨x, he, hin, hb, hn, hsm, hq, hfr, hfc⟩
  unfold X.agg at he
  subst he
  rw [HSZ.out] at hsm
  have HX2 := hidm hin
  have HFR := hidm hfr
  have HFC := hidm hfc
  have HSM := hidm hsm
  have HN := hidm hn
  have HQ := hidm hq
  have HZ2 := hidm (hb.keeps hzr HZ1.out)
  have hbl : Below w.heap.size w w2 := But.then HB1.out hb (by omega) HB1.out.size
  have HB2 := hidm hbl
  have hbA : Below w2.heap.size w2 (w2.alloc (.cells #[.int .i64 x.seq, .int .i64 x.tm, .slice x.co x.l.length x.cc] 24)) := (Below.refl _ _).alloc (Nat.le_refl _) _
  have HX3 := hidm (HX2.out.later hbA)
  have HZ3 := hidm (below_keeps hbA HZ2.out)
  have HB3 := hidm (HB2.out.trans (hbA.mono HB2.out.size))
  have HK3 := hidm (heap_alloc_new w2 (.cells #[.int .i64 x.seq, .int .i64 x.tm, .slice x.co x.l.length x.cc] 24))
  have HLN := hidm (show x.l.length ≤ 1000000 from by omega)
  have HLM := hidm (show ∀ c ∈ x.l, ChLim c.c from fun c hc => (hsm c hc).lim (by omega))
  have HWF := hidm (show x.tx.wf from fun c hc => by
    obtain ⟨m, hm, rfl⟩ := List.mem_map.1 hc
    exact (hsm m hm).wf (by omega))
  clear hin hb hn hsm hq hfr hfc hbl hbA HZ1 HB1 HR1 hr1 hzr
  rcases hrt : txB x.tx with _ | _
  · have R := txright_is hrt HLN.out HLM.out _ HX3.out
    have HNO := hidm (show ∀ q : Tx, txB q = true → q.wf → bodyT q = l → False from fun q h1 h2 h3 => by
      rw [HQ.out q h1 h2 h3, h1] at hrt; cases hrt)
    clear hrt
    go_wp2_with fail
    refine R.mono ?_
    rintro e w4 ⟨rfl, hb⟩
    have HZ4 := hidm (below_keeps hb HZ3.out)
    have HB4 := hidm (HB3.out.trans (hb.mono HB3.out.size))
    clear hb R HK3 HZ3 HZ2
    obtain ⟨z0, z1, z2⟩ := three HZ4.out
    have zf0 := frz HZ4.out 0
    have zf1 := frz HZ4.out 1
    have zf2 := frz HZ4.out 2
    obtain ⟨r0, r1, r2⟩ := three (put2 (u := .slice none 0 0) (put1 (u := .int .i64 0) (put0 (u := .int .i64 0) HZ4.out)))
    have R0 := hidm r0
    have R1 := hidm r1
    have R2 := hidm r2
    have HBF := hidm (((HB4.out.setCell (p := ⟨w.heap.size, 0, none⟩) (Nat.le_refl _) (.int .i64 0)).setCell (p := ⟨w.heap.size, 1, none⟩) (Nat.le_refl _) (.int .i64 0)).setCell (p := ⟨w.heap.size, 2, none⟩) (Nat.le_refl _) (.slice none 0 0))
    clear r0 r1 r2
    go_wp2_with fail
    refine bodyPost_ret (v := .tuple #[.agg #[.int .i64 0, .int .i64 0, .slice none 0 0], .int .i64 7]) (by simp [results, Tryz.results21, go_sem, R0.out, R1.out, R2.out]) rfl ?_
    exact ⟨⟨0, 0, [], none, 0⟩, 7, rfl, MsAt.nil _, HBF.out, by simp, (fun c hc => by cases hc), .inr ⟨rfl, rfl, HNO.out⟩⟩
  · have R := txright_is hrt HLN.out HLM.out _ HX3.out
    have HRT := hidm hrt
    clear hrt
    go_wp2_with fail
    refine R.mono ?_
    rintro e w4 ⟨rfl, hb⟩
    have HZ4 := hidm (below_keeps hb HZ3.out)
    have HB4 := hidm (HB3.out.trans (hb.mono HB3.out.size))
    have HX4 := hidm (HX3.out.later hb)
    have HK4 := hidm (below_keeps hb HK3.out)
    have E := body_any HRT.out HWF.out w4 HX4.out
    obtain ⟨k0, k1, k2⟩ := three HK4.out
    clear hb R HK3 HZ3 HZ2
    go_wp2_with fail
    refine E.mono ?_
    rintro e w5 ⟨rfl, hb⟩
    have HZ5 := hidm (below_keeps hb HZ4.out)
    have HB5 := hidm (HB4.out.trans (hb.mono HB4.out.size))
    have HX5 := hidm (HX4.out.later hb)
    have HK5 := hidm (below_keeps hb HK4.out)
    clear hb E k0 k1 k2 HK4 HZ4 HB4 HX4 HB3 HX3 HB2 HX2
    by_cases heq : bodyT x.tx = l
    · have HEQ := hidm heq
      have f1 : (bodyT x.tx == l) = true := by simpa using heq
      have f2 : (bodyT x.tx != l) = false := by simpa using heq
      clear heq
      obtain ⟨z0, z1, z2⟩ := three HZ5.out
      have zf0 := frz HZ5.out 0
      have zf1 := frz HZ5.out 1
      have zf2 := frz HZ5.out 2
      obtain ⟨x0, x1, x2⟩ := three HK5.out
      obtain ⟨r0, r1, r2⟩ := three (put2 (u := .slice x.co x.l.length x.cc) (put1 (u := .int .i64 x.tm) (put0 (u := .int .i64 x.seq) HZ5.out)))
      have R0 := hidm r0
      have R1 := hidm r1
      have R2 := hidm r2
      have HBF := hidm (((HB5.out.setCell (p := ⟨w.heap.size, 0, none⟩) (Nat.le_refl _) (.int .i64 x.seq)).setCell (p := ⟨w.heap.size, 1, none⟩) (Nat.le_refl _) (.int .i64 x.tm)).setCell (p := ⟨w.heap.size, 2, none⟩) (Nat.le_refl _) (.slice x.co x.l.length x.cc))
      have HXF := hidm (HX5.out.move (w' := ((w5.setCell ⟨w.heap.size, 0, none⟩ (.int .i64 x.seq)).setCell ⟨w.heap.size, 1, none⟩ (.int .i64 x.tm)).setCell ⟨w.heap.size, 2, none⟩ (.slice x.co x.l.length x.cc)) HFR.out HFC.out (by simp) (fun b hb => by
        have hne : b ≠ w.heap.size := by omega
        rw [Below.heap_setCell _ _ _ _ (by exact hne), Below.heap_setCell _ _ _ _ (by exact hne), Below.heap_setCell _ _ _ _ (by exact hne)]))
      clear r0 r1 r2
      go_wp2_with fail
      refine bodyPost_ret (v := .tuple #[.agg #[.int .i64 x.seq, .int .i64 x.tm, .slice x.co x.l.length x.cc], .int .i64 0]) (by simp [results, Tryz.results21, go_sem, R0.out, R1.out, R2.out]) rfl ?_
      exact ⟨x, 0, rfl, HXF.out, HBF.out, HN.out, HSM.out, .inl ⟨rfl, HRT.out, HWF.out, HEQ.out, HQ.out⟩⟩
    · have HNO := hidm (show ∀ q : Tx, txB q = true → q.wf → bodyT q = l → False from fun q h1 h2 h3 => by
        rw [← HQ.out q h1 h2 h3] at h3; exact heq h3)
      have f1 : (bodyT x.tx == l) = false := by simpa using heq
      have f2 : (bodyT x.tx != l) = true := by simpa using heq
      clear heq
      have HZ4 := HZ5
      have HB4 := HB5
      obtain ⟨z0, z1, z2⟩ := three HZ4.out
      have zf0 := frz HZ4.out 0
      have zf1 := frz HZ4.out 1
      have zf2 := frz HZ4.out 2
      obtain ⟨r0, r1, r2⟩ := three (put2 (u := .slice none 0 0) (put1 (u := .int .i64 0) (put0 (u := .int .i64 0) HZ4.out)))
      have R0 := hidm r0
      have R1 := hidm r1
      have R2 := hidm r2
      have HBF := hidm (((HB4.out.setCell (p := ⟨w.heap.size, 0, none⟩) (Nat.le_refl _) (.int .i64 0)).setCell (p := ⟨w.heap.size, 1, none⟩) (Nat.le_refl _) (.int .i64 0)).setCell (p := ⟨w.heap.size, 2, none⟩) (Nat.le_refl _) (.slice none 0 0))
      clear r0 r1 r2
      go_wp2_with fail
      refine bodyPost_ret (v := .tuple #[.agg #[.int .i64 0, .int .i64 0, .slice none 0 0], .int .i64 7]) (by simp [results, Tryz.results21, go_sem, R0.out, R1.out, R2.out]) rfl ?_
      exact ⟨⟨0, 0, [], none, 0⟩, 7, rfl, MsAt.nil _, HBF.out, by simp, (fun c hc => by cases hc), .inr ⟨rfl, rfl, HNO.out⟩⟩
end Frm
end Go.Proofs.YtopmbhpjdmcabaaGreat
