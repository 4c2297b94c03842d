import Derived.Test.YtkgbemkcnahkoaaGreatDoorZDk
import Derived.Shelf.SlMaps.Clone
import Derived.Lib.SliceRun
namespace Go.Proofs.YtkgbemkcnahkoaaGreatDoor
open Go.RowKit
namespace Dsk
theorem pad_self {s : List UInt8} (h : 128 ≤ s.length) : pad s = s := by
 unfold pad
 rw [show 128 - s.length = 0 by omega]
 simp
theorem pad_more {s : List UInt8} (h : s.length < 128) : pad (s ++ [0]) = pad s := by
 unfold pad
 rw [List.length_append, List.append_assoc]
 congr 1
 rw [show 128 - s.length = (128 - (s.length + [(0 : UInt8)].length)) + 1 by simp; omega, List.replicate_succ]
 rfl
set_option maxHeartbeats 1000000 in
theorem rpad_any (s : ByteArray) (hs : s.size ≤ 1000000000000) (w : World) :
   Calls Tryz.prog 40 #[.string s] w fun e w' => e = .returned (.string (S (pad s.data.toList))) ∧ Below w.heap.size w w' := by
 go_enter Tryz.func40, Tryz.ntmps40
 go_wp2_with fail
 go_loopw [0] (fun ss wr => ∃ t : ByteArray, ss = .string t ∧ t.size ≤ 1000000000000 ∧ Hid (pad t.data.toList = pad s.data.toList) ∧ Hid (Below w.heap.size w wr)) (fun ss _ => match ss with | .string t => 128 - t.size | _ => 0)
 case atStart => exact ⟨s, rfl, hs, hidm rfl, hidm (Below.refl _ _)⟩
 case round =>
   obtain ⟨t, rfl, ht, HP, HB⟩ := hrel
   rcases Nat.lt_or_ge t.size 128 with hlt | hge
   · have f1 : (t.size : Int) < 128 := by omega
     have hsz : (t ++ (⟨#[0]⟩ : ByteArray)).size = t.size + 1 := by rw [ByteArray.size_append]; rfl
     have HPN := hidm (show pad (t ++ (⟨#[0]⟩ : ByteArray)).data.toList = pad s.data.toList from by
       rw [← HP.out, ← pad_more (show t.data.toList.length < 128 by rw [len_eq]; exact hlt)]
       congr 1)
     go_wp2_with fail
     go_roundw
     case rel => exact ⟨t ++ (⟨#[0]⟩ : ByteArray), rfl, by omega, HPN, HB⟩
     case measure =>
       show 128 - (t ++ (⟨#[0]⟩ : ByteArray)).size < 128 - t.size
       rw [hsz]; omega
   · have f1 : ¬ (t.size : Int) < 128 := by omega
     have HT := hidm (show t = S (pad s.data.toList) from by
       rw [← HP.out, pad_self (by rw [len_eq]; exact hge), S_of])
     go_wp2_with fail
     go_ret
     exact ⟨by rw [← HT.out]; rfl, HB.out⟩
theorem ints_new (w : World) (l : List Nat) (hl : l.length ≤ 1000000) : IntsAt w.heap.size l (.slice (some ⟨w.heap.size, 0, none⟩) l.length l.length) (w.alloc (.cells (ints l).toArray 3)) := by
 have hn : (ints l).length = l.length := by simp [ints]
 refine ⟨by rw [hn]; omega, .inr ⟨w.heap.size, l.length, (ints l).toArray, rfl, Nat.le_refl _, heap_alloc_last w _, Nat.le_refl _, by unfold maxLen; omega, by simp [hn], ?_⟩⟩
 rw [Nat.mul_one, List.take_of_length_le (by simp [hn])]
set_option maxHeartbeats 4000000 in
set_option maxRecDepth 100000 in
theorem rints_any (b1 b2 : Nat) (l1 l2 : List Nat) (v1 v2 : Value) (w : World) (h1 : IntsAt b1 l1 v1 w) (h2 : IntsAt b2 l2 v2 w) :
   Calls Tryz.prog 21 #[v1, v2] w fun e w' => e = .returned (.bool (l1 == l2)) ∧ Below w.heap.size w w' := by
 obtain ⟨ao, ac, rfl, hac, ham⟩ := h1.form
 obtain ⟨bo, bc, rfl, hbc, hbm⟩ := h2.form
 by_cases hl : l1.length = l2.length
 · obtain ⟨n, hn⟩ : ∃ n, n = l1.length := ⟨_, rfl⟩
   have hn2 : n = l2.length := hn.trans hl
   have H1 := hidm h1
   have H2 := hidm h2
   have HN1 := hidm hn
   have HN2 := hidm hn2
   rw [← hn, ← hn2]
   have hnb : n ≤ 9223372036854775807 := by omega
   clear h1 h2 hn hn2 hl hac ham hbc hbm
   go_enter Tryz.func21, Tryz.ntmps21
   go_wp2_with fail
   go_loopw [5] (fun ii wr => ∃ i : Nat, ii = .int .i64 i ∧ i ≤ n ∧ Hid (l1.take i = l2.take i) ∧ Hid (Below w.heap.size w wr)) (fun ii _ => (n - (intOf ii).toNat))
   case atStart => exact ⟨0, rfl, by omega, hidm rfl, hidm (Below.refl _ _)⟩
   case round =>
     obtain ⟨i, rfl, hi, HT, HB⟩ := hrel
     rcases Nat.lt_or_ge i n with hlt | hge
     · have f1 : (i : Int) < n := by omega
       have i1 : i < l1.length := by have := HN1.out; omega
       have i2 : i < l2.length := by have := HN2.out; omega
       obtain ⟨g1, c1, e1, _, q1⟩ := (H1.out.later HB.out).at i i1
       obtain ⟨g2, c2, e2, _, q2⟩ := (H2.out.later HB.out).at i i2
       simp only [Value.slice.injEq] at e1 e2
       obtain ⟨rfl, _, rfl⟩ := e1
       obtain ⟨rfl, _, rfl⟩ := e2
       obtain ⟨x, hx⟩ : ∃ x, x = l1[i] := ⟨_, rfl⟩
       obtain ⟨y, hy⟩ : ∃ y, y = l2[i] := ⟨_, rfl⟩
       rw [← hx] at q1
       rw [← hy] at q2
       have HX := hidm hx
       have HY := hidm hy
       have HS := hidm (show l1.take (i + 1) = l1.take i ++ [x] ∧ l2.take (i + 1) = l2.take i ++ [y] from ⟨by rw [List.take_succ_eq_append_getElem i1, hx], by rw [List.take_succ_eq_append_getElem i2, hy]⟩)
       clear hx hy
       by_cases hxy : x = y
       · subst hxy
         go_wp2_with fail
         go_quiet (fail)
         go_wp2_with fail
         go_roundw
         case rel => exact ⟨i + 1, by go_num, by omega, hidm (by rw [HS.out.1, HS.out.2, HT.out]), hidm (dN HB.out _)⟩
         case measure => simp [intOf]; omega
       · have hne : ((x : Int) != (y : Int)) = true := by simp; omega
         have hne2 : ¬ (x : Int) = (y : Int) := by omega
         have HF := hidm (show (l1 == l2) = false from by
           rw [beq_eq_false_iff_ne]
           intro e
           apply hxy
           rw [HX.out, HY.out]
           simp [e])
         go_wp2_with fail
         go_quiet (fail)
         go_wp2_with fail
         go_ret
         exact ⟨by rw [HF.out]; rfl, dN HB.out _⟩
     · obtain rfl : i = n := by omega
       have f1 : ¬ (i : Int) < (i : Int) := by omega
       have HE := hidm (show (l1 == l2) = true from by
         rw [beq_iff_eq, ← List.take_of_length_le (Nat.le_of_eq HN1.out.symm), ← List.take_of_length_le (Nat.le_of_eq HN2.out.symm)]
         exact HT.out)
       go_wp2_with fail
       go_ret
       exact ⟨by rw [HE.out]; rfl, HB.out⟩
 · have f1 : ¬ (l1.length : Int) = (l2.length : Int) := by omega
   have f2 : ((l1.length : Int) != (l2.length : Int)) = true := by simp; omega
   have HF := hidm (show (l1 == l2) = false from by
     rw [beq_eq_false_iff_ne]
     intro e
     exact hl (by rw [e]))
   clear h1 h2 hl
   go_enter Tryz.func21, Tryz.ntmps21
   go_wp2_with fail
   go_ret
   exact ⟨by rw [HF.out]; rfl, Below.refl _ _⟩
end Dsk
end Go.Proofs.YtkgbemkcnahkoaaGreatDoor
namespace Go.Proofs.YtkgbemkcnahkoaaGreatDoor
open Go.RowKit
namespace Dsk
structure Mine (W : World) (Q : Nat → Prop) (D : Nat) (d : PD) (w : World) : Prop where
 ex : ∃ T, DiskIs D d T w ∧ ∀ k, T k → W.heap.size ≤ k ∧ ¬ Q k
 bel : Below W.heap.size W w
 qlt : ∀ k, Q k → k < w.heap.size
def KeepQ (Q : Nat → Prop) (w w' : World) : Prop := ∀ k, Q k → w'.heap[k]? = w.heap[k]?
theorem KeepQ.trans {Q : Nat → Prop} {a b c : World} (h : KeepQ Q a b) (k : KeepQ Q b c) : KeepQ Q a c := fun i hi => (k i hi).trans (h i hi)
section
variable {W : World} {Q : Nat → Prop} {D : Nat} {d d' : PD} {w w' : World}
theorem Mine.ok (h : Mine W Q D d w) : d.ok := by
 obtain ⟨⟨T, hT, _⟩, _, _⟩ := h
 exact hT.ok
theorem Mine.later (h : Mine W Q D d w) (hb : Below w.heap.size w w') : Mine W Q D d w' := by
 obtain ⟨⟨T, hT, hq⟩, hB, hl⟩ := h
 exact ⟨⟨T, hT.later hb, hq⟩, hB.trans (hb.mono hB.size), fun k hk => Nat.lt_of_lt_of_le (hl k hk) hb.size⟩
theorem Mine.kept (h : Mine W Q D d w) (hb : Below w.heap.size w w') : KeepQ Q w w' := fun k hk => hb.block k (h.qlt k hk)
theorem Mine.grow {T : Nat → Prop} (hT : ∀ k, T k → W.heap.size ≤ k ∧ ¬ Q k) (hB : Below W.heap.size W w) (hl : ∀ k, Q k → k < w.heap.size) (hd : DiskIs D d' (Grow T w w') w') (ho : Only T w w') : Mine W Q D d' w' ∧ KeepQ Q w w' := by
 refine ⟨⟨⟨_, hd, fun k hk => ?_⟩, hB.trans (ho.below (fun k hk => (hT k hk).1) hB.size), fun k hk => Nat.lt_of_lt_of_le (hl k hk) ho.size⟩, fun k hk => ho.block k (hl k hk) (fun e => (hT k e).2 hk)⟩
 rcases hk with hk | hk
 · exact hT k hk
 · exact ⟨Nat.le_trans hB.size hk.1, fun e => by have := hl k e; omega⟩
theorem Mine.same {T : Nat → Prop} (hT : ∀ k, T k → W.heap.size ≤ k ∧ ¬ Q k) (hB : Below W.heap.size W w) (hl : ∀ k, Q k → k < w.heap.size) (hd : DiskIs D d' T w') (ho : Only T w w') : Mine W Q D d' w' ∧ KeepQ Q w w' :=
 Mine.grow hT hB hl (hd.wider (fun _ hk => .inl hk) (fun k hk => hk.elim (fun h2 => hd.lt k h2) (fun h2 => h2.2))) ho
theorem Mine.guard (h : Mine W Q D d w) (hb : Below w.heap.size w w') : Mine W (fun k => Q k ∨ (w.heap.size ≤ k ∧ k < w'.heap.size)) D d w' := by
 obtain ⟨⟨T, hT, hq⟩, hB, hl⟩ := h
 refine ⟨⟨T, hT.later hb, fun k hk => ⟨(hq k hk).1, fun e => ?_⟩⟩, hB.trans (hb.mono hB.size), fun k hk => ?_⟩
 · rcases e with e | e
   · exact (hq k hk).2 e
   · have := hT.lt k hk; omega
 · rcases hk with hk | hk
   · exact Nat.lt_of_lt_of_le (hl k hk) hb.size
   · exact hk.2
end
section
variable {W : World} {Q : Nat → Prop} {D : Nat} {d : PD} {w : World}
theorem m_new (n : Nat) (h1 : 1 ≤ n) (h2 : n ≤ 4096) (hB : Below W.heap.size W w) :
   Calls Tryz.prog 10 #[.int .i64 (n : Int)] w fun e w' => e = .returned (.tuple #[.pointer (some ⟨w.heap.size + 1, 0, none⟩), .int .i64 0]) ∧ Mine W (fun _ => False) (w.heap.size + 1) (PD.new n) w' ∧ Below w.heap.size w w' :=
 (new_any n h1 h2 w).mono fun _ _ ⟨he, hd, hb⟩ => ⟨he, ⟨⟨_, hd, fun _ hk => ⟨Nat.le_trans hB.size hk.1, fun e => e.elim⟩⟩, hB.trans (hb.mono hB.size), fun _ hk => hk.elim⟩, hb⟩
theorem m_write (k : Nat) (s : ByteArray) (hs : s.size ≤ 128) (h : Mine W Q D d w) (hk : k < d.n) (hb : d.burnt = false) (hc : d.cs.length < 1000000) (hw : d.wr < 1000000) :
   Calls Tryz.prog 124 #[.pointer (some ⟨D, 0, none⟩), .int .i64 (k : Int), .string s] w fun e w' => e = .returned (.int .i64 0) ∧ Mine W Q D (d.write k s.data.toList).burn w' ∧ KeepQ Q w w' := by
 obtain ⟨⟨T, hT, hq⟩, hB, hl⟩ := h
 exact (write_on k s hs w hT hk hb hc hw).mono fun _ _ ⟨he, hd, ho⟩ => ⟨he, Mine.grow hq hB hl hd ho⟩
theorem m_write_burnt (k : Nat) (s : ByteArray) (hs : s.size ≤ 128) (h : Mine W Q D d w) (hk : k < d.n) (hb : d.burnt = true) :
   Calls Tryz.prog 124 #[.pointer (some ⟨D, 0, none⟩), .int .i64 (k : Int), .string s] w fun e w' => e = .returned (.int .i64 6) ∧ Below w.heap.size w w' := by
 obtain ⟨⟨T, hT, hq⟩, hB, hl⟩ := h
 exact write_burnt k s hs w hT hk hb
theorem m_flush (h : Mine W Q D d w) (hb : d.burnt = false) (hf : d.fl < 1000000) :
   Calls Tryz.prog 125 #[.pointer (some ⟨D, 0, none⟩)] w fun e w' => e = .returned (.int .i64 0) ∧ Mine W Q D d.flush.burn w' ∧ KeepQ Q w w' := by
 obtain ⟨⟨T, hT, hq⟩, hB, hl⟩ := h
 exact (flush_on w hT hb hf).mono fun _ _ ⟨he, hd, ho⟩ => ⟨he, Mine.same hq hB hl hd ho⟩
theorem m_flush_burnt (h : Mine W Q D d w) (hb : d.burnt = true) :
   Calls Tryz.prog 125 #[.pointer (some ⟨D, 0, none⟩)] w fun e w' => e = .returned (.int .i64 6) ∧ Below w.heap.size w w' := by
 obtain ⟨⟨T, hT, hq⟩, hB, hl⟩ := h
 exact flush_burnt w hT hb
theorem m_read (k : Nat) (h : Mine W Q D d w) (hk : k < d.n) :
   Calls Tryz.prog 65 #[.pointer (some ⟨D, 0, none⟩), .int .i64 (k : Int)] w fun e w' => e = .returned (.tuple #[.string (S (d.f k)), .int .i64 0]) ∧ Below w.heap.size w w' := by
 obtain ⟨⟨T, hT, hq⟩, hB, hl⟩ := h
 exact read_on k w hT hk
theorem m_dirty (h : Mine W Q D d w) :
   Calls Tryz.prog 26 #[.pointer (some ⟨D, 0, none⟩)] w fun e w' => ∃ v, e = .returned v ∧ IntsAt w.heap.size d.dirty v w' ∧ Below w.heap.size w w' := by
 obtain ⟨⟨T, hT, hq⟩, hB, hl⟩ := h
 exact dirty_any w hT
theorem m_len (h : Mine W Q D d w) :
   Calls Tryz.prog 43 #[.pointer (some ⟨D, 0, none⟩)] w fun e w' => e = .returned (.int .i64 (d.n : Int)) ∧ w = w' := by
 obtain ⟨⟨T, hT, hq⟩, hB, hl⟩ := h
 exact len_any w hT
theorem m_crash (ks : List Bool) (so : Option Addr) (sc : Nat) (h : Mine W Q D d w) (hk : ks.length ≤ d.cs.length) (hks : BoolsAt ks so sc w) (hkT : ks ≠ [] → ∀ p, so = some p → p.block < W.heap.size ∨ Q p.block) :
   Calls Tryz.prog 17 #[.pointer (some ⟨D, 0, none⟩), .slice so ks.length sc] w fun e w' => e = .returned (.int .i64 0) ∧ Mine W Q D (d.crash ks) w' ∧ KeepQ Q w w' := by
 obtain ⟨⟨T, hT, hq⟩, hB, hl⟩ := h
 exact (crash_on ks so sc w hT hk hks (fun hne p hp e => by
   have h1 := hq _ e
   rcases hkT hne p hp with h2 | h2
   · omega
   · exact h1.2 h2)).mono fun _ _ ⟨he, hd, ho⟩ => ⟨he, Mine.same hq hB hl hd ho⟩
end
def IntsQ (Q : Nat → Prop) (l : List Nat) (v : Value) (w : World) : Prop := IntsAt 0 l v w ∧ ∀ g, v.ownBlock = some g → Q g
theorem IntsAt.zero {b : Nat} {l : List Nat} {v : Value} {w : World} (h : IntsAt b l v w) : IntsAt 0 l v w := by
 refine ⟨h.1, ?_⟩
 rcases h.2 with h2 | ⟨g, c, cur, hv, hg, rest⟩
 · exact .inl h2
 · exact .inr ⟨g, c, cur, hv, Nat.zero_le _, rest⟩
theorem IntsQ.keep {Q : Nat → Prop} {l : List Nat} {v : Value} {w w' : World} (h : IntsQ Q l v w) (hk : KeepQ Q w w') : IntsQ Q l v w' := ⟨ownsRow_of h.1 (fun g hg => hk g (h.2 g hg)), h.2⟩
end Dsk
end Go.Proofs.YtkgbemkcnahkoaaGreatDoor
namespace Go.Proofs.YtkgbemkcnahkoaaGreatDoor
open Go.RowKit
namespace Dsk
end Dsk
end Go.Proofs.YtkgbemkcnahkoaaGreatDoor
