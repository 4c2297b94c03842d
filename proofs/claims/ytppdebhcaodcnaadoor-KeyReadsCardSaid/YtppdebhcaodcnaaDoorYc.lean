/- The writers of package key: the closure that gathers bytes, eightBytes, turned. Conditions: the buffer stays below 2^47 bytes. -/
import Derived.Test.YtppdebhcaodcnaaDoorYb
import Derived.Deep.AppendLies
import Derived.Deep.LoopGhost
import Derived.Laws.BitsAllLaws
namespace Go.Proofs.YtppdebhcaodcnaaDoor
open Go.RowKit Cod
namespace Ky
/-- Block b holds a slice of the bytes l, in a block of its own (o). -/
def Buf (b : Nat) (o : Option Nat) (l : List UInt8) (w : World) : Prop := ∃ v, w.heap[b]? = some (.cells #[v] 55 (0, 0)) ∧ w.ownsRow (b + 1) 5 1 v l.length (Lib.byteCells l) ∧ v.ownBlock = o
/-- w' is as w was but for block b, block o; blocks may have come. -/
structure Apart (b : Nat) (o : Option Nat) (w w' : World) : Prop where
  os : w'.os = w.os
  tape : w'.tape = w.tape
  output : w'.output = w.output
  size : w.heap.size ≤ w'.heap.size
  block : ∀ k, k < w.heap.size → k ≠ b → some k ≠ o → w'.heap[k]? = w.heap[k]?
def Newer (o o' : Option Nat) (w : World) : Prop := o' = o ∨ ∃ g, o' = some g ∧ w.heap.size ≤ g
/-- From w on: the buffer b, that lay in o, holds l now. -/
def St (b : Nat) (o : Option Nat) (l : List UInt8) (w w' : World) : Prop := ∃ o', Buf b o' l w' ∧ Newer o o' w ∧ Apart b o w w'
section
variable {b : Nat} {o o' : Option Nat} {l : List UInt8} {w w' w0 w1 w2 : World}
theorem Buf.lt (h : Buf b o l w) : b < w.heap.size := by obtain ⟨v, h1, _⟩ := h; exact lt_of_block h1
theorem Buf.olt (h : Buf b o l w) : ∀ k, o = some k → b + 1 ≤ k ∧ k < w.heap.size := by
  obtain ⟨v, _, h2, h3⟩ := h
  intro k hk
  exact h2.lt k (by rw [h3, hk])
theorem Buf.later (h : Buf b o l w) (hb : Below w.heap.size w w') : Buf b o l w' := by
  obtain ⟨v, h1, h2, h3⟩ := h
  exact ⟨v, below_keeps hb h1, owns_later h2 hb, h3⟩
theorem Apart.refl (b : Nat) (o : Option Nat) (w : World) : Apart b o w w := ⟨rfl, rfl, rfl, Nat.le_refl _, fun _ _ _ _ => rfl⟩
theorem Apart.trans (h : Apart b o w w1) (hn : Newer o o' w) (k : Apart b o' w1 w2) : Apart b o w w2 := by
  refine ⟨k.os.trans h.os, k.tape.trans h.tape, k.output.trans h.output, Nat.le_trans h.size k.size, fun i hi hb ho => ?_⟩
  rw [k.block i (Nat.lt_of_lt_of_le hi h.size) hb ?_, h.block i hi hb ho]
  rcases hn with rfl | ⟨g, rfl, hg⟩
  · exact ho
  · intro e; have := Option.some.inj e; omega
theorem Apart.of (h : Below w.heap.size w w') : Apart b o w w' := ⟨h.os, h.tape, h.output, h.size, fun k hk _ _ => h.block k hk⟩
theorem Apart.below {B : Nat} (h : Apart b o w w') (hB : B ≤ b) (ho : ∀ k, o = some k → B ≤ k) (hs : B ≤ w.heap.size) : Below B w w' :=
  ⟨h.os, h.tape, h.output, h.size, fun k hk => h.block k (by omega) (by omega) (fun e => by have := ho k e.symm; omega)⟩
theorem St.start (h : Buf b o l w) : St b o l w w := ⟨o, h, .inl rfl, Apart.refl _ _ _⟩
theorem St.later (h : St b o l w w1) (hb : Below w1.heap.size w1 w2) : St b o l w w2 := by
  obtain ⟨o', h1, h2, h3⟩ := h
  exact ⟨o', h1.later hb, h2, h3.trans h2 (Apart.of hb)⟩
theorem St.alloc (h : St b o l w w1) (x : Obj) : St b o l w (w1.alloc x) := h.later ((Below.refl _ _).alloc (Nat.le_refl _) _)
theorem St.more {l' : List UInt8} (h : Newer o o' w) (ha : Apart b o w w1) (k : St b o' l' w1 w2) : St b o l' w w2 := by
  obtain ⟨o2, h1, h2, h3⟩ := k
  refine ⟨o2, h1, ?_, ha.trans h h3⟩
  rcases h2 with rfl | ⟨g, rfl, hg⟩
  · exact h
  · exact .inr ⟨g, rfl, Nat.le_trans ha.size hg⟩
theorem St.back (x : Obj) (h : St b o l (w.alloc x) w1) : St b o l w w1 := by
  obtain ⟨o2, h1, h2, h3⟩ := h
  refine ⟨o2, h1, ?_, ?_⟩
  · rcases h2 with rfl | ⟨g, rfl, hg⟩
    · exact .inl rfl
    · exact .inr ⟨g, rfl, by simp at hg; omega⟩
  · have hb : Below w.heap.size w (w.alloc x) := (Below.refl _ _).alloc (Nat.le_refl _) _
    exact (Apart.of hb).trans (o' := o) (.inl rfl) h3
theorem St.size (h : St b o l w w1) : w.heap.size ≤ w1.heap.size := by obtain ⟨_, _, _, h⟩ := h; exact h.size
/-- A block that was there, and is neither the buffer's nor its bytes', is as it was. -/
theorem St.keeps (h : St b o l w w1) {k : Nat} {x : Obj} (hk : w.heap[k]? = some x) (hb : k ≠ b) (ho : some k ≠ o) : w1.heap[k]? = some x := by
  obtain ⟨_, _, _, h⟩ := h
  rw [h.block k (lt_of_block hk) hb ho, hk]
end
theorem owns_far {base : Nat} {e : TypeId} {sz : Nat} {v : Value} {n : Nat} {xs : List Value} {w : World} (h : w.ownsRow base e sz v n xs) {p : Addr} (hp : p.block < base) (u : Value) : (w.setCell p u).ownsRow base e sz v n xs := by
  refine ⟨h.1, ?_⟩
  rcases h.2 with h2 | ⟨g, cap, cur, hv, hg, hh, rest⟩
  · exact .inl h2
  · exact .inr ⟨g, cap, cur, hv, hg, by rw [Below.heap_setCell _ _ _ _ (by omega)]; exact hh, rest⟩
theorem set_block {b : Nat} {x u : Value} {T : TypeId} {w : World} (h : w.heap[b]? = some (.cells #[x] T (0, 0))) : (w.setCell ⟨b, 0, none⟩ u).heap[b]? = some (.cells #[u] T (0, 0)) := by
  have hlt := lt_of_block h
  have h' : w.heap[b] = .cells #[x] T (0, 0) := by simpa [Array.getElem?_eq_getElem hlt] using h
  show (w.heap.modify b _)[b]? = _
  rw [Array.getElem?_eq_getElem (by simpa using hlt), Array.getElem_modify_self, h']
  rfl
theorem one_of_block {b : Nat} {x : Value} {T : TypeId} {w : World} (h : w.heap[b]? = some (.cells #[x] T (0, 0))) : w.cell? ⟨b, 0, none⟩ = some x ∧ w.frozen? ⟨b, 0, none⟩ = false := by
  constructor
  · simp [World.cell?, h]
  · simp [World.frozen?, h]
theorem ap_set {b : Nat} {o : Option Nat} {w w1 : World} (h : Apart b o w w1) (u : Value) : Apart b o w (w1.setCell ⟨b, 0, none⟩ u) :=
  ⟨h.os, h.tape, h.output, by simpa [World.setCell] using h.size, fun k hk hb ho => (Below.heap_setCell _ _ _ _ hb).trans (h.block k hk hb ho)⟩
set_option maxHeartbeats 2000000 in
set_option maxRecDepth 100000 in
/-- The closure that gathers bytes. -/
theorem put_any (b : Nat) (o : Option Nat) (l m : List UInt8) (w : World) (h : Buf b o l w) (ad : Addr) (c : Nat) (hm : ∀ j u, (Lib.byteCells m)[j]? = some u → w.cell? (ad.add j) = some u) (hlen : l.length + m.length ≤ 1000000000) :
    Calls Tryd.prog 41 #[.slice (some ad) m.length c, .pointer (some ⟨b, 0, none⟩)] w fun e w' => e = .returned (.tuple #[]) ∧ St b o (l ++ m) w w' := by
  obtain ⟨i0, hi, hz0, hz1, hz2⟩ := info_parts (P := Tryd.prog) (e := 5) (z := .int .u8 0) (size := 1) (bytes := 1) (by kernel_rfl)
  have hlt := h.lt
  obtain ⟨v, hb, hown, ho⟩ := h
  have c0 := (one_of_block hb).1
  have hBk := Lib.hid hb
  have HM := Lib.hid hm
  have HO := Lib.hid ho
  clear hb hm ho
  go_enter Tryd.func41, Tryd.ntmps41
  go_wp2_with (at_builtin; refine wpList_append_own_at _ rfl _ _ 55 rfl (b + 1) 5 i0 (.int .u8 0) 1 1 Tryd.underlying55 hi hz0 hz1 hz2 rfl (by decide) _ _ _ rfl hown ad m.length c (Lib.byteCells m) rfl ?c0 HM.out ?c2 ?c3 ?c4 ?c5 ?_)
  case c0 => rw [Lib.byteCells_length, Nat.mul_one]
  case c2 => intro u hu; simp only [Lib.byteCells, List.mem_map] at hu; obtain ⟨x, _, rfl⟩ := hu; rfl
  case c3 => unfold maxLen; omega
  case c4 => omega
  case c5 => omega
  intro v' w1 hown' hgrow _ hat
  have hb1 : w1.heap[b]? = some (.cells #[v] 55 (0, 0)) := by
    rw [hgrow.block b hlt (fun e => by have := (hown.lt b e.symm).1; omega)]; exact hBk.out
  obtain ⟨d0, z0⟩ := one_of_block hb1
  obtain ⟨ao, n', cap, rfl⟩ : ∃ ao n' cap, v' = .slice ao n' cap := by
    rcases hown'.2 with ⟨hv, _⟩ | ⟨g, cap, cur, hv, _⟩
    · exact ⟨_, _, _, hv⟩
    · exact ⟨_, _, _, hv⟩
  have HB1 := Lib.hid hb1
  have HO1 := Lib.hid hown'
  have HG := Lib.hid hgrow
  have HAT := Lib.hid hat
  clear hb1 hown' hgrow hat c0 hown
  go_wp2
  go_end0
  refine ⟨rfl, _, ⟨_, set_block HB1.out, ?_, rfl⟩, ?_, ap_set ⟨HG.out.os, HG.out.tape, HG.out.output, HG.out.size, fun k hk _ hne => HG.out.block k hk (by rw [HO.out]; exact hne)⟩ _⟩
  · rw [List.length_append, Lib.byteCells_append]; exact owns_far HO1.out (by simp) _
  · rcases HAT.out with e | e
    · exact .inl (by rw [e, HO.out])
    · exact .inr ⟨_, e, Nat.le_refl _⟩
/-- It is handed one byte. -/
theorem put_one (b : Nat) (o : Option Nat) (l : List UInt8) (x : UInt8) (X : Int) (hX : X = (x.toNat : Int)) (w : World) (h : Buf b o l w) (hlen : l.length ≤ 999999999) :
    Calls Tryd.prog 41 #[.slice (some ⟨w.heap.size, 0, none⟩) 1 1, .pointer (some ⟨b, 0, none⟩)] (w.alloc (.cells #[.int .u8 X] 5)) fun e w' => e = .returned (.tuple #[]) ∧ St b o (l ++ [x]) w w' := by
  have hb : Below w.heap.size w (w.alloc (.cells #[.int .u8 X] 5)) := (Below.refl _ _).alloc (Nat.le_refl _) _
  refine (put_any b o l [x] _ (h.later hb) ⟨w.heap.size, 0, none⟩ 1 ?_ (by simp; omega)).mono ?_
  · intro j u hu
    cases j with
    | zero => simp [Lib.byteCells] at hu; subst hu; subst hX; simp [Addr.add]
    | succ j => simp [Lib.byteCells] at hu
  · rintro e w' ⟨rfl, h2⟩
    exact ⟨rfl, h2.back _⟩
/-! eightBytes -/
def e8 (n i : Nat) : List UInt8 := (List.range i).map fun j => (n / 2 ^ (56 - 8 * j)).toUInt8
theorem e8_succ (n i : Nat) : e8 n (i + 1) = e8 n i ++ [(n / 2 ^ (56 - 8 * i)).toUInt8] := by
  unfold e8; rw [List.range_succ, List.map_append]; rfl
theorem e8_len (n i : Nat) : (e8 n i).length = i := by simp [e8]
theorem e8_be (n : Nat) : e8 n 8 = be 8 n := by
  simp only [e8, be, List.range, List.range.loop, List.map_cons, List.map_nil]
set_option maxHeartbeats 2000000 in
set_option maxRecDepth 100000 in
theorem eight_any (n : Nat) (w : World) :
    Calls Tryd.prog 71 #[.int .u64 n] w fun e w' => ∃ g cap, e = .returned (.slice (some ⟨g, 0, none⟩) 8 cap) ∧ (∀ j u, (Lib.byteCells (be 8 n))[j]? = some u → w'.cell? ((⟨g, 0, none⟩ : Addr).add j) = some u) ∧ Below w.heap.size w w' := by
  obtain ⟨i0, hi, hz0, hz1, hz2⟩ := info_parts (P := Tryd.prog) (e := 5) (z := .int .u8 0) (size := 1) (bytes := 1) (by kernel_rfl)
  go_enter Tryd.func71, Tryd.ntmps71
  go_wp2_with fail
  go_loopw [3, 4] (fun v s wr => ∃ i : Nat, i ≤ 8 ∧ s = .int .i64 (56 - 8 * (i : Int)) ∧ wr.ownsRow w.heap.size 5 1 v i (Lib.byteCells (e8 n i)) ∧ Below w.heap.size w wr) (fun _ s _ => (intOf s + 8).toNat)
  case atStart => exact ⟨0, by omega, rfl, World.ownsRow_nil _ _ _ _, Below.refl _ _⟩
  case round =>
    obtain ⟨i, hi8, rfl, hown, hb⟩ := hrel
    have hb' := hb
    rcases Nat.lt_or_ge i 8 with hlt | hge
    · have h1 : (0 : Int) ≤ 56 - 8 * (i : Int) := by omega
      have hv : ((n : Int) / 2 ^ (56 - 8 * i) % 256) = ((n / 2 ^ (56 - 8 * i)).toUInt8.toNat : Int) := by
        show _ = ((n / 2 ^ (56 - 8 * i) % 256 : Nat) : Int)
        push_cast; rfl
      have HV := Cod.hidm hv
      clear hv
      go_wp2_with (at_builtin; refine wpList_append_own _ rfl _ _ 55 rfl w.heap.size 5 i0 (.int .u8 0) 1 1 Tryd.underlying55 hi hz0 hz1 hz2 rfl (by decide) _ _ _ rfl (hown.alloc _) ⟨wr.heap.size, 0, none⟩ 1 1 [.int .u8 ((n : Int) / 2 ^ (56 - 8 * i) % 256)] rfl rfl ?c1 ?c2 ?c3 ?c4 ?c5 ?_)
      case c1 => intro j u hj; obtain ⟨rfl, rfl⟩ := cell_one _ j u hj; simp [Addr.add]
      case c2 => first | rfl | (intro u hu; simp at hu; subst hu; rfl)
      case c3 => unfold maxLen; omega
      case c4 => omega
      case c5 => have := hb.size; simp; omega
      intro v' w1 hown' hgrow _
      have hB := (hb'.alloc hb'.size (.cells #[.int .u8 ((n : Int) / 2 ^ (56 - 8 * i) % 256)] 5)).grown hgrow (by have := hb'.size; simp; omega) (fun k hk => (hown.lt k hk).1)
      have hc : Lib.byteCells (e8 n i) ++ [.int .u8 ((n : Int) / 2 ^ (56 - 8 * i) % 256)] = Lib.byteCells (e8 n (i + 1)) := by
        rw [e8_succ, Lib.byteCells_append, HV.out]; rfl
      rw [hc] at hown'
      clear hgrow hown hb hb' hc HV
      go_wp2
      go_roundw
      case rel => exact ⟨i + 1, by omega, by go_num, by simpa using hown', hB⟩
      case measure => simp [intOf]; omega
    · obtain rfl : i = 8 := by omega
      obtain ⟨g, cap, rfl, _, _⟩ := hown.form (by omega)
      have HC := Cod.hidm hown
      clear hown hb'
      go_wp2_with fail
      go_ret
      refine ⟨g, cap, rfl, fun j u hu => ?_, hb⟩
      rw [← e8_be] at hu
      have hj : j < 8 := by
        have := (List.getElem?_eq_some_iff.1 hu).1
        rwa [Lib.byteCells_length, e8_len] at this
      have h2 := HC.out.cellAt j (by omega)
      have e : (⟨g, 0, none⟩ : Addr).add j = ⟨g, j, none⟩ := by unfold Addr.add; split <;> simp_all
      rw [e, h2, hu]
/-! turned -/
theorem xor_full (b : Nat) (hb : b < 18446744073709551616) : 18446744073709551615 ^^^ b = 18446744073709551615 - b := by
  have e : 18446744073709551615 - b = 2 ^ 64 - (b + 1) := by
    have : (2 : Nat) ^ 64 = 18446744073709551616 := by decide
    omega
  have e2 : 18446744073709551615 = 2 ^ 64 - 1 := by decide
  rw [e]
  apply Nat.eq_of_testBit_eq
  intro i
  rw [Nat.testBit_two_pow_sub_succ hb, Nat.testBit_xor, e2, Nat.testBit_two_pow_sub_one]
  by_cases h : i < 64
  · simp [h]
  · have : b.testBit i = false := Nat.testBit_lt_two_pow (Nat.lt_of_lt_of_le hb (by
      have : (18446744073709551616 : Nat) = 2 ^ 64 := by decide
      rw [this]; exact Nat.pow_le_pow_right (by omega) (by omega)))
    simp [h, this]
theorem xor_top (x : Nat) (hx : x < 18446744073709551616) : bits .xor .u64 (x : Int) 9223372036854775808 = ((if x < 9223372036854775808 then x + 9223372036854775808 else x - 9223372036854775808 : Nat) : Int) := by
  have h := u64_xor_nat x 9223372036854775808 hx (by decide)
  have e : ((9223372036854775808 : Nat) : Int) = 9223372036854775808 := rfl
  rw [e] at h
  rw [h]
  congr 1
  have key : ∀ y : Nat, y < 9223372036854775808 → y ^^^ 9223372036854775808 = y + 9223372036854775808 := by
    intro y hy
    apply Nat.eq_of_testBit_eq
    intro i
    have e2 : (9223372036854775808 : Nat) = 2 ^ 63 := by decide
    rw [e2] at hy ⊢
    rw [Nat.testBit_xor, Nat.testBit_two_pow, Nat.add_comm y (2 ^ 63)]
    rcases Nat.lt_trichotomy i 63 with h1 | h1 | h1
    · rw [Nat.testBit_two_pow_add_gt h1, decide_eq_false (by omega)]; simp
    · subst h1; rw [Nat.testBit_two_pow_add_eq, decide_eq_true rfl]; simp
    · have p1 : (2 : Nat) ^ 63 * 2 ≤ 2 ^ i := by rw [← Nat.pow_succ]; exact Nat.pow_le_pow_right (by decide) h1
      rw [Nat.testBit_lt_two_pow (show y < 2 ^ i by omega), Nat.testBit_lt_two_pow (show 2 ^ 63 + y < 2 ^ i by omega), decide_eq_false (by omega)]; rfl
  split
  · rename_i hlt; exact key x hlt
  · rename_i hge
    have hx2 : x = (x - 9223372036854775808) + 9223372036854775808 := by omega
    have k := key (x - 9223372036854775808) (by omega)
    conv => lhs; rw [hx2, ← k]
    rw [Nat.xor_assoc, Nat.xor_self, Nat.xor_zero]
end Ky
end Go.Proofs.YtppdebhcaodcnaaDoor
