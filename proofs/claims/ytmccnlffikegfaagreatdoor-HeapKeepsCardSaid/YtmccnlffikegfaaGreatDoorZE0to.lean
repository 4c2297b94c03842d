/- A heap, plain: a page's bytes; number, numberOf; bytes in a new block. Conditions: as each says. -/
import Derived.Test.YtmccnlffikegfaaGreatDoorZPbto
import Derived.Test.YtmccnlffikegfaaGreatDoorZMan
import Derived.Test.YtmccnlffikegfaaGreatDoorZKrto
import Derived.Lib.ConvBytes
import Derived.Laws.BitsAllLaws
namespace Go.Proofs.YtmccnlffikegfaaGreatDoor
open Go.RowKit
namespace Hep
open Pgr
open Dsk (zeros pad pad_len cell_later below_keeps)
open Crc (S S_of S_size)
/-- How many pages a record of n bytes has. -/
def need (n : Nat) : Nat := max 1 ((n + 124) / 125)
theorem need_pos (n : Nat) : 1 ≤ need n := Nat.le_max_left _ _
theorem need_small {n : Nat} (h : n ≤ 125) : need n = 1 := by unfold need; omega
theorem need_more {n : Nat} (h : 125 < n) : need n = need (n - 125) + 1 := by unfold need; omega
/-- A page: the next one's number, how many bytes, these. -/
def page (nx : Nat) (p : List UInt8) : List UInt8 := pad (UInt8.ofNat (nx / 256) :: UInt8.ofNat (nx % 256) :: UInt8.ofNat p.length :: p)
def byteAt (t : List UInt8) (i : Nat) : UInt8 := (t[i]?).getD 0
def nextOf (t : List UInt8) : Nat := 256 * (byteAt t 0).toNat + (byteAt t 1).toNat
def manyOf (t : List UInt8) : Nat := (byteAt t 2).toNat
def bodyOf (t : List UInt8) : List UInt8 := (t.drop 3).take (manyOf t)
theorem page_len {nx : Nat} {p : List UInt8} (h : p.length ≤ 125) : (page nx p).length = 128 := pad_len (by simpa using h)
theorem page_next {nx : Nat} {p : List UInt8} (h : nx < 65536) : nextOf (page nx p) = nx := by
  unfold nextOf byteAt page pad
  simp only [List.cons_append, List.getElem?_cons_zero, List.getElem?_cons_succ, Option.getD_some, UInt8.toNat_ofNat']
  omega
theorem page_many {nx : Nat} {p : List UInt8} (h : p.length ≤ 125) : manyOf (page nx p) = p.length := by
  unfold manyOf byteAt page pad
  simp only [List.cons_append, List.getElem?_cons_zero, List.getElem?_cons_succ, Option.getD_some, UInt8.toNat_ofNat']
  omega
theorem page_body {nx : Nat} {p : List UInt8} (h : p.length ≤ 125) : bodyOf (page nx p) = p := by
  unfold bodyOf
  rw [page_many h]
  unfold page pad
  simp only [List.cons_append, List.drop_succ_cons, List.drop_zero]
  rw [List.take_append_of_le_length (Nat.le_refl _), List.take_length]
def two (n : Nat) : List UInt8 := [UInt8.ofNat (n / 256), UInt8.ofNat (n % 256)]
theorem tdiv_nat (a b : Nat) : ((a : Int).tdiv (b : Int)) = ((a / b : Nat) : Int) := by rw [Int.tdiv_eq_ediv_of_nonneg (by omega)]; omega
theorem at_byte (s : ByteArray) (i : Nat) (h : i < s.size) : (s[i]'h) = byteAt s.data.toList i := by
  unfold byteAt
  rw [List.getElem?_eq_getElem (by simpa using h)]
  rfl
theorem byteAt_drop (t : List UInt8) (i : Nat) : byteAt (t.drop 1) i = byteAt t (i + 1) := by
  unfold byteAt; rw [List.getElem?_drop, Nat.add_comm]
theorem i64_or_nat (a b : Nat) (ha : a < 4611686018427387904) (hb : b < 256) (h : a % 256 = 0) : bits .or .i64 (a : Int) (b : Int) = ((a + b : Nat) : Int) := by
  show IntKind.i64.wrap ((BitVec.ofInt 64 (a : Int) ||| BitVec.ofInt 64 (b : Int)).toNat : Int) = _
  rw [BitVec.toNat_or, ofInt_u64 a (by omega), ofInt_u64 b (by omega), nat_join 8 a b (by simpa using h) (by simpa using hb), IntKind.wrap_i64]
  omega
set_option maxHeartbeats 2000000 in
set_option maxRecDepth 100000 in
theorem number_any (n : Nat) (w : World) :
    Calls Tryz.prog 52 #[.int .i64 n] w fun e w' => e = .returned (.string (S (two n))) ∧ Below w.heap.size w w' := by
  have hc := run_convert_bytes_back (P := Tryz.prog) (w.alloc (.cells #[.int .u8 ((n : Int) / 256 % 256), .int .u8 ((n : Int) % 256)] 5)) 62 9 5 ⟨w.heap.size, 0, none⟩ 2 (two n) Tryz.underlying62 Tryz.underlying5 Tryz.underlying9 (by
    intro j hj
    have hj' : j = 0 ∨ j = 1 := by simp [two] at hj; omega
    have hadd : (⟨w.heap.size, 0, none⟩ : Addr).add j = ⟨w.heap.size, j, none⟩ := by unfold Addr.add; split <;> simp_all
    rw [hadd, cell_of_row _ _ j _ _ (0, 0) (heap_alloc_last w _)]
    rcases hj' with rfl | rfl
    · simp [two]
    · simp [two])
  have HC : (convert 62 9 (.slice (some ⟨w.heap.size, 0, none⟩) 2 2)).run Tryz.prog (w.alloc (.cells #[.int .u8 ((n : Int) / 256 % 256), .int .u8 ((n : Int) % 256)] 5)) = .ok (.string (S (two n))) (w.alloc (.cells #[.int .u8 ((n : Int) / 256 % 256), .int .u8 ((n : Int) % 256)] 5)) := hc
  obtain ⟨T, hT⟩ : ∃ T, T = S (two n) := ⟨_, rfl⟩
  rw [← hT] at HC ⊢
  clear hc hT
  go_enter Tryz.func52, Tryz.ntmps52
  go_wp2_with fail
  go_ret
  exact ⟨rfl, (Below.refl _ _).alloc (Nat.le_refl _) _⟩
set_option maxHeartbeats 2000000 in
set_option maxRecDepth 100000 in
theorem numberOf_any (b len cap x y : Nat) (hx : x < 256) (hy : y < 256) (hl : 2 ≤ len) (w : World) (c0 : w.cell? ⟨b, 0, none⟩ = some (.int .u8 (x : Int))) (c1 : w.cell? ⟨b, 1, none⟩ = some (.int .u8 (y : Int))) :
    Calls Tryz.prog 58 #[.slice (some ⟨b, 0, none⟩) len cap] w fun e w' => e = .returned (.int .i64 ((256 * x + y : Nat) : Int)) ∧ Below w.heap.size w w' := by
  have p0 : 0 < len := by omega
  have p1 : 1 < len := by omega
  have g0 : (0 : Int) < (len : Int) := by omega
  have g1 : (1 : Int) < (len : Int) := by omega
  obtain ⟨m, hm⟩ : ∃ m, m = x * 256 := ⟨_, rfl⟩
  have f1 : (x : Int) * 256 = (m : Int) := by omega
  have f2 : IntKind.i64.wrap (m : Int) = (m : Int) := by simp only [IntKind.wrap_i64]; omega
  have f3 := i64_or_nat m y (by omega) hy (by omega)
  obtain ⟨q, hq⟩ : ∃ q, q = m + y := ⟨_, rfl⟩
  rw [← hq] at f3
  have hr : 256 * x + y = q := by omega
  rw [hr]
  have f5 : IntKind.i64.wrap (x : Int) = (x : Int) := by simp only [IntKind.wrap_i64]; omega
  have f6 : IntKind.i64.wrap (y : Int) = (y : Int) := by simp only [IntKind.wrap_i64]; omega
  have f7 : wrap64 (m : Int) = (m : Int) := by unfold wrap64; omega
  have HC0 := hidm c0
  have HC1 := hidm c1
  clear hm hq hr hl hx hy c0 c1
  go_enter Tryz.func58, Tryz.ntmps58
  go_upto_region 1 with fail
  have HBD := hidm ((Below.refl w.heap.size w).drew)
  refine wp_region_held_drew (S := fun u => u.cell? ⟨b, 0, none⟩ = some (.int .u8 (x : Int)) ∧ u.cell? ⟨b, 1, none⟩ = some (.int .u8 (y : Int))) (by kernel_rfl) ⟨cell_later HBD.out HC0.out, cell_later HBD.out HC1.out⟩ (fun hHeld => ?_)
  refine Man.t1 0 hHeld ?_
  (try simp only [Act.put, Mqa, Mqb, Mqc])
  refine Man.t1 1 hHeld ?_
  (try simp only [Act.put, Mqa, Mqb, Mqc])
  refine Man.t1 2 hHeld ?_
  (try simp only [Act.put, Mqa, Mqb, Mqc])
  refine Man.t1 3 hHeld ?_
  (try simp only [Act.put, Mqa, Mqb, Mqc])
  refine Man.t1 4 hHeld ?_
  (try simp only [Act.put, Mqa, Mqb, Mqc])
  refine Man.t1 5 hHeld ?_
  (try simp only [Act.put, Mqa, Mqb, Mqc])
  refine Man.t1 6 hHeld ?_
  (try simp only [Act.put, Mqa, Mqb, Mqc])
  refine Man.t1 7 hHeld ?_
  (try simp only [Act.put, Mqa, Mqb, Mqc])
  refine Man.t1 8 hHeld ?_
  (try simp only [Act.put, Mqa, Mqb, Mqc])
  refine Man.t1 9 hHeld ?_
  (try simp only [Act.put, Mqa, Mqb, Mqc])
  refine Man.t1 10 hHeld ?_
  (try simp only [Act.put, Mqa, Mqb, Mqc])
  refine wpAnyH_done (by kernel_rfl) ?_ _
  go_wp2_with fail
  go_ret
  exact ⟨rfl, HBD.out⟩
/-- Bytes in a new block. -/
theorem conv_bytes (T : ByteArray) (hT : T.size ≤ 1000000) (w : World) : ∃ cap w', (convert 9 62 (.string T)).run Tryz.prog w = .ok (.slice (some ⟨w.heap.size, 0, none⟩) T.size cap) w' ∧ T.size ≤ cap ∧ cap ≤ 9223372036854775807 ∧
    (∀ j, j < T.size → w'.cell? ⟨w.heap.size, j, none⟩ = some (.int .u8 ((byteAt T.data.toList j).toNat : Int))) ∧ Below w.heap.size w w' ∧ w'.heap.size = w.heap.size + 1 := by
  refine ⟨_, _, Lib.run_convert_string_bytes w 9 62 5 T Tryz.underlying9 Tryz.underlying62 Tryz.underlying5, grownCap_ge w T.size 0 5, (by have := grownCap_le_maxLen w T.size 0 5 (by unfold maxLen; omega); unfold maxLen at this; omega), fun j hj => ?_, ⟨rfl, ?_, rfl, by rw [Lib.bytesWorld_size]; omega, fun k hk => Lib.bytesWorld_at_old _ _ _ _ hk⟩, Lib.bytesWorld_size _ _ _⟩
  · rw [Lib.bytesWorld_cell _ _ _ _ hj]
    unfold byteAt
    simp [List.getD]
  · rfl
theorem byte_lt (t : List UInt8) (i : Nat) : (byteAt t i).toNat < 256 := UInt8.toNat_lt _
end Hep
end Go.Proofs.YtmccnlffikegfaaGreatDoor
/- Pages of a record as they are read, in memory; page (over any pager), row's test, slices.IndexFunc, ContainsFunc. Conditions: as each says. -/
namespace Go.Proofs.YtmccnlffikegfaaGreatDoor
open Go.RowKit
namespace Hep
open Pgr
open Dsk (zeros pad pad_len cell_later below_keeps owns_later)
open Crc (S S_of S_size)
/-- A page of a record, and where its part lies. -/
structure Pm where
  n : Nat
  nx : Nat
  pt : List UInt8
  b : Nat
  o : Nat
def Pm.cells (x : Pm) : List Value := [.int .i64 (x.n : Int), .int .i64 (x.nx : Int), .slice (some ⟨x.b, x.o, none⟩) x.pt.length x.pt.length]
def Pm.agg (x : Pm) : Value := .agg #[.int .i64 (x.n : Int), .int .i64 (x.nx : Int), .slice (some ⟨x.b, x.o, none⟩) x.pt.length x.pt.length]
/-- These bytes lie there. -/
def Lie (b o : Nat) (p : List UInt8) (w : World) : Prop := ∀ j (h : j < p.length), w.cell? ⟨b, o + j, none⟩ = some (.int .u8 ((p[j]).toNat : Int))
theorem Lie.of {b o : Nat} {p : List UInt8} {w w' : World} (h : Lie b o p w) (hb : w'.heap[b]? = w.heap[b]?) : Lie b o p w' := fun j hj => (World.cell?_of_block (w := w) (a := ⟨b, o + j, none⟩) hb).trans (h j hj)
structure Pm.In (base : Nat) (x : Pm) (w : World) : Prop where
  lo : base ≤ x.b
  lt : x.b < w.heap.size
  lie : Lie x.b x.o x.pt w
  few : x.pt.length ≤ 125
theorem Pm.In.of {base : Nat} {x : Pm} {w w' : World} (h : x.In base w) (hb : w'.heap[x.b]? = w.heap[x.b]?) (hs : w.heap.size ≤ w'.heap.size) : x.In base w' := ⟨h.lo, Nat.lt_of_lt_of_le h.lt hs, h.lie.of hb, h.few⟩
theorem Pm.In.later {base : Nat} {x : Pm} {w w' : World} (h : x.In base w) (hb : Below w.heap.size w w') : x.In base w' := h.of (hb.block _ h.lt) hb.size
def pflat (l : List Pm) : List Value := l.flatMap Pm.cells
theorem pflat_len (l : List Pm) : (pflat l).length = l.length * 3 := by
  induction l with
  | nil => rfl
  | cons v l ih => simp only [pflat, List.flatMap_cons, List.length_append] at ih ⊢; rw [ih]; simp [Pm.cells]; omega
theorem pflat_snoc (l : List Pm) (v : Pm) : pflat (l ++ [v]) = pflat l ++ v.cells := by simp [pflat]
theorem pflat_at (vs : List Pm) : ∀ (j : Nat) (h : j < vs.length) (f : Nat), f < 3 → (pflat vs)[j * 3 + f]? = (vs[j]).cells[f]? := by
  induction vs with
  | nil => intro j h; cases h
  | cons v vs ih =>
    intro j h f hf
    have e : pflat (v :: vs) = v.cells ++ pflat vs := rfl
    have el : v.cells.length = 3 := rfl
    cases j with
    | zero => rw [e, List.getElem?_append_left (by rw [el]; omega)]; simp
    | succ j =>
      rw [e, List.getElem?_append_right (by rw [el]; omega), el, show (j + 1) * 3 + f - 3 = j * 3 + f by omega]
      exact ih j (by simpa using h) f hf
theorem pflat_take {l : List Pm} {i : Nat} (h : i < l.length) : pflat (l.take (i + 1)) = pflat (l.take i) ++ (l[i]).cells := by
  rw [List.take_succ_eq_append_getElem h, pflat_snoc]
theorem infoPm : (Tryz.prog.info? 65).map (fun i => (i.zero, i.size, i.bytes)) = some (some (.agg #[.int .i64 0, .int .i64 0, .slice none 0 0]), 3, 40) := by kernel_rfl
/-- The slice owns these pages, in blocks from base on. -/
structure PmsAt (base : Nat) (l : List Pm) (v : Value) (w : World) : Prop where
  own : w.ownsRow base 65 3 v l.length (pflat l)
  ins : ∀ x ∈ l, x.In base w
theorem PmsAt.later {base : Nat} {l : List Pm} {v : Value} {w w' : World} (h : PmsAt base l v w) (hb : Below w.heap.size w w') : PmsAt base l v w' := ⟨owns_later h.own hb, fun x hx => (h.ins x hx).later hb⟩
theorem PmsAt.nil (base : Nat) (w : World) : PmsAt base [] (.slice none 0 0) w := ⟨World.ownsRow_nil _ _ _ _, fun x hx => by cases hx⟩
theorem PmsAt.form {base : Nat} {l : List Pm} {v : Value} {w : World} (h : PmsAt base l v w) : ∃ ao cap, v = .slice ao l.length cap ∧ l.length ≤ cap ∧ cap ≤ 9223372036854775807 := by
  rcases h.own.2 with ⟨h1, h2⟩ | ⟨g, c, cur, hv, _, _, hnc, hcm, _⟩
  · exact ⟨none, 0, by rw [h1, h2], by omega, by omega⟩
  · exact ⟨_, c, hv, hnc, by unfold maxLen at hcm; omega⟩
theorem PmsAt.at {base : Nat} {l : List Pm} {v : Value} {w : World} (h : PmsAt base l v w) (i : Nat) (hi : i < l.length) : ∃ g cap, v = .slice (some ⟨g, 0, none⟩) l.length cap ∧ base ≤ g ∧ g < w.heap.size ∧
    w.cell? ⟨g, i * 3, none⟩ = some (.int .i64 ((l[i]).n : Int)) ∧ w.cell? ⟨g, i * 3 + 1, none⟩ = some (.int .i64 ((l[i]).nx : Int)) ∧ w.cell? ⟨g, i * 3 + 2, none⟩ = some (.slice (some ⟨(l[i]).b, (l[i]).o, none⟩) (l[i]).pt.length (l[i]).pt.length) := by
  obtain ⟨ao, cap, hv, _, _⟩ := h.form
  rcases h.own.2 with ⟨_, h2⟩ | ⟨g, c, cur, hv2, hlo, hh, hnc, hcm, _⟩
  · omega
  · subst hv2
    refine ⟨g, c, rfl, hlo, (h.own.lt g rfl).2, ?_, ?_, ?_⟩
    · have := h.own.cellAt (i * 3 + 0) (by omega); rw [pflat_at l i hi 0 (by omega)] at this; exact this
    · have := h.own.cellAt (i * 3 + 1) (by omega); rw [pflat_at l i hi 1 (by omega)] at this; exact this
    · have := h.own.cellAt (i * 3 + 2) (by omega); rw [pflat_at l i hi 2 (by omega)] at this; exact this
theorem three {w : World} {c : Nat} {a b d : Value} {t : TypeId} (h : w.heap[c]? = some (.cells #[a, b, d] t (0, 0))) : w.cell? ⟨c, 0, none⟩ = some a ∧ w.cell? ⟨c, 1, none⟩ = some b ∧ w.cell? ⟨c, 2, none⟩ = some d := by
  refine ⟨?_, ?_, ?_⟩ <;> simp [World.cell?, h]
theorem putk {w : World} {c k : Nat} {cs : Array Value} {u : Value} {t : TypeId} (h : w.heap[c]? = some (.cells cs t (0, 0))) : (w.setCell ⟨c, k, none⟩ u).heap[c]? = some (.cells (cs.setIfInBounds k u) t (0, 0)) := heap_setCell_same w c k _ _ _ h
theorem frz {w : World} {c : Nat} {cs : Array Value} {t : TypeId} (h : w.heap[c]? = some (.cells cs t (0, 0))) (o : Nat) : w.frozen? ⟨c, o, none⟩ = false := by simp [World.frozen?, h]
/-! ### page -/
set_option maxHeartbeats 8000000 in
set_option maxRecDepth 100000 in
theorem page_core (B P k : Nat) (T : ByteArray) (x y m nx : Nat) (w : World) (hT : T.size = 128) (hx : (byteAt T.data.toList 0).toNat = x) (hy : (byteAt T.data.toList 1).toNat = y) (hm : (byteAt T.data.toList 2).toNat = m) (hnx : nx = 256 * x + y)
    (hm5 : m ≤ 125) (hnm : nx = 0 ∨ m = 125)
    (c1 : w.cell? ⟨B, 1, none⟩ = some (.pointer (some ⟨P, 0, none⟩)))
    (C1 : ∀ u, Below w.heap.size w u → Calls Tryz.prog 42 #[.pointer (some ⟨P, 0, none⟩), .int .i64 (k : Int)] u fun e w' => e = .returned (.tuple #[.string T, .int .i64 0]) ∧ Below u.heap.size u w')
    (C2 : ∀ u, Below w.heap.size w u → Calls Tryz.prog 53 #[.pointer (some ⟨B, 0, none⟩), .int .i64 (k : Int)] u fun e w' => e = .returned (.bool true) ∧ Below u.heap.size u w') :
    Calls Tryz.prog 54 #[.pointer (some ⟨B, 0, none⟩), .int .i64 (k : Int)] w fun e w' => ∃ p : Pm, e = .returned (.tuple #[p.agg, .bool true]) ∧ p.n = k ∧ p.nx = nx ∧ p.pt = (T.data.toList.drop 3).take m ∧ p.In w.heap.size w' ∧ Below w.heap.size w w' := by
  have hbl := Nat.lt_of_lt_of_le (block_lt_of_cell c1) (Nat.le_refl _)
  have hx9 : x < 256 := by rw [← hx]; exact byte_lt _ _
  have hy9 : y < 256 := by rw [← hy]; exact byte_lt _ _
  obtain ⟨ZB, hZB⟩ : ∃ ZB, ZB = (Obj.cells #[.int .i64 0, .int .i64 0, .slice none 0 0] 65 (0, 0)) := ⟨_, rfl⟩
  have hz : (zeroValue 65).run Tryz.prog w = .ok (.agg #[.int .i64 0, .int .i64 0, .slice none 0 0]) w := by rfl
  have HZ0 := hidm (heap_alloc_new w (.cells #[.int .i64 0, .int .i64 0, .slice none 0 0] 65))
  have HB0 := hidm (show Below w.heap.size w (w.alloc (.cells #[.int .i64 0, .int .i64 0, .slice none 0 0] 65)) from (Below.refl _ _).alloc (Nat.le_refl _) _)
  have c2 := cell_later HB0.out c1
  have HC1 := hidm (C1 _ HB0.out)
  have HC2 := hidm C2
  have HXY := hidm (show x < 256 ∧ y < 256 from ⟨hx9, hy9⟩)
  have HT := hidm (show T.size ≤ 1000000 from by omega)
  have HTS := hidm hT
  have HBY := hidm (show (byteAt T.data.toList 0).toNat = x ∧ (byteAt T.data.toList 1).toNat = y ∧ (byteAt T.data.toList 2).toNat = m from ⟨hx, hy, hm⟩)
  have HNX := hidm hnx
  have HM := hidm (show m ≤ 125 ∧ m < 256 ∧ (nx = 0 ∨ m = 125) from ⟨hm5, by omega, hnm⟩)
  clear hZB ZB C1 C2 c1 hT hx hy hm hnx hm5 hnm hx9 hy9
  go_enter Tryz.func54, Tryz.ntmps54
  go_wp2_with fail
  refine HC1.out.mono ?_
  rintro e w1 ⟨rfl, hb1⟩
  have HZ1 := hidm (below_keeps hb1 HZ0.out)
  have HB1 := hidm (HB0.out.trans (hb1.mono HB0.out.size))
  have hs1 : w.heap.size + 1 ≤ w1.heap.size := by have := hb1.size; simpa using this
  have HS1 := hidm hs1
  clear hb1 c2 hs1 hz
  go_wp2_with fail
  refine (HC2.out w1 HB1.out).mono ?_
  rintro e w2 ⟨rfl, hb2⟩
  have HZ2 := hidm (below_keeps hb2 HZ1.out)
  have HB2 := hidm (HB1.out.trans (hb2.mono HB1.out.size))
  have HS2 := hidm (show w.heap.size + 1 ≤ w2.heap.size from Nat.le_trans HS1.out hb2.size)
  clear hb2
  go_upto_region 4 with fail
  obtain ⟨cap, w3, hcv, hcc, hcm, hcl, hb3, hs3⟩ := conv_bytes T HT.out w2
  have HZ3 := hidm (below_keeps hb3 HZ2.out)
  have HB3 := hidm (HB2.out.trans (hb3.mono HB2.out.size))
  have HCL := hidm hcl
  have HCC := hidm hcc
  have HCM := hidm hcm
  obtain ⟨b, hb⟩ : ∃ b, b = w2.heap.size := ⟨_, rfl⟩
  rw [← hb] at hcv hcl hs3 HCL
  have HBB := hidm (show w.heap.size + 1 ≤ b ∧ b < w3.heap.size from ⟨by rw [hb]; exact HS2.out, by omega⟩)
  clear hb3 hcl hs3 hcc hcm hb
  go_upto_region 5 with fail
  have HD := hidm ((Below.refl w3.heap.size w3).drew)
  have HB4 := hidm (HB3.out.trans (HD.out.mono HB3.out.size))
  have HZ4 := hidm (below_keeps HD.out HZ3.out)
  have N2 := hidm (fun (u : World) (hu : u.cell? ⟨b, 0, none⟩ = some (.int .u8 (x : Int)) ∧ u.cell? ⟨b, 1, none⟩ = some (.int .u8 (y : Int)) ∧ u.cell? ⟨b, 2, none⟩ = some (.int .u8 (m : Int))) => numberOf_any b T.size cap x y HXY.out.1 HXY.out.2 (by rw [HTS.out]; decide) u hu.1 hu.2.1)
  rw [← HNX.out] at N2
  have HKB := hidm (fun (u : World) (hb : Below w3.drew.heap.size w3.drew u) => (show u.cell? ⟨b, 0, none⟩ = some (.int .u8 (x : Int)) ∧ u.cell? ⟨b, 1, none⟩ = some (.int .u8 (y : Int)) ∧ u.cell? ⟨b, 2, none⟩ = some (.int .u8 (m : Int)) from by
    have g := fun j hj => cell_later hb (cell_later HD.out (HCL.out j hj))
    refine ⟨?_, ?_, ?_⟩
    · rw [g 0 (by rw [HTS.out]; decide), HBY.out.1]
    · rw [g 1 (by rw [HTS.out]; decide), HBY.out.2.1]
    · rw [g 2 (by rw [HTS.out]; decide), HBY.out.2.2]))
  have p2 : 2 < T.size := by rw [HTS.out]; decide
  have p2i : (2 : Int) < (T.size : Int) := by omega
  obtain ⟨en, hen⟩ : ∃ en, en = 3 + m := ⟨_, rfl⟩
  have e1 : (3 : Int) + (m : Int) = (en : Int) := by omega
  have e1w : IntKind.i64.wrap (en : Int) = (en : Int) := by have := HM.out.1; simp only [IntKind.wrap_i64]; omega
  have m1w : IntKind.i64.wrap (m : Int) = (m : Int) := by have := HM.out.1; simp only [IntKind.wrap_i64]; omega
  have HEN := hidm hen
  clear hen
  refine wp_region_held_drew (S := fun u => u.cell? ⟨b, 0, none⟩ = some (.int .u8 (x : Int)) ∧ u.cell? ⟨b, 1, none⟩ = some (.int .u8 (y : Int)) ∧ u.cell? ⟨b, 2, none⟩ = some (.int .u8 (m : Int))) (by kernel_rfl) (HKB.out _ (Below.refl _ _)) (fun hHeld => ?_)
  refine Man.t1 0 hHeld ?_
  (try simp only [Act.put, Mqa, Mqb, Mqc])
  refine Man.t1 2 hHeld ?_
  (try simp only [Act.put, Mqa, Mqb, Mqc])
  refine Man.t1 3 hHeld ?_
  (try simp only [Act.put, Mqa, Mqb, Mqc])
  refine Man.t1 4 hHeld ?_
  (try simp only [Act.put, Mqa, Mqb, Mqc])
  refine Man.t1 5 hHeld ?_
  (try simp only [Act.put, Mqa, Mqb, Mqc])
  refine Man.t1 6 hHeld ?_
  (try simp only [Act.put, Mqa, Mqb, Mqc])
  refine Man.one (i := 1) rfl (by kernel_rfl) (fun K hK => ?_)
  go_simp
  with_reducible refine (N2.out _ hHeld).mono ?_
  rintro e w5 ⟨rfl, hb5⟩
  have HB5 := hidm (HB4.out.trans (hb5.mono HB4.out.size))
  have HS5 := hidm (HKB.out _ hb5)
  have HZK := hidm (below_keeps hb5 HZ4.out)
  have HBK := hidm hb5
  have HW5 := hidm hb5.size
  clear hb5
  refine hK.out _ _ HS5.out (fun hNew => ?_)
  clear hK K hHeld
  have hHeld := hNew
  clear hNew
  skip
  refine Man.t1 7 hHeld ?_
  (try simp only [Act.put, Mqa, Mqb, Mqc])
  refine Man.t1 8 hHeld ?_
  (try simp only [Act.put, Mqa, Mqb, Mqc])
  refine wpAnyH_done (by kernel_rfl) ?_ _
  have HZ5 := HZK
  have HLI := hidm (show ∀ j (h : j < ((T.data.toList.drop 3).take m).length), w5.cell? ⟨b, 3 + j, none⟩ = some (.int .u8 ((((T.data.toList.drop 3).take m)[j]).toNat : Int)) from fun j hj => by
    have hl : T.data.toList.length = 128 := by rw [← HTS.out]; simp
    have hj2 : j < m ∧ j < 125 := by rw [List.length_take, List.length_drop] at hj; omega
    have h1 := cell_later HBK.out (cell_later HD.out (HCL.out (3 + j) (by rw [HTS.out]; omega)))
    rw [h1]
    congr 3
    unfold byteAt
    rw [List.getElem?_eq_getElem (by omega)]
    simp)
  have HPL := hidm (show ((T.data.toList.drop 3).take m).length = m from by
    have hl : T.data.toList.length = 128 := by rw [← HTS.out]; simp
    have := HM.out.1
    rw [List.length_take, List.length_drop]; omega)
  obtain ⟨p, hp⟩ : ∃ p, p = (T.data.toList.drop 3).take m := ⟨_, rfl⟩
  rw [← hp] at HLI HPL
  have HP := hidm hp
  clear hp HKB N2 HCL HS5 HBK
  have HBL5 := hidm (show b < w5.heap.size from by have := HBB.out.2; have := HD.out.size; have := HW5.out; omega)
  have g1 : ¬ (T.size : Int) < (en : Int) := by have := HEN.out; have := HM.out.1; have := HTS.out; omega
  have k1 : ¬ (en : Int) < 3 := by have := HEN.out; omega
  have k2 : (en : Int) ≤ (cap : Int) := by have := HEN.out; have := HM.out.1; have := HTS.out; have := HCC.out; omega
  have k3 : ¬ (cap : Int) < (en : Int) := by omega
  have k4 : (3 : Int) ≤ (en : Int) := by omega
  have k5 : en ≤ cap := by omega
  have k6 : 3 ≤ en := by omega
  have k7 := HCM.out
  have k8 : IntKind.i64.wrap ((en : Int) - 3) = (m : Int) := by have := HEN.out; have := HM.out.1; simp only [IntKind.wrap_i64]; omega
  have k9 : en - 3 = m := by have := HEN.out; omega
  obtain ⟨z0, z1, z2⟩ := three HZ5.out
  have zf0 := frz HZ5.out 0
  have zf1 := frz HZ5.out 1
  have zf2 := frz HZ5.out 2
  have FIN := hidm (show ∀ (o : Nat), Lie b o p w5 → ∀ w', w' = ((w5.setCell ⟨w.heap.size, 0, none⟩ (.int .i64 (k : Int))).setCell ⟨w.heap.size, 1, none⟩ (.int .i64 (nx : Int))).setCell ⟨w.heap.size, 2, none⟩ (.slice (some ⟨b, o, none⟩) m m) →
      (w'.cell? ⟨w.heap.size, 0, none⟩ = some (.int .i64 (k : Int)) ∧ w'.cell? ⟨w.heap.size, 1, none⟩ = some (.int .i64 (nx : Int)) ∧ w'.cell? ⟨w.heap.size, 2, none⟩ = some (.slice (some ⟨b, o, none⟩) m m)) ∧ Pm.In w.heap.size ⟨k, nx, p, b, o⟩ w' ∧ Below w.heap.size w w' from fun o hl w' hw' => by
    have h1 := putk (k := 2) (u := .slice (some ⟨b, o, none⟩) m m) (putk (k := 1) (u := .int .i64 (nx : Int)) (putk (k := 0) (u := .int .i64 (k : Int)) HZ5.out))
    rw [← hw'] at h1
    have hbw : w.heap.size ≠ b := by have := HBB.out.1; omega
    have hkb : w'.heap[b]? = w5.heap[b]? := by
      rw [hw', Below.heap_setCell _ _ _ _ (by exact fun e => hbw e.symm), Below.heap_setCell _ _ _ _ (by exact fun e => hbw e.symm), Below.heap_setCell _ _ _ _ (by exact fun e => hbw e.symm)]
    refine ⟨three h1, ⟨(show w.heap.size ≤ b from by have := HBB.out.1; omega), ?_, hl.of hkb, (show p.length ≤ 125 from by rw [HPL.out]; exact HM.out.1)⟩, ?_⟩
    · rcases Nat.lt_or_ge b w'.heap.size with h | h
      · exact h
      · have h2 := hkb
        rw [Array.getElem?_eq_none h, Array.getElem?_eq_getElem HBL5.out] at h2
        cases h2
    · rw [hw']
      exact ((HB5.out.setCell (p := ⟨w.heap.size, 0, none⟩) (Nat.le_refl _) _).setCell (p := ⟨w.heap.size, 1, none⟩) (Nat.le_refl _) _).setCell (p := ⟨w.heap.size, 2, none⟩) (Nat.le_refl _) _)
  have hnm := HM.out.2.2
  have h128 := HTS.out
  by_cases hn0 : nx = 0
  · have g2 : ((nx : Int) != 0) = false := by simp [bne, hn0]
    clear hnm hn0
    by_cases hm0 : m = 0
    · subst hm0
      have l0 : en = 3 := by have := HEN.out; omega
      subst l0
      clear k8 k9 h128 p2 p2i
      go_wp2_with fail
      obtain ⟨⟨r0, r1, r2⟩, HIN, HBW⟩ := FIN.out 0 (fun j hj => by have := HPL.out; omega) _ rfl
      refine bodyPost_ret (v := .tuple #[.agg #[.int .i64 (k : Int), .int .i64 (nx : Int), .slice (some ⟨b, 0, none⟩) 0 0], .bool true]) (by simp [results, Tryz.results54, go_sem, r0, r1, r2]) rfl ?_
      exact ⟨⟨k, nx, p, b, 0⟩, by unfold Pm.agg; rw [HPL.out], rfl, rfl, HP.out, HIN, HBW⟩
    · have l0 : ¬ en = 3 := by omega
      have l1 : ¬ (en : Int) = 3 := by omega
      clear hm0 h128 p2 p2i
      go_wp2_with fail
      obtain ⟨⟨r0, r1, r2⟩, HIN, HBW⟩ := FIN.out 3 HLI.out _ rfl
      refine bodyPost_ret (v := .tuple #[.agg #[.int .i64 (k : Int), .int .i64 (nx : Int), .slice (some ⟨b, 3, none⟩) m m], .bool true]) (by simp [results, Tryz.results54, go_sem, r0, r1, r2]) rfl ?_
      exact ⟨⟨k, nx, p, b, 3⟩, by unfold Pm.agg; rw [HPL.out], rfl, rfl, HP.out, HIN, HBW⟩
  · have g2 : ((nx : Int) != 0) = true := by simp [bne, hn0]
    have g3 : ¬ (en : Int) < (T.size : Int) := by have := HEN.out; have := HTS.out; omega
    clear hnm hn0
    by_cases hm0 : m = 0
    · subst hm0
      have l0 : en = 3 := by have := HEN.out; omega
      subst l0
      clear k8 k9 h128 p2 p2i
      go_wp2_with fail
      obtain ⟨⟨r0, r1, r2⟩, HIN, HBW⟩ := FIN.out 0 (fun j hj => by have := HPL.out; omega) _ rfl
      refine bodyPost_ret (v := .tuple #[.agg #[.int .i64 (k : Int), .int .i64 (nx : Int), .slice (some ⟨b, 0, none⟩) 0 0], .bool true]) (by simp [results, Tryz.results54, go_sem, r0, r1, r2]) rfl ?_
      exact ⟨⟨k, nx, p, b, 0⟩, by unfold Pm.agg; rw [HPL.out], rfl, rfl, HP.out, HIN, HBW⟩
    · have l0 : ¬ en = 3 := by omega
      have l1 : ¬ (en : Int) = 3 := by omega
      clear hm0 h128 p2 p2i
      go_wp2_with fail
      obtain ⟨⟨r0, r1, r2⟩, HIN, HBW⟩ := FIN.out 3 HLI.out _ rfl
      refine bodyPost_ret (v := .tuple #[.agg #[.int .i64 (k : Int), .int .i64 (nx : Int), .slice (some ⟨b, 3, none⟩) m m], .bool true]) (by simp [results, Tryz.results54, go_sem, r0, r1, r2]) rfl ?_
      exact ⟨⟨k, nx, p, b, 3⟩, by unfold Pm.agg; rw [HPL.out], rfl, rfl, HP.out, HIN, HBW⟩
/-! ### The test whether a page was in the row already -/
set_option maxHeartbeats 1000000 in
theorem test_any (x : Pm) (a q : Nat) (w : World) (ha : w.cell? ⟨a, 0, none⟩ = some (.int .i64 (q : Int))) (hn : x.n ≠ q) :
    Calls Tryz.prog 56 #[x.agg, .pointer (some ⟨a, 0, none⟩)] w fun e w' => e = .returned (.bool false) ∧ Below w.heap.size w w' := by
  have hc := hidm ha
  have hlt : a < w.heap.size := block_lt_of_cell ha
  have hne : w.heap.size ≠ a := by omega
  have hx : ((x.n : Int) == (q : Int)) = false := beq_eq_false_iff_ne.2 (by omega)
  have hb := hidm ((Below.refl w.heap.size w).alloc (Nat.le_refl _) (.cells #[.int .i64 (x.n : Int), .int .i64 (x.nx : Int), .slice (some ⟨x.b, x.o, none⟩) x.pt.length x.pt.length] 65))
  have h1 := cell_later hb.out ha
  unfold Pm.agg
  clear ha hn
  go_enter Tryz.func56, Tryz.ntmps56
  go_wp2_with fail
  go_ret
  exact ⟨rfl, hb.out⟩
def IdxP (w : World) (e : Ending) (w' : World) : Prop := e = .returned (.int .i64 (-1)) ∧ Below w.heap.size w w'
set_option maxHeartbeats 2000000 in
set_option maxRecDepth 100000 in
theorem idx_none (base a q : Nat) (l : List Pm) (sl : Value) (w : World) (h : PmsAt base l sl w) (ha : w.cell? ⟨a, 0, none⟩ = some (.int .i64 (q : Int))) (hn : ∀ x ∈ l, x.n ≠ q) :
    Calls Tryz.prog 82 #[sl, .func (.func 56) #[] #[.pointer (some ⟨a, 0, none⟩)]] w fun e w' => IdxP w e w' := by
  obtain ⟨ao, cap, rfl, hcl, hcm⟩ := h.form
  have H := hidm h
  have HA := hidm ha
  have HN := hidm hn
  obtain ⟨n, hln⟩ : ∃ n, n = l.length := ⟨_, rfl⟩
  rw [← hln] at hcl ⊢
  have HL := hidm hln
  clear h hln ha hn
  go_enter Tryz.func82, Tryz.ntmps82
  go_wp2_with fail
  go_loopw [8] (fun v wr => ∃ i : Nat, i ≤ n ∧ v = .int .i64 i ∧ Hid (Below w.heap.size w wr)) (fun v _ => n - (intOf v).toNat)
  case atStart => exact ⟨0, by omega, rfl, hidm (Below.refl _ _)⟩
  case round =>
    rename World => wr
    obtain ⟨i, hi, rfl, HB⟩ := hrel
    rcases Nat.lt_or_ge i n with hlt | hge
    · have hia : i < l.length := by have := HL.out; omega
      have f1 : (i : Int) < (n : Int) := by omega
      obtain ⟨g, c1, he1, _, _, q0, q1, q2⟩ := (H.out.later HB.out).at i hia
      simp only [Value.slice.injEq] at he1
      obtain ⟨rfl, -, rfl⟩ := he1
      have HT := hidm (test_any (l[i]) a q wr (cell_later HB.out HA.out) (HN.out _ (List.getElem_mem hia)))
      unfold Pm.agg at HT
      obtain ⟨x, hx⟩ : ∃ x, x = l[i] := ⟨_, rfl⟩
      rw [← hx] at q0 q1 q2 HT
      clear hx
      go_wp2_with (go_at_call 56; refine (HT.out).mono ?_; rintro e w1 ⟨rfl, hb1⟩)
      have HB2 := hidm (HB.out.trans (hb1.mono HB.out.size))
      clear hb1
      go_wp2_with fail
      go_roundw
      case rel => exact ⟨i + 1, by omega, by go_num, HB2⟩
      case measure => simp [intOf]; omega
    · obtain rfl : i = n := by omega
      go_wp2_with fail
      go_ret
      exact ⟨rfl, HB.out⟩
set_option maxRecDepth 100000 in
theorem been_none (base a q : Nat) (l : List Pm) (sl : Value) (w : World) (h : PmsAt base l sl w) (ha : w.cell? ⟨a, 0, none⟩ = some (.int .i64 (q : Int))) (hn : ∀ x ∈ l, x.n ≠ q) :
    Calls Tryz.prog 55 #[sl, .func (.func 56) #[] #[.pointer (some ⟨a, 0, none⟩)]] w fun e w' => e = .returned (.bool false) ∧ Below w.heap.size w w' := by
  have I := hidm (idx_none base a q l sl w h ha hn)
  obtain ⟨ao, cap, rfl, _, _⟩ := h.form
  clear h ha hn
  go_enter Tryz.func55, Tryz.ntmps55
  go_wp2_with fail
  refine I.out.mono ?_
  rintro e w1 ⟨rfl, hb⟩
  have HB := hidm hb
  clear hb I
  go_wp2_with fail
  go_ret
  exact ⟨rfl, HB.out⟩
end Hep
end Go.Proofs.YtmccnlffikegfaaGreatDoor
/- The program's heap: parts (a record cut). Condition: the record is at most 100000 bytes. -/
namespace Go.Proofs.YtmccnlffikegfaaGreatDoor
open Go.RowKit
namespace Hep
open Pgr
open Dsk (zeros pad pad_len cell_later below_keeps owns_later)
open Crc (S S_of S_size S_append)
/-- Part i of the bytes in block b. -/
def partV (b : Nat) (s : List UInt8) (i : Nat) : Value := .slice (some ⟨b, 125 * i, none⟩) (min 125 (s.length - 125 * i)) (min 125 (s.length - 125 * i))
def partVs (b : Nat) (s : List UInt8) (n : Nat) : List Value := (List.range n).map (partV b s)
theorem partVs_len (b : Nat) (s : List UInt8) (n : Nat) : (partVs b s n).length = n := by simp [partVs]
theorem partVs_snoc (b : Nat) (s : List UInt8) (n : Nat) : partVs b s (n + 1) = partVs b s n ++ [partV b s n] := by simp [partVs, List.range_succ]
theorem partVs_at (b : Nat) (s : List UInt8) {n i : Nat} (h : i < n) : (partVs b s n)[i]? = some (partV b s i) := by
  unfold partVs; simp [h]
theorem infoPt : (Tryz.prog.info? 62).map (fun i => (i.zero, i.size, i.bytes)) = some (some (.slice none 0 0), 1, 24) := by kernel_rfl
theorem sl_one (a : Option Addr) (n c : Nat) : ∀ u ∈ [Value.slice a n c], u.oneCell' = true := by
  intro u hu
  simp at hu
  rw [hu]; rfl
theorem cell_one {w : World} {t : TypeId} (a : Value) : ∀ j u, ([a] : List Value)[j]? = some u → (w.alloc (.cells #[a] t)).cell? ((⟨w.heap.size, 0, none⟩ : Addr).add j) = some u := by
  intro j u hu
  rcases j with _ | j
  · simp at hu; subst hu; simp [Addr.add, go_sem]
  · simp at hu
def lenV : Value → Nat
  | .slice _ n _ => n
  | _ => 0
/-- What parts comes to. -/
def PartsP (s : List UInt8) (w : World) (e : Ending) (w' : World) : Prop := ∃ v b, e = .returned v ∧ w'.ownsRow (b + 1) 62 1 v (need s.length) (partVs b s (need s.length)) ∧ w.heap.size ≤ b ∧ b < w'.heap.size ∧ Lie b 0 s w' ∧ Below w.heap.size w w'
set_option maxHeartbeats 8000000 in
set_option maxRecDepth 100000 in
theorem parts_any (s : List UInt8) (hs : s.length ≤ 100000) (w : World) :
    Calls Tryz.prog 25 #[.string (S s)] w fun e w' => PartsP s w e w' := by
  obtain ⟨i0, hi0, hz0, hz1, hz2⟩ := info_parts infoPt
  obtain ⟨cap, w1, hcv, hcc, hcm, hcl, hb1, hs1⟩ := conv_bytes (S s) (by rw [S_size]; omega) w
  obtain ⟨b, hb⟩ : ∃ b, b = w.heap.size := ⟨_, rfl⟩
  obtain ⟨n, hn⟩ : ∃ n, n = s.length := ⟨_, rfl⟩
  have hsz : (S s).size = n := by rw [S_size, hn]
  rw [hsz] at hcv hcc hcl
  have HLI := hidm (show Lie b 0 s w1 from fun j hj => by
    rw [Nat.zero_add, hb, hcl j (by omega)]
    unfold byteAt
    rw [List.getElem?_eq_getElem hj]; rfl)
  rw [← hb] at hcv hs1
  have HBW := hidm (show w.heap.size ≤ b ∧ b + 1 = w1.heap.size from ⟨by omega, by omega⟩)
  have HB1 := hidm hb1
  have HN := hidm hn
  have HN9 := hidm (show n ≤ 100000 from by omega)
  have HCC := hidm (show n ≤ cap ∧ cap ≤ 9223372036854775807 from ⟨hcc, hcm⟩)
  obtain ⟨T, hT⟩ : ∃ T, T = S s := ⟨_, rfl⟩
  rw [← hT] at hcv ⊢
  clear hT hsz hcc hcm hcl hb1 hb hn hs hs1
  go_enter Tryz.func25, Tryz.ntmps25
  go_wp2_with fail
  go_loopw [3, 4] (fun left ll wr => ∃ (i k c : Nat) (vo : Option Addr) (vc : Nat), left = .slice (some ⟨b, 125 * i, none⟩) k c ∧ ll = .slice vo i vc ∧ i ≤ 1000 ∧ k ≤ c ∧ c ≤ 9223372036854775807 ∧ k ≤ 100000 ∧ Hid (k + 125 * i = n ∧ i + need k = need n) ∧ Hid (wr.ownsRow (b + 1) 62 1 (.slice vo i vc) i (partVs b s i)) ∧ Hid (Lie b 0 s wr) ∧ Hid (Below w.heap.size w wr ∧ b + 1 ≤ wr.heap.size)) (fun left _ _ => lenV left)
  case atStart => exact ⟨0, n, cap, none, 0, rfl, rfl, by omega, HCC.out.1, HCC.out.2, HN9.out, hidm ⟨by omega, by omega⟩, hidm (World.ownsRow_nil _ _ _ _), HLI, hidm ⟨HB1.out, by have := HBW.out.2; omega⟩⟩
  case round =>
    rename World => wr
    obtain ⟨i, k, c, vo, vc, rfl, rfl, hi9, hkc, hc9, hk9, HK, HO, HL, HB⟩ := hrel
    clear hcv
    by_cases hbig : 125 < k
    · have g1 : (125 : Int) < (k : Int) := by omega
      have k1 : ¬ (c : Int) < 125 := by omega
      have k2 : (125 : Int) ≤ (c : Int) := by omega
      have k3 : 125 ≤ c := by omega
      have k4 : ¬ c = 125 := by omega
      have k5 : 125 ≤ k := by omega
      have k6 : (125 : Int) ≤ (k : Int) := by omega
      have k7 : ¬ (k : Int) < 125 := by omega
      have HP := hidm (show Value.slice (some ⟨b, 125 * i, none⟩) 125 125 = partV b s i from by
        unfold partV
        have := HK.out.1
        rw [show min 125 (s.length - 125 * i) = 125 by rw [← HN.out]; omega])
      have HKC := hidm (show k ≤ c ∧ c ≤ 9223372036854775807 ∧ k ≤ 100000 ∧ i ≤ 1000 from ⟨hkc, hc9, hk9, hi9⟩)
      have HNX := hidm (show k - 125 + 125 * (i + 1) = n ∧ i + 1 + need (k - 125) = need n from by
        have h1 := HK.out
        rw [need_more hbig] at h1
        omega)
      have HI9 := hidm (show i + 1 ≤ 1000 from by have := HNX.out.1; have := HN9.out; omega)
      clear hkc hc9 hk9 hbig
      go_upto_region 4 with fail
      go_wp2_with (at_builtin; refine wpList_append_own _ rfl _ _ 60 rfl (b + 1) 62 i0 (.slice none 0 0) 1 24 Tryz.underlying60 hi0 hz0 hz1 hz2 rfl (by decide) _ _ _ rfl (owns_later HO.out ((Below.refl _ _).alloc (Nat.le_refl _) _)) ⟨wr.heap.size, 0, none⟩ 1 1 [.slice (some ⟨b, 125 * i, none⟩) 125 125] rfl rfl ?CA ?CB ?CC ?CD ?CE ?_)
      (try (case CA => exact cell_one _))
      (try (case CB => first | rfl | exact sl_one _ _ _))
      case CC => (try unfold maxLen); omega
      case CD => omega
      case CE => have := HB.out.2; (try simp); omega
      intro v' w6 hown hgrow _
      rw [HP.out, ← partVs_snoc] at hown
      obtain ⟨so, sc, hvv⟩ : ∃ so sc, v' = .slice so (i + 1) sc := by
        rcases hown.2 with ⟨hv, h0⟩ | ⟨g', c', cur, hv, _⟩
        · exact absurd h0 (by omega)
        · exact ⟨_, _, hv⟩
      subst hvv
      have HO2 := hidm hown
      have hbg : w6.heap[b]? = wr.heap[b]? := by
        rw [hgrow.block b (by have := HB.out.2; simp; omega) (fun e => by
          have := (HO.out.lt b e.symm).1
          omega)]
        exact ((Below.refl wr.heap.size wr).alloc (Nat.le_refl _) _).block b (by have := HB.out.2; omega)
      have HL2 := hidm (HL.out.of hbg)
      have hs6 := hgrow.size
      have HB6 := hidm (show Below w.heap.size w w6 ∧ b + 1 ≤ w6.heap.size from ⟨(HB.out.1.alloc HB.out.1.size _).grown hgrow (by have := HB.out.1.size; simp; omega) (fun z hz => by have h1 := (HO.out.lt z hz).1; have h2 := HBW.out.1; omega), by have := HB.out.2; simp at hs6; omega⟩)
      clear hown hgrow hbg hs6
      go_wp2_with fail
      go_roundw
      case rel => exact ⟨i + 1, k - 125, c - 125, so, sc, by rw [show 125 * (i + 1) = 125 * i + 125 by omega], rfl, HI9.out, by have := HKC.out; omega, by have := HKC.out; omega, by have := HKC.out; omega, HNX, HO2, HL2, HB6⟩
      case measure => simp [lenV]; omega
    · have g1 : ¬ (125 : Int) < (k : Int) := by omega
      have k1 : ¬ (c : Int) < (k : Int) := by omega
      have k2 : (k : Int) ≤ (c : Int) := by omega
      have k8 : ¬ (k : Int) < 0 := by omega
      have HP := hidm (show Value.slice (some ⟨b, 125 * i, none⟩) k k = partV b s i from by
        unfold partV
        have := HK.out.1
        rw [show min 125 (s.length - 125 * i) = k by rw [← HN.out]; omega])
      have HND := hidm (show need s.length = i + 1 from by have h1 := HK.out.2; rw [need_small (by omega)] at h1; rw [← HN.out]; omega)
      clear hbig
      go_upto_region 6 with fail
      go_wp2_with (at_builtin; refine wpList_append_own _ rfl _ _ 60 rfl (b + 1) 62 i0 (.slice none 0 0) 1 24 Tryz.underlying60 hi0 hz0 hz1 hz2 rfl (by decide) _ _ _ rfl (owns_later HO.out ((Below.refl _ _).alloc (Nat.le_refl _) _)) ⟨wr.heap.size, 0, none⟩ 1 1 [.slice (some ⟨b, 125 * i, none⟩) k k] rfl rfl ?DA ?DB ?DC ?DD ?DE ?_)
      (try (case DA => exact cell_one _))
      (try (case DB => first | rfl | exact sl_one _ _ _))
      case DC => (try unfold maxLen); omega
      case DD => omega
      case DE => have := HB.out.2; (try simp); omega
      intro v' w6 hown hgrow _
      rw [HP.out, ← partVs_snoc] at hown
      have hbg : w6.heap[b]? = wr.heap[b]? := by
        rw [hgrow.block b (by have := HB.out.2; simp; omega) (fun e => by
          have := (HO.out.lt b e.symm).1
          omega)]
        exact ((Below.refl wr.heap.size wr).alloc (Nat.le_refl _) _).block b (by have := HB.out.2; omega)
      have hs6 := hgrow.size
      have HFIN := hidm (show PartsP s w (.returned v') w6 from ⟨v', b, rfl, by rw [HND.out]; exact hown, HBW.out.1, by have := HB.out.2; simp at hs6; omega, HL.out.of hbg, (HB.out.1.alloc HB.out.1.size _).grown hgrow (by have := HB.out.1.size; simp; omega) (fun z hz => by have h1 := (HO.out.lt z hz).1; have h2 := HBW.out.1; omega)⟩)
      clear hown hgrow hbg hs6
      go_wp2_with fail
      go_ret
      exact HFIN.out
end Hep
end Go.Proofs.YtmccnlffikegfaaGreatDoor
