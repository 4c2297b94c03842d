/- The program's heap over its pager: page, row. Conditions: as each says. -/
import Derived.Test.YtmccnlffikegfaaGreatDoorZErto
import Derived.Test.YtmccnlffikegfaaGreatDoorZE0to
import Derived.Test.YtmccnlffikegfaaGreatDoorZEbto
import Derived.Maps.AppendAt
import Derived.Laws.OwnMore
import Derived.Lib.AppendZeros
import Derived.Deep.DeepCutAuto
import Derived.Deep.CutBlock
import Derived.Test.YtmccnlffikegfaaGreatDoorZPqto
import Derived.Lib.FrozenHead2
namespace Go.Proofs.YtmccnlffikegfaaGreatDoor
open Go.RowKit
namespace Hep
open Pgr
open Dsk (zeros pad pad_len KeepQ Only cell_later below_keeps owns_later)
open Crc (S S_of S_size S_append)
section
variable {W w w' : World} {Q Q' : Nat → Prop} {B P L D n N K : Nat} {u : Bool} {c c' : Nat} {V G G' : Pages}
theorem hpage_any (h : HG W Q B P L D n N K u V c G w) (k : Nat) (h2 : 2 ≤ k) (hN : k < N) (hu : inU G k = true) (hm : manyOf (G k) ≤ 125) (hx : nextOf (G k) = 0 ∨ manyOf (G k) = 125) :
    Calls Tryz.prog 54 #[.pointer (some ⟨B, 0, none⟩), .int .i64 (k : Int)] w fun e w' => ∃ p : Pm, e = .returned (.tuple #[p.agg, .bool true]) ∧ p.n = k ∧ p.nx = nextOf (G k) ∧ p.pt = bodyOf (G k) ∧ p.In w.heap.size w' ∧ Below w.heap.size w w' := by
  have hl := h.len hN
  refine (page_core B P k (S (G k)) _ _ _ (nextOf (G k)) w (by rw [S_size]; exact hl) rfl rfl rfl rfl hm hx h.c1 (fun z hz => (h.later hz).pg.read k hN) (fun z hz => ?_)).mono fun e w' hh => hh
  have := holds_any (h.later hz) (k : Int)
  rw [holds_yes h2 hN hu] at this
  exact this
theorem walk_next {q : Nat} {r : List Nat × List UInt8} (h : walk N G N q = some r) (h0 : q ≠ 0) : 2 ≤ q ∧ q < N ∧ inU G q = true ∧ manyOf (G q) ≤ 125 ∧ (nextOf (G q) = 0 ∨ manyOf (G q) = 125) ∧ ∃ r', walk N G N (nextOf (G q)) = some r' ∧ r = (q :: r'.1, bodyOf (G q) ++ r'.2) := by
  obtain ⟨f', r', _, a1, a2, a3, a4, a5, a6, a7⟩ := walk_step h h0
  exact ⟨a1, a2, a3, a4, a5, r', walk_more a6 N (walk_full a6), a7⟩
end
def lenW : Value → Nat
  | .slice _ n _ => n
  | _ => 0
section
variable {base : Nat} {l : List Pm} {v : Value} {w w' : World} {a q : Nat} {x : Pm}
theorem pm_cells {w : World} {t : TypeId} (a b d : Value) : ∀ j u, ([a, b, d] : List Value)[j]? = some u → (w.alloc (.cells #[a, b, d] t)).cell? ((⟨w.heap.size, 0, none⟩ : Addr).add j) = some u := by
  intro j u hu
  have hadd : (⟨w.heap.size, 0, none⟩ : Addr).add j = ⟨w.heap.size, j, none⟩ := by unfold Addr.add; split <;> simp_all
  rw [hadd, cell_of_row _ _ j _ _ (0, 0) (heap_alloc_last w _), ← hu]
  simp
theorem pm_one (x : Pm) : ∀ u ∈ x.cells, u.oneCell' = true := by
  intro u hu
  simp [Pm.cells] at hu
  rcases hu with rfl | rfl | rfl <;> rfl
/-- append(v, x) -/
theorem pms_append (h : w.ownsRow base 65 3 v l.length (pflat l)) (x : Pm) (g c : Nat) (hc : ∀ j u, (x.cells)[j]? = some u → w.cell? ((⟨g, 0, none⟩ : Addr).add j) = some u) (hn : l.length + 1 ≤ 100000) (hb : base ≤ w.heap.size) (ty : TypeId) :
    ∃ v' w', (Builtin.append_ #[66, 66] ty #[v, .slice (some ⟨g, 0, none⟩) 1 c]).run Tryz.prog w = .ok v' w' ∧ w'.ownsRow base 65 3 v' (l.length + 1) (pflat (l ++ [x])) ∧ w.grownBy w' v.ownBlock ∧ (∀ g, v'.ownBlock = some g → v.ownBlock = some g ∨ w.heap.size ≤ g) := by
  obtain ⟨i0, hi0, hz0, hz1, hz2⟩ := info_parts infoPm
  obtain ⟨v', w', hr, hown, hgr, _, hob⟩ := run_append_own_at (P := Tryz.prog) (w := w) base 66 ty 65 i0 (.agg #[.int .i64 0, .int .i64 0, .slice none 0 0]) 3 40 Tryz.underlying66 hi0 hz0 hz1 hz2 rfl (by decide) v l.length (pflat l) h ⟨g, 0, none⟩ 1 c x.cells rfl hc (pm_one x) (by unfold maxLen; omega) (by omega) hb
  rw [← pflat_snoc] at hown
  refine ⟨v', w', hr, hown, hgr, fun g' hg => ?_⟩
  rcases hob with e | e
  · rw [e] at hg; exact .inl hg
  · rw [e] at hg; cases hg; exact .inr (Nat.le_refl _)
theorem wpList_pms {ops : Array Oper} {rest : List Oper} {o : Oper} {a : Act} {Qx : Exit → Act → World → Prop} (hgd : o.guard = none) (s y : Operand)
    (ho : o.op = .call { callee := .builtin .append, args := #[s, y], argTypes := #[66, 66] }) (hs : a.eval s = v) (h : w.ownsRow base 65 3 v l.length (pflat l)) (x : Pm) (g c : Nat) (hx : a.eval y = .slice (some ⟨g, 0, none⟩) 1 c)
    (hc : ∀ j u, (x.cells)[j]? = some u → w.cell? ((⟨g, 0, none⟩ : Addr).add j) = some u) (hn : l.length + 1 ≤ 100000) (hb : base ≤ w.heap.size)
    (hK : ∀ v' w', w'.ownsRow base 65 3 v' (l.length + 1) (pflat (l ++ [x])) → w.grownBy w' v.ownBlock → (∀ g, v'.ownBlock = some g → v.ownBlock = some g ∨ w.heap.size ≤ g) → wpList Tryz.prog ops Qx rest (a.put o.dst v') w') : wpList Tryz.prog ops Qx (o :: rest) a w := by
  obtain ⟨v', w', hr, hp, hg, ho2⟩ := pms_append h x g c hc hn hb o.type
  exact Lib.wpList_append_run w hgd s y _ _ ho v _ hs hx v' w' hr (hK v' w' hp hg ho2)
/-- A row of pages as it is read, and the number of the next one in its box. -/
structure RowSt (base : Nat) (l : List Pm) (v : Value) (a q : Nat) (w : World) : Prop where
  pm : PmsAt base l v w
  sep : ∀ x ∈ l, v.ownBlock ≠ some x.b
  box : w.heap[a]? = some (.cells #[.int .i64 (q : Int)] 3 (0, 0))
  ba : base ≤ a
  an : v.ownBlock ≠ some a
  ap : ∀ x ∈ l, x.b ≠ a
theorem RowSt.later (h : RowSt base l v a q w) (hb : Below w.heap.size w w') : RowSt base l v a q w' := ⟨h.pm.later hb, h.sep, below_keeps hb h.box, h.ba, h.an, h.ap⟩
theorem RowSt.cell (h : RowSt base l v a q w) : w.cell? ⟨a, 0, none⟩ = some (.int .i64 (q : Int)) := cell_of_row w a 0 _ _ (0, 0) h.box
theorem RowSt.next {nx : Nat} {wr w3 w5 : World} {C : Obj} {v' : Value} (h0 : RowSt base l v a q wr) (hb : Below wr.heap.size wr w3) (hx : x.In wr.heap.size w3) (hbm : base ≤ wr.heap.size) (hnx : nx = x.nx)
    (hown : w5.ownsRow base 65 3 v' (l.length + 1) (pflat (l ++ [x]))) (hgrow : (w3.alloc C).grownBy w5 v.ownBlock) (hobl : ∀ g, v'.ownBlock = some g → v.ownBlock = some g ∨ w3.heap.size ≤ g) :
    RowSt base (l ++ [x]) v' w5.heap.size nx ((w5.setCell ⟨a, 0, none⟩ (.int .i64 (nx : Int))).alloc (.cells #[.int .i64 (nx : Int)] 3)) ∧ (∀ k, k < w3.heap.size → v.ownBlock ≠ some k → w5.heap[k]? = w3.heap[k]?) ∧ w3.heap.size ≤ w5.heap.size := by
  have hs := hb.size
  have hs5 : w3.heap.size ≤ w5.heap.size := by have := hgrow.size; simp at this; omega
  have hol : ∀ g, v.ownBlock = some g → g < wr.heap.size := fun g hg => (h0.pm.own.lt g hg).2
  have hal : a < wr.heap.size := lt_of_block h0.box
  have hk : ∀ k, k < w3.heap.size → v.ownBlock ≠ some k → w5.heap[k]? = w3.heap[k]? := fun k hk hn => by
    rw [hgrow.block k (by simp; omega) (fun e => hn e.symm)]
    exact ((Below.refl w3.heap.size w3).alloc (Nat.le_refl _) C).block k hk
  have hxl := hx.lt
  have hne : ∀ g, v'.ownBlock = some g → g ≠ a ∧ g < w5.heap.size := fun g hg => by
    refine ⟨fun e => ?_, (hown.lt g hg).2⟩
    rcases hobl g hg with e2 | e2
    · exact h0.an (by rw [e2, e])
    · omega
  have hseven : ∀ k, k ≠ a → k < w5.heap.size → ((w5.setCell ⟨a, 0, none⟩ (.int .i64 (nx : Int))).alloc (.cells #[.int .i64 (nx : Int)] 3)).heap[k]? = w5.heap[k]? := fun k hka hk5 => by
    rw [((Below.refl w5.heap.size (w5.setCell ⟨a, 0, none⟩ (.int .i64 (nx : Int)))).alloc (by simp) _).block k hk5]
    exact Below.heap_setCell _ _ _ _ (by exact hka)
  have hsz : ((w5.setCell ⟨a, 0, none⟩ (.int .i64 (nx : Int))).alloc (.cells #[.int .i64 (nx : Int)] 3)).heap.size = w5.heap.size + 1 := by simp
  refine ⟨⟨⟨?_, fun y hy => ?_⟩, fun y hy e => ?_, ?_, by omega, fun e => ?_, fun y hy e => ?_⟩, hk, hs5⟩
  · rw [List.length_append, List.length_singleton]
    exact Dsk.ownsRow_of hown (fun g hg => hseven g (hne g hg).1 (hne g hg).2)
  · rcases List.mem_append.1 hy with h1 | h1
    · have h2 := (h0.pm.ins y h1)
      have h3 := h2.lt
      exact (h2.later hb).of ((hseven y.b (h0.ap y h1) (by omega)).trans (hk y.b (by omega) (h0.sep y h1))) (by rw [hsz]; omega)
    · obtain rfl := List.mem_singleton.1 h1
      have h4 := hx.lo
      have h5 := hx.of ((hseven y.b (by omega) (by omega)).trans (hk y.b hxl (fun e => by have := hol _ e; omega))) (by rw [hsz]; omega)
      exact ⟨by omega, h5.lt, h5.lie, h5.few⟩
  · rcases List.mem_append.1 hy with h1 | h1
    · have h3 := (h0.pm.ins y h1).lt
      rcases hobl _ e with e2 | e2
      · exact h0.sep y h1 e2
      · omega
    · obtain rfl := List.mem_singleton.1 h1
      have h4 := hx.lo
      rcases hobl _ e with e2 | e2
      · have := hol _ e2; omega
      · omega
  · have h9 := heap_alloc_last (w5.setCell ⟨a, 0, none⟩ (.int .i64 (nx : Int))) (.cells #[.int .i64 (nx : Int)] 3)
    rw [show (w5.setCell ⟨a, 0, none⟩ (.int .i64 (nx : Int))).heap.size = w5.heap.size from by simp] at h9
    exact h9
  · have := (hne _ e).2; omega
  · rcases List.mem_append.1 hy with h1 | h1
    · have h3 := (h0.pm.ins y h1).lt
      omega
    · obtain rfl := List.mem_singleton.1 h1
      omega
end
section
variable {W w w' : World} {Q Q' : Nat → Prop} {B P L D n N K : Nat} {u : Bool} {c c' : Nat} {V G G' : Pages}
/-- The record's pages, as they are read. -/
def RowP (r : Rec) (c : Int) (w : World) (e : Ending) (w' : World) : Prop := ∃ v l, e = .returned (.tuple #[v, .int .i64 c]) ∧ PmsAt w.heap.size l v w' ∧ l.map Pm.n = r.1 ∧ l.flatMap Pm.pt = r.2 ∧ Below w.heap.size w w'
set_option maxHeartbeats 4000000 in
set_option maxRecDepth 100000 in
theorem hrow_no (h : HG W Q B P L D n N K u V c G w) (id : Int) (hid : noId N G id) :
    Calls Tryz.prog 27 #[.pointer (some ⟨B, 0, none⟩), .int .i64 id] w fun e w' => RowP ([], []) 4 w e w' := by
  have C1 := hidm (hgvn_yes B w h.c0)
  have C2 := holds_any h id
  have hb : holdsB N G id = false := by
    unfold holdsB
    rcases hid with e | e | e
    · rw [decide_eq_false (by omega)]; rfl
    · rw [decide_eq_false (p := id < (N : Int)) (by omega)]; simp
    · rw [e]; simp
  rw [hb] at C2
  have C2 := hidm C2
  clear h hid hb
  go_enter Tryz.func27, Tryz.ntmps27
  go_wp2_with fail
  refine C1.out.mono ?_
  rintro e w1 ⟨rfl, rfl⟩
  go_wp2_with fail
  refine C2.out.mono ?_
  rintro e w2 ⟨rfl, hb⟩
  have HB := hidm hb
  clear hb
  go_wp2_with fail
  go_ret2
  exact ⟨_, [], rfl, PmsAt.nil _ _, rfl, rfl, HB.out⟩
theorem hrow_nil (p : Option Addr) (id : Int) (w : World) (h : NotHeap p w) : Calls Tryz.prog 27 #[.pointer p, .int .i64 id] w fun e w' => e = .returned (.tuple #[.slice none 0 0, .int .i64 13]) ∧ w = w' := by
  have C := hidm (hgvn_no p w h)
  clear h
  go_enter Tryz.func27, Tryz.ntmps27
  go_wp2_with fail
  refine C.out.mono ?_
  rintro e w1 ⟨rfl, rfl⟩
  go_wp2_with fail
  go_ret2
  exact ⟨rfl, rfl⟩
set_option maxHeartbeats 8000000 in
set_option maxRecDepth 100000 in
theorem hrow_yes (h : HG W Q B P L D n N K u V c G w) (k : Nat) (h2 : 2 ≤ k) (hN : k < N) (hu : inU G k = true) (r : Rec) (hw : walk N G N k = some r) :
    Calls Tryz.prog 27 #[.pointer (some ⟨B, 0, none⟩), .int .i64 (k : Int)] w fun e w' => RowP r 0 w e w' := by
  have C1 := hidm (hgvn_yes B w h.c0)
  have C2 := holds_any h (k : Int)
  rw [holds_yes h2 hN hu] at C2
  have C2 := hidm C2
  have HH := hidm h
  have HSZ := hidm h.sz
  have HR1 := hidm (show r.1.length ≤ N from walk_full hw)
  have HRN := hidm (show r.1.Nodup from walk_once hw)
  have HW0 := hidm (show ∃ r', walk N G N k = some r' ∧ r.1 = ([] : List Pm).map Pm.n ++ r'.1 ∧ r.2 = ([] : List Pm).flatMap Pm.pt ++ r'.2 from ⟨r, hw, rfl, rfl⟩)
  have HK9 := hidm (show k < 65536 from by have := h.sz; omega)
  clear h h2 hN hu hw
  go_enter Tryz.func27, Tryz.ntmps27
  go_wp2_with fail
  refine C1.out.mono ?_
  rintro e w1 ⟨rfl, rfl⟩
  go_wp2_with fail
  refine C2.out.mono ?_
  rintro e w2 ⟨rfl, hb2⟩
  have HB2 := hidm hb2
  clear hb2 C1 C2
  go_wp2_with fail
  obtain ⟨w3, hw3⟩ : ∃ w3, w3 = w2.alloc (.cells #[.int .i64 (k : Int)] 3) := ⟨_, rfl⟩
  obtain ⟨a0, ha0⟩ : ∃ a0, a0 = w2.heap.size := ⟨_, rfl⟩
  have HS3 := hidm (show RowSt w.heap.size [] (.slice none 0 0) a0 k w3 from ⟨PmsAt.nil _ _, (fun x hx => by cases hx), (by rw [hw3, ha0]; exact heap_alloc_last w2 _), (by rw [ha0]; exact HB2.out.size), (fun e => by cases e), (fun x hx => by cases hx)⟩)
  have HB3 := hidm (show Below w.heap.size w w3 from by rw [hw3]; exact HB2.out.alloc HB2.out.size _)
  rw [← hw3, ← ha0]
  clear hw3 ha0
  go_loopw [6, 7] (fun row ap wr => ∃ (l : List Pm) (a q : Nat) (vo : Option Addr) (vc i : Nat), ap = .pointer (some ⟨a, 0, none⟩) ∧ row = .slice vo i vc ∧ i ≤ N ∧ q < 65536 ∧ Hid (i = l.length) ∧ Hid (RowSt w.heap.size l (.slice vo i vc) a q wr) ∧ Hid (∃ r', walk N G N q = some r' ∧ r.1 = l.map Pm.n ++ r'.1 ∧ r.2 = l.flatMap Pm.pt ++ r'.2) ∧ Hid (Below w.heap.size w wr)) (fun row _ _ => N - lenW row)
  case atStart => exact ⟨[], a0, k, none, 0, 0, rfl, rfl, by omega, HK9.out, hidm rfl, HS3, HW0, HB3⟩
  case round =>
    clear HS3 HW0 HB3 HB2
    rename World => wr
    obtain ⟨l, a, q, vo, vc, i, rfl, rfl, hiN, hq9, HI, HS, HW, HB⟩ := hrel
    have ca := HS.out.cell
    by_cases h0 : q = 0
    · subst h0
      have g1 : (((0 : Nat) : Int) != 0) = false := rfl
      have HFIN := hidm (show RowP r 0 w (.returned (.tuple #[.slice vo i vc, .int .i64 0])) wr from by
        obtain ⟨r', h1, h2, h3⟩ := HW.out
        rw [walk_zero] at h1
        cases h1
        exact ⟨_, l, rfl, HS.out.pm, by simpa using h2.symm, by simpa using h3.symm, HB.out⟩)
      go_wp2_with fail
      go_ret2
      exact HFIN.out
    · have g1 : ((q : Int) != 0) = true := by simp [bne, h0]
      obtain ⟨r', h1, hr1, hr2⟩ := HW.out
      obtain ⟨b1, b2, b3, b4, b5, r2, hw2, hr'⟩ := walk_next h1 h0
      have hnl : ∀ x ∈ l, x.n ≠ q := fun x hx e => by
        have h9 := HRN.out
        rw [hr1, hr'] at h9
        exact (List.nodup_append.1 h9).2.2 x.n (List.mem_map.2 ⟨x, hx, rfl⟩) q (by simp) e
      have hiN2 : i + 1 ≤ N := by
        have h9 := HR1.out
        rw [hr1, hr', List.length_append, List.length_map, List.length_cons] at h9
        have := HI.out
        omega
      have CP := hidm (fun (z : World) (hz : Below w.heap.size w z) => hpage_any (HH.out.later hz) q b1 b2 b3 b4 b5)
      have HNL := hidm hnl
      have HIN := hidm hiN2
      have HNX := hidm (show nextOf (G q) < 65536 from by unfold nextOf; have a1 := byte_lt (G q) 0; have a2 := byte_lt (G q) 1; omega)
      have HW2 := hidm (show ∃ r'', walk N G N (nextOf (G q)) = some r'' ∧ r.1 = (l.map Pm.n ++ [q]) ++ r''.1 ∧ r.2 = (l.flatMap Pm.pt ++ bodyOf (G q)) ++ r''.2 from ⟨r2, hw2, by rw [hr1, hr']; simp, by rw [hr2, hr']; simp⟩)
      clear h1 hr1 hr2 b1 b2 b3 b4 b5 hw2 hr' hnl hiN2 HW r' r2 h0
      go_upto_region 8 with fail
      go_upto_region 9 with fail
      refine (CP.out wr HB.out).mono ?_
      rintro e w1 ⟨x, rfl, hxn, hxx, hxp, hxi, hb1⟩
      have HX := hidm (show x.n = q ∧ x.nx = nextOf (G q) ∧ x.pt = bodyOf (G q) from ⟨hxn, hxx, hxp⟩)
      have HXI := hidm hxi
      have HB1 := hidm hb1
      have HBW1 := hidm (HB.out.trans (hb1.mono HB.out.size))
      have HS1 := hidm (HS.out.later hb1)
      clear hxn hxx hxp hxi hb1 ca
      unfold Pm.agg
      go_upto_region 9 with fail
      obtain ⟨w2, hw2⟩ : ∃ w2, w2 = w1.alloc (.cells #[.int .i64 (x.n : Int), .int .i64 (x.nx : Int), .slice (some ⟨x.b, x.o, none⟩) x.pt.length x.pt.length] 65) := ⟨_, rfl⟩
      obtain ⟨R, hR⟩ : ∃ R, R = w1.heap.size := ⟨_, rfl⟩
      have hb2 : Below w1.heap.size w1 w2 := by rw [hw2]; exact (Below.refl _ _).alloc (Nat.le_refl _) _
      have hRr : w2.heap[R]? = some (.cells #[.int .i64 (x.n : Int), .int .i64 (x.nx : Int), .slice (some ⟨x.b, x.o, none⟩) x.pt.length x.pt.length] 65 (0, 0)) := by rw [hw2, hR]; exact heap_alloc_last w1 _
      rw [← hw2, ← hR]
      have HRR := hidm hRr
      have HRL := hidm (show R = w1.heap.size ∧ R < w2.heap.size from ⟨hR, lt_of_block hRr⟩)
      have HS2 := hidm (HS1.out.later hb2)
      have HXI2 := hidm (HXI.out.later hb2)
      have HBW2 := hidm (HBW1.out.trans (hb2.mono HBW1.out.size))
      have HBR2 := hidm (HB1.out.trans (hb2.mono HB1.out.size))
      have HC := hidm (been_none w.heap.size a q l (.slice vo i vc) w2 HS2.out.pm HS2.out.cell HNL.out)
      clear hw2 hR hb2 hRr HS1
      go_upto_region 11 with fail
      refine (HC.out).mono ?_
      rintro e w3 ⟨rfl, hb3⟩
      have HS3 := hidm (HS2.out.later hb3)
      have HXI3 := hidm (HXI2.out.later hb3)
      have HRR3 := hidm (below_keeps hb3 HRR.out)
      have HBW3 := hidm (HBW2.out.trans (hb3.mono HBW2.out.size))
      have HSZ3 := hidm (Nat.lt_of_lt_of_le HRL.out.2 hb3.size)
      have HBR := hidm (HBR2.out.trans (hb3.mono HBR2.out.size))
      clear hb3
      go_upto_region 11 with fail
      obtain ⟨p0, p1, p2⟩ := three HRR3.out
      have hb4 : Below w3.heap.size w3 (w3.alloc (.cells #[.int .i64 (x.n : Int), .int .i64 (x.nx : Int), .slice (some ⟨x.b, x.o, none⟩) x.pt.length x.pt.length] 65)) := (Below.refl _ _).alloc (Nat.le_refl _) _
      have HB4 := hidm hb4
      have HS4 := hidm (HS3.out.later hb4)
      have HOW := hidm (show (w3.alloc (.cells #[.int .i64 (x.n : Int), .int .i64 (x.nx : Int), .slice (some ⟨x.b, x.o, none⟩) x.pt.length x.pt.length] 65)).ownsRow w.heap.size 65 3 (.slice vo i vc) l.length (pflat l) from HS4.out.pm.own)
      have HCC := hidm (show ∀ j u, (x.cells)[j]? = some u → (w3.alloc (.cells #[.int .i64 (x.n : Int), .int .i64 (x.nx : Int), .slice (some ⟨x.b, x.o, none⟩) x.pt.length x.pt.length] 65)).cell? ((⟨w3.heap.size, 0, none⟩ : Addr).add j) = some u from pm_cells _ _ _)
      clear hb4
      go_wp2_with (at_builtin; refine wpList_pms rfl _ _ rfl rfl HOW.out x w3.heap.size 1 rfl HCC.out ?TA ?TB ?_)
      case TA => have := HI.out; have := HSZ.out; have := HIN.out; omega
      case TB => have := HBW3.out.size; (try simp); omega
      intro v' w5 hown hgrow hobl
      have hlater : Below wr.heap.size wr w3 := HBR.out
      obtain ⟨nx, hnx⟩ : ∃ nx, nx = x.nx := ⟨_, rfl⟩
      obtain ⟨hst, hk5, hs5⟩ := RowSt.next HS.out hlater HXI3.out HB.out.size hnx hown hgrow (fun g hg => (hobl g hg).imp id (fun e => by (try simp at e); omega))
      obtain ⟨so, sc, hvv⟩ : ∃ so sc, v' = .slice so (i + 1) sc := by
        rcases hown.2 with ⟨hv, h0⟩ | ⟨g', c', cur, hv, _⟩
        · exact absurd h0 (by omega)
        · rw [← HI.out] at hv; exact ⟨_, _, hv⟩
      subst hvv
      have hR5 : w5.heap[R]? = some (.cells #[.int .i64 (x.n : Int), .int .i64 (x.nx : Int), .slice (some ⟨x.b, x.o, none⟩) x.pt.length x.pt.length] 65 (0, 0)) := (hk5 R HSZ3.out (fun e => by have h1 := (HS.out.pm.own.lt R e).2; have h2 := HRL.out.1; have h3 := HB1.out.size; omega)).trans HRR3.out
      have hal : a < wr.heap.size := lt_of_block HS.out.box
      have ha5 : w5.heap[a]? = some (.cells #[.int .i64 (q : Int)] 3 (0, 0)) := (hk5 a (Nat.lt_of_lt_of_le hal hlater.size) HS.out.an).trans HS3.out.box
      have r1 := (three hR5).2.1
      rw [← hnx] at r1
      have a5 := cell_of_row w5 a 0 _ _ (0, 0) ha5
      have z5 := frz ha5 0
      have a6 := cell_of_row _ a 0 _ _ (0, 0) (putk (k := 0) (u := .int .i64 (nx : Int)) ha5)
      have HST := hidm hst
      have HBN := hidm (show Below w.heap.size w ((w5.setCell ⟨a, 0, none⟩ (.int .i64 (nx : Int))).alloc (.cells #[.int .i64 (nx : Int)] 3)) from
        (((HBW3.out.alloc HBW3.out.size _).grown hgrow (by have := HBW3.out.size; simp; omega) (fun z hz => (HS.out.pm.own.lt z hz).1)).setCell (p := ⟨a, 0, none⟩) HS.out.ba _).alloc (by have := HBW3.out.size; simp; omega) _)
      have HNX2 := hidm (show nx < 65536 ∧ nx = nextOf (G q) from ⟨by rw [hnx, HX.out.2.1]; exact HNX.out, by rw [hnx]; exact HX.out.2.1⟩)
      have HIL := hidm (show i + 1 = (l ++ [x]).length from by rw [List.length_append, List.length_singleton, HI.out])
      have HW3 := hidm (show ∃ r'', walk N G N nx = some r'' ∧ r.1 = (l ++ [x]).map Pm.n ++ r''.1 ∧ r.2 = (l ++ [x]).flatMap Pm.pt ++ r''.2 from by
        obtain ⟨r'', h1, h2, h3⟩ := HW2.out
        refine ⟨r'', by rw [HNX2.out.2]; exact h1, ?_, ?_⟩
        · rw [h2, List.map_append]; simp [HX.out.1]
        · rw [h3, List.flatMap_append]; simp [HX.out.2.2])
      clear hst hk5 hs5 hown hgrow hobl hR5 hal ha5 hnx hlater
      go_wp2_with fail
      go_roundw
      case rel => exact ⟨l ++ [x], w5.heap.size, nx, so, sc, i + 1, rfl, rfl, HIN.out, HNX2.out.1, HIL, HST, HW3, HBN⟩
      case measure => have := HIN.out; simp [lenW]; omega
end
end Hep
end Go.Proofs.YtmccnlffikegfaaGreatDoor
/- The program's heap over its pager: Get; strings.Builder's Write. Conditions: as each says. -/
namespace Go.Proofs.YtmccnlffikegfaaGreatDoor
open Go.RowKit
namespace Hep
open Pgr
open Dsk (zeros pad pad_len KeepQ Only cell_later below_keeps owns_later)
open Crc (S S_of S_size S_append)
set_option maxHeartbeats 2000000 in
set_option maxRecDepth 100000 in
theorem write_cells (B b : Nat) (bs : List Value) (pb po : Nat) (p : List UInt8) (w : World) (h : Lib.IsBuilderF 73 5 B b bs w) (hl : Lie pb po p w) (hpb : pb < B) (hlen : bs.length + p.length ≤ 140737488355328) (hBw : B ≤ w.heap.size) :
    Calls Tryz.prog 31 #[.pointer (some ⟨b, 0, none⟩), .slice (some ⟨pb, po, none⟩) p.length p.length] w fun e w' => e = .returned (.tuple #[.int .i64 (p.length : Int), .nilIface]) ∧ (Lib.BuilderAtF 73 5 B b (.pointer (some ⟨b, 0, none⟩)) (bs ++ Lib.byteCells p) w' ∧ Below B w w') := by
  obtain ⟨i0, hi, hz0, hz1, hz2⟩ := info_parts (P := Tryz.prog) (e := 5) (z := .int .u8 0) (size := 1) (bytes := 1) (by kernel_rfl)
  have HL := hidm hl
  obtain ⟨m, hm⟩ : ∃ m, m = p.length := ⟨_, rfl⟩
  rw [← hm] at hlen ⊢
  have HM := hidm hm
  clear hm hl
  go_enter Tryz.func31, Tryz.ntmps31
  go_upto_region 2 with fail
  refine (Bld.copyCheck_any B b bs _ h).mono ?_
  rintro e w1 ⟨rfl, h1, hb1⟩
  obtain ⟨hB, v, hbk, hown, hne⟩ := h1
  have c0 : w1.cell? ⟨b, 0, none⟩ = some (.pointer (some ⟨b, 0, none⟩)) := by rw [Lib.cell_of_heap hbk]; rfl
  have c1 : w1.cell? ⟨b, 1, none⟩ = some v := by rw [Lib.cell_of_heap hbk]; rfl
  have HL1 := hidm (show ∀ j u, (Lib.byteCells p)[j]? = some u → w1.cell? ((⟨pb, po, none⟩ : Addr).add j) = some u from fun j u hu => by
    have hj : j < p.length := by
      have := (List.getElem?_eq_some_iff.1 hu).1
      rwa [Lib.byteCells_length] at this
    have hadd : (⟨pb, po, none⟩ : Addr).add j = ⟨pb, po + j, none⟩ := by unfold Addr.add; split <;> simp_all
    rw [hadd, (HL.out.of (hb1.block pb hpb)) j hj, ← hu]
    simp [Lib.byteCells, hj])
  go_wp2_with (at_builtin; refine wpList_append_ownF _ rfl _ _ 62 rfl B 5 i0 (.int .u8 0) 1 1 Tryz.underlying62 hi hz0 hz1 hz2 rfl (by decide) _ _ _ rfl hown ⟨pb, po, none⟩ m m (Lib.byteCells p) rfl ?c0 HL1.out ?c1 ?c3 ?c4 ?c5 ?_)
  (try (case c0 => rw [Lib.byteCells_length, HM.out, Nat.mul_one]))
  case c1 => intro u hu; simp [Lib.byteCells] at hu; obtain ⟨y, _, rfl⟩ := hu; rfl
  case c3 => unfold maxLen; omega
  case c4 => omega
  case c5 => have := hb1.size; omega
  intro v' w2 hown' hgrow _
  have hlt : b < w1.heap.size := lt_of_block hbk
  have hb2 : w2.heap[b]? = some (.cells #[.pointer (some ⟨b, 0, none⟩), v] 73 (0, 0)) := by
    rw [hgrow.block b hlt (fun e => hne e.symm)]
    exact hbk
  have d0 : w2.cell? ⟨b, 0, none⟩ = some (.pointer (some ⟨b, 0, none⟩)) := by rw [Lib.cell_of_heap hb2]; rfl
  have d1 : w2.cell? ⟨b, 1, none⟩ = some v := by rw [Lib.cell_of_heap hb2]; rfl
  have f1 : w2.frozen? ⟨b, 1, none⟩ = false := Lib.frozen_of_heap hb2 1
  obtain ⟨ao, n', cap, rfl⟩ : ∃ ao n' cap, v' = .slice ao n' cap := by
    rcases hown'.2 with ⟨hv, _⟩ | ⟨g, cap, cur, fz, hv, _⟩
    · exact ⟨_, _, _, hv⟩
    · exact ⟨_, _, _, hv⟩
  go_wp2
  go_ret2
  refine ⟨rfl, ?_, ?_⟩
  · exact Lib.BuilderAtF.put (T := 73) (e := 5) hB hb2 (bs' := bs ++ Lib.byteCells p) (by simpa [Lib.byteCells_length, HM.out] using hown') (by decide)
  · exact (hb1.grown hgrow (by have := hb1.size; omega) (fun k hk => (hown.lt k hk).1)).setCell (p := ⟨b, 1, none⟩) hB _
theorem write_bytes (B b : Nat) (l : List UInt8) (pb po : Nat) (p : List UInt8) (w : World) (h : Bld.Is B b l w) (hl : Lie pb po p w) (hpb : pb < B) (hlen : l.length + p.length ≤ 140737488355328) (hBw : B ≤ w.heap.size) :
    Calls Tryz.prog 31 #[.pointer (some ⟨b, 0, none⟩), .slice (some ⟨pb, po, none⟩) p.length p.length] w fun e w' => e = .returned (.tuple #[.int .i64 (p.length : Int), .nilIface]) ∧ Bld.Is B b (l ++ p) w' ∧ Below B w w' := by
  refine (write_cells B b (Lib.byteCells l) pb po p w h hl hpb (by rw [Lib.byteCells_length]; exact hlen) hBw).mono ?_
  rintro e w' ⟨rfl, h1, h2⟩
  exact ⟨rfl, .inr (by rw [Lib.byteCells_append]; exact h1), h2⟩
section
variable {W w w' : World} {Q Q' : Nat → Prop} {B P L D n N K : Nat} {u : Bool} {c c' : Nat} {V G G' : Pages}
set_option maxHeartbeats 4000000 in
set_option maxRecDepth 100000 in
theorem hget_nil (p : Option Addr) (id : Int) (w : World) (h : NotHeap p w) : Calls Tryz.prog 13 #[.pointer p, .int .i64 id] w fun e w' => e = .returned (.tuple #[.string ⟨#[]⟩, .int .i64 13]) ∧ w = w' := by
  have C := hidm (hrow_nil p id w h)
  clear h
  go_enter Tryz.func13, Tryz.ntmps13
  go_wp2_with fail
  refine C.out.mono ?_
  rintro e w1 ⟨rfl, rfl⟩
  go_wp2_with fail
  go_ret2
  exact ⟨rfl, rfl⟩
set_option maxHeartbeats 4000000 in
set_option maxRecDepth 100000 in
theorem hget_no (h : HG W Q B P L D n N K u V c G w) (id : Int) (hid : noId N G id) :
    Calls Tryz.prog 13 #[.pointer (some ⟨B, 0, none⟩), .int .i64 id] w fun e w' => e = .returned (.tuple #[.string ⟨#[]⟩, .int .i64 4]) ∧ Below w.heap.size w w' := by
  have C := hidm (hrow_no h id hid)
  clear h hid
  go_enter Tryz.func13, Tryz.ntmps13
  go_wp2_with fail
  refine C.out.mono ?_
  rintro e w1 ⟨v, l, rfl, _, _, _, hb⟩
  have HB := hidm hb
  clear hb
  go_wp2_with fail
  go_ret2
  exact ⟨rfl, HB.out⟩
set_option maxHeartbeats 8000000 in
set_option maxRecDepth 100000 in
theorem hget_yes (h : HG W Q B P L D n N K u V c G w) (k : Nat) (h2 : 2 ≤ k) (hN : k < N) (hu : inU G k = true) (r : Rec) (hw : walk N G N k = some r) :
    Calls Tryz.prog 13 #[.pointer (some ⟨B, 0, none⟩), .int .i64 (k : Int)] w fun e w' => e = .returned (.tuple #[.string (S r.2), .int .i64 0]) ∧ Below w.heap.size w w' := by
  have C := hidm (hrow_yes h k h2 hN hu r hw)
  have HF := hidm (show r.1.length ≤ 1024 from Nat.le_trans (walk_full hw) h.sz.2)
  clear h h2 hN hu hw
  go_enter Tryz.func13, Tryz.ntmps13
  go_upto_region 1 with fail
  go_upto_region 2 with fail
  refine C.out.mono ?_
  rintro e w1 ⟨v, l, rfl, hpm, hln, hlp, hb1⟩
  obtain ⟨vo, vc, rfl, hvc, hvm⟩ := hpm.form
  have HPM := hidm hpm
  have HLP := hidm hlp
  have HLL := hidm (show l.length ≤ 1024 from by have h9 := HF.out; rw [← hln, List.length_map] at h9; exact h9)
  have HB1 := hidm hb1
  obtain ⟨ln, hlnn⟩ : ∃ x, x = l.length := ⟨_, rfl⟩
  have HLN := hidm hlnn
  have HLM := hidm (show ln ≤ 1024 from by rw [hlnn]; exact HLL.out)
  rw [← hlnn]
  have hz : (zeroValue 73).run Tryz.prog w1 = .ok (.agg #[.pointer none, .slice none 0 0]) w1 := by rfl
  clear hpm hln hlp hb1 hvc hvm hlnn C
  go_upto_region 5 with fail
  have hbs := Bld.fresh w1
  obtain ⟨w2, hw2⟩ : ∃ w2, w2 = w1.alloc (.cells #[.pointer none, .slice none 0 0] 73) := ⟨_, rfl⟩
  obtain ⟨b, hb⟩ : ∃ b, b = w1.heap.size := ⟨_, rfl⟩
  have hb2 : Below b w1 w2 := by rw [hw2, hb]; exact (Below.refl _ _).alloc (Nat.le_refl _) _
  rw [← hw2, ← hb] at hbs
  rw [← hw2, ← hb]
  have HBS := hidm hbs
  have HB2 := hidm hb2
  have HBB := hidm (show b = w1.heap.size ∧ b ≤ w2.heap.size from ⟨hb, by have := hb2.size; omega⟩)
  clear hbs hw2 hb hb2 hz
  go_wp2_with fail
  go_loopw [22] (fun ii wr => ∃ i : Nat, ii = .int .i64 (i : Int) ∧ i ≤ ln ∧ Hid (Bld.Is b b ((l.take i).flatMap Pm.pt) wr ∧ Below b w1 wr ∧ ((l.take i).flatMap Pm.pt).length ≤ 125 * i ∧ b ≤ wr.heap.size)) (fun ii _ => ln - (intOf ii).toNat)
  case atStart => exact ⟨0, rfl, by omega, hidm ⟨HBS.out, HB2.out, by simp, HBB.out.2⟩⟩
  case round =>
    rename World => wr
    obtain ⟨i, rfl, hi, HX⟩ := hrel
    clear HBS HB2
    rcases Nat.lt_or_ge i ln with hlt | hge
    · have g1 : (i : Int) < (ln : Int) := by omega
      have hil : i < l.length := by rw [← HLN.out]; exact hlt
      obtain ⟨g, cap, he, hgb, hgw, q0, q1, q2⟩ := HPM.out.at i hil
      have hin := HPM.out.ins _ (List.getElem_mem hil)
      rw [← HLN.out] at he
      simp only [Value.slice.injEq] at he
      obtain ⟨rfl, -, rfl⟩ := he
      have hkb := fun (j : Nat) => World.cell?_of_block (w := w1) (a := ⟨g, j, none⟩) (HX.out.2.1.block g (by rw [HBB.out.1]; exact hgw))
      replace q0 := (hkb _).trans q0
      replace q1 := (hkb _).trans q1
      replace q2 := (hkb _).trans q2
      obtain ⟨x, hx⟩ : ∃ x, x = l[i] := ⟨_, rfl⟩
      rw [← hx] at q0 q1 q2 hin
      obtain ⟨xn, hxn⟩ : ∃ a, a = x.n := ⟨_, rfl⟩
      obtain ⟨xx, hxx⟩ : ∃ a, a = x.nx := ⟨_, rfl⟩
      rw [← hxn] at q0
      rw [← hxx] at q1
      have HIN := hidm (show Lie x.b x.o x.pt wr ∧ x.b < b ∧ x.pt.length ≤ 125 from ⟨hin.lie.of (HX.out.2.1.block _ (by rw [HBB.out.1]; exact hin.lt)), by rw [HBB.out.1]; exact hin.lt, hin.few⟩)
      have HTK := hidm (show (l.take (i + 1)).flatMap Pm.pt = (l.take i).flatMap Pm.pt ++ x.pt from by rw [List.take_succ_eq_append_getElem hil, List.flatMap_append, ← hx]; simp)
      obtain ⟨i2, hi2⟩ : ∃ i2, i2 = i + 1 := ⟨_, rfl⟩
      have e1 : (i : Int) + 1 = (i2 : Int) := by omega
      have e1w : IntKind.i64.wrap (i2 : Int) = (i2 : Int) := by have := HLM.out; simp only [IntKind.wrap_i64]; omega
      have HI2 := hidm hi2
      have HIK := hidm (show i2 ≤ ln ∧ i ≤ 1024 from by have := HLM.out; omega)
      have hz : ∀ z : World, (zeroValue 65).run Tryz.prog z = .ok (.agg #[.int .i64 0, .int .i64 0, .slice none 0 0]) z := fun z => by rfl
      obtain ⟨m, hm⟩ : ∃ m, m = x.pt.length := ⟨_, rfl⟩
      rw [← hm] at q2
      have HM := hidm hm
      clear hi2 hkb hin hx hxn hxx hm hi
      go_upto_region 8 with fail
      have hba : Below b wr (wr.alloc (.cells #[.int .i64 (xn : Int), .int .i64 (xx : Int), .slice (some ⟨x.b, x.o, none⟩) m m] 65)) := (Below.refl _ _).alloc HX.out.2.2.2 _
      have hbz : Below wr.heap.size wr (wr.alloc (.cells #[.int .i64 (xn : Int), .int .i64 (xx : Int), .slice (some ⟨x.b, x.o, none⟩) m m] 65)) := (Below.refl _ _).alloc (Nat.le_refl _) _
      have CW := hidm (write_bytes b b ((l.take i).flatMap Pm.pt) x.b x.o x.pt _ (HX.out.1.below hbz) (HIN.out.1.of (hbz.block _ (by have := HIN.out.2.1; have := HX.out.2.2.2; omega))) HIN.out.2.1 (by have := HX.out.2.2.1; have := HIN.out.2.2; have := HIK.out.2; omega) (Nat.le_trans HX.out.2.2.2 hbz.size))
      rw [← HM.out] at CW
      have HBA := hidm hba
      clear hba hbz q0 q1 q2
      go_wp2_with fail
      refine CW.out.mono ?_
      rintro e w3 ⟨rfl, his, hb3⟩
      rw [← HTK.out, ← HI2.out] at his
      have HN := hidm (show Bld.Is b b ((l.take i2).flatMap Pm.pt) w3 ∧ Below b w1 w3 ∧ ((l.take i2).flatMap Pm.pt).length ≤ 125 * i2 ∧ b ≤ w3.heap.size from ⟨his, (HX.out.2.1.trans HBA.out).trans hb3, by rw [HI2.out, HTK.out, List.length_append]; have := HX.out.2.2.1; have := HIN.out.2.2; omega, Nat.le_trans (Nat.le_trans HX.out.2.2.2 HBA.out.size) hb3.size⟩)
      clear his hb3
      go_wp2_with fail
      go_roundw
      case rel => exact ⟨i2, rfl, HIK.out.1, HN⟩
      case measure => have := HI2.out; simp [intOf]; omega
    · obtain rfl : i = ln := by omega
      have g1 : ¬ (i : Int) < (i : Int) := by omega
      have htk : (l.take i).flatMap Pm.pt = r.2 := by rw [List.take_of_length_le (by rw [HLN.out]; exact Nat.le_refl _), HLP.out]
      rw [htk] at HX
      have CS := hidm (Bld.string_any b b r.2 wr HX.out.1 HX.out.2.2.2)
      obtain ⟨T, hT⟩ : ∃ T, T = S r.2 := ⟨_, rfl⟩
      rw [show (⟨r.2.toArray⟩ : ByteArray) = T from hT.symm] at CS
      have HT := hidm hT
      clear htk hi hT
      go_wp2_with fail
      refine CS.out.mono ?_
      rintro e w3 ⟨rfl, _, hb3⟩
      have HFB := hidm (show Below w.heap.size w w3 from HB1.out.trans ((HX.out.2.1.trans hb3).mono (by rw [HBB.out.1]; exact HB1.out.size)))
      clear hb3
      go_wp2_with fail
      go_ret2
      exact ⟨by rw [HT.out]; rfl, HFB.out⟩
end
end Hep
end Go.Proofs.YtmccnlffikegfaaGreatDoor
/- The program's heap over its pager: free. Conditions: as it says. -/
namespace Go.Proofs.YtmccnlffikegfaaGreatDoor
open Go.RowKit
namespace Hep
open Pgr
open Dsk (zeros pad pad_len KeepQ Only cell_later below_keeps)
open Crc (S S_of S_size S_append)
theorem gives_snoc : ∀ (l : List Nat) (k : Nat) (G : Pages), gives (l ++ [k]) G = giveG (gives l G) k
  | [], _, _ => rfl
  | _ :: l, k, _ => gives_snoc l k _
theorem PmsAt.keep {base : Nat} {l : List Pm} {v : Value} {w w' : World} {Q : Nat → Prop} (h : w.ownsRow base 65 3 v l.length (pflat l)) (hq : ∀ g, v.ownBlock = some g → Q g) (hk : KeepQ Q w w') : w'.ownsRow base 65 3 v l.length (pflat l) := Dsk.ownsRow_of h (fun g hg => hk g (hq g hg))
section
variable {W w w' : World} {Q Q' : Nat → Prop} {B P L D n N K : Nat} {u : Bool} {c c' : Nat} {V G G' : Pages}
set_option maxHeartbeats 8000000 in
set_option maxRecDepth 100000 in
theorem hfree_any (h : HG W Q B P L D n N K u V c G w) (base : Nat) (l : List Pm) (v : Value) (hv : PmsAt base l v w) (hq : ∀ g, v.ownBlock = some g → Q g) (hnd : (l.map Pm.n).Nodup) (hin : ∀ a ∈ l.map Pm.n, 2 ≤ a ∧ a < N ∧ inU G a = true) :
    Calls Tryz.prog 28 #[.pointer (some ⟨B, 0, none⟩), v] w fun e w' => e = .returned (.tuple #[]) ∧ HG W Q B P L D n N K u V (c + l.length) (gives (l.map Pm.n) G) w' ∧ KeepQ Q w w' := by
  obtain ⟨vo, vc, hvv, hvc, hvm⟩ := hv.form
  subst hvv
  have HPM := hidm hv
  have HQO := hidm hq
  have HH := hidm h
  have HND := hidm hnd
  have HIN := hidm hin
  have HSZ := hidm h.sz
  have HL0 := hidm (h.len (k := 0) (by have := h.sz; omega))
  obtain ⟨ln, hln⟩ : ∃ x, x = l.length := ⟨_, rfl⟩
  rw [← hln] at hvc ⊢
  have HLN := hidm hln
  have HLM := hidm (show ln ≤ 9223372036854775807 from by omega)
  clear hv hq h hnd hin hln hvc hvm
  go_enter Tryz.func28, Tryz.ntmps28
  go_wp2_with fail
  go_loopw [8] (fun ii wr => ∃ (i : Nat), ii = .int .i64 (i : Int) ∧ i ≤ ln ∧ Hid (HG W Q B P L D n N K u V (c + i) (gives ((l.map Pm.n).take i) G) wr ∧ KeepQ Q w wr)) (fun ii _ => ln - (intOf ii).toNat)
  case atStart => exact ⟨0, rfl, by omega, hidm ⟨HH.out, fun _ _ => rfl⟩⟩
  case round =>
    rename World => wr
    obtain ⟨i, rfl, hi, HX⟩ := hrel
    rcases Nat.lt_or_ge i ln with hlt | hge
    · have g1 : (i : Int) < (ln : Int) := by omega
      have hil : i < l.length := by rw [← HLN.out]; exact hlt
      obtain ⟨g, cap, he, hgb, hgw, q0, q1, q2⟩ := HPM.out.at i hil
      have hgq := HQO.out g (by rw [show vo = some ⟨g, 0, none⟩ from by (have h9 := he; simp only [Value.slice.injEq, true_and] at h9; exact h9.1)]; rfl)
      have hkb := fun (j : Nat) => World.cell?_of_block (w := w) (a := ⟨g, j, none⟩) (HX.out.2 g hgq)
      replace q0 := (hkb _).trans q0
      replace q1 := (hkb _).trans q1
      replace q2 := (hkb _).trans q2
      rw [← HLN.out] at he
      simp only [Value.slice.injEq] at he
      obtain ⟨rfl, -, rfl⟩ := he
      obtain ⟨xn, hxn⟩ : ∃ a, a = (l[i]).n := ⟨_, rfl⟩
      obtain ⟨xx, hxx⟩ : ∃ a, a = (l[i]).nx := ⟨_, rfl⟩
      obtain ⟨pv, hpv⟩ : ∃ a, a = Value.slice (some ⟨(l[i]).b, (l[i]).o, none⟩) (l[i]).pt.length (l[i]).pt.length := ⟨_, rfl⟩
      rw [← hxn] at q0
      rw [← hxx] at q1
      rw [← hpv] at q2
      have HPV := hidm (show ∃ a n c, pv = Value.slice a n c from ⟨_, _, _, hpv⟩)
      have hil2 : i < (l.map Pm.n).length := by simpa using hil
      have hta : (l.map Pm.n).take (i + 1) = (l.map Pm.n).take i ++ [xn] := by rw [List.take_succ_eq_append_getElem hil2]; simp [hxn]
      have ham : xn ∈ l.map Pm.n := by rw [hxn]; exact List.mem_map.2 ⟨_, List.getElem_mem hil, rfl⟩
      obtain ⟨a1, a2, a3⟩ := HIN.out xn ham
      have hni : xn ∉ (l.map Pm.n).take i := fun c => by
        have h9 := List.Nodup.sublist (List.take_sublist (i + 1) (l.map Pm.n)) HND.out
        rw [hta] at h9
        exact (List.nodup_append.1 h9).2.2 xn c xn (by simp) rfl
      have hgv := gave (G := G) HSZ.out.2 HL0.out (List.Nodup.sublist (List.take_sublist i (l.map Pm.n)) HND.out) (fun j hj => by obtain ⟨c1, c2, c3⟩ := HIN.out j (List.mem_of_mem_take hj); exact ⟨c3, by omega, c2⟩)
      have hua : inU (gives ((l.map Pm.n).take i) G) xn = true := by rw [hgv.use, a3]; simp [hni]
      have HUA := hidm (show xn < N ∧ xn ≠ 0 ∧ inU (gives ((l.map Pm.n).take i) G) xn = true from ⟨a2, by omega, hua⟩)
      have HTA := hidm hta
      obtain ⟨i2, hi2⟩ : ∃ i2, i2 = i + 1 := ⟨_, rfl⟩
      have e1 : (i : Int) + 1 = (i2 : Int) := by omega
      have e1w : IntKind.i64.wrap (i2 : Int) = (i2 : Int) := by have := HLM.out; simp only [IntKind.wrap_i64]; omega
      have HI2 := hidm hi2
      have HIK := hidm (show i2 ≤ ln from by omega)
      have HHR := hidm HX.out.1
      have HKR := hidm HX.out.2
      have hz : ∀ z : World, (zeroValue 65).run Tryz.prog z = .ok (.agg #[.int .i64 0, .int .i64 0, .slice none 0 0]) z := fun z => by rfl
      clear hi2 hta ham a1 a2 a3 hni hgv hua hil2 hkb hgq hi HX hxn hxx
      clear hpv
      obtain ⟨pa, pn, pc, rfl⟩ := HPV.out
      go_upto_region 3 with fail
      obtain ⟨wb, hwb⟩ : ∃ wb, wb = wr.alloc (.cells #[.int .i64 (xn : Int), .int .i64 (xx : Int), .slice pa pn pc] 65) := ⟨_, rfl⟩
      obtain ⟨R, hR⟩ : ∃ R, R = wr.heap.size := ⟨_, rfl⟩
      have hbb : Below wr.heap.size wr wb := by rw [hwb]; exact (Below.refl _ _).alloc (Nat.le_refl _) _
      have hRr : wb.heap[R]? = some (.cells #[.int .i64 (xn : Int), .int .i64 (xx : Int), .slice pa pn pc] 65 (0, 0)) := by rw [hwb, hR]; exact heap_alloc_last wr _
      have hRl : R < wb.heap.size := lt_of_block hRr
      rw [← hwb, ← hR]
      obtain ⟨wd, hwd⟩ : ∃ wd, wd = wb.drew := ⟨_, rfl⟩
      have hbd : Below wb.heap.size wb wd := by rw [hwd]; exact (Below.refl _ _).drew
      have HWD := hidm hwd
      have HGd := hidm ((HHR.out.guard hbb).later hbd)
      have HRQ := hidm (show wr.heap.size ≤ R ∧ R < wb.heap.size from ⟨by omega, hRl⟩)
      have HKD := hidm (fun (k : Nat) (hk : Q k) => (hbd.block k (Nat.lt_of_lt_of_le (HHR.out.qlt k hk) hbb.size)).trans (hbb.block k (HHR.out.qlt k hk)))
      have h9 : wd.cell? ⟨B, 1, none⟩ = some (.pointer (some ⟨P, 0, none⟩)) ∧ wd.cell? ⟨R, 0, none⟩ = some (.int .i64 (xn : Int)) := ⟨HGd.out.c1, (three (below_keeps hbd hRr)).1⟩
      have HH9 := hidm h9
      have HSK := hidm (fun (z : World) (hk : KeepQ (fun k => Q k ∨ (wr.heap.size ≤ k ∧ k < wb.heap.size)) wd z) => show z.cell? ⟨B, 1, none⟩ = some (.pointer (some ⟨P, 0, none⟩)) ∧ z.cell? ⟨R, 0, none⟩ = some (.int .i64 (xn : Int)) from
        ⟨(World.cell?_of_block (w := wd) (a := ⟨B, 1, none⟩) (hk B (.inl HH.out.inq))).trans HH9.out.1, (World.cell?_of_block (w := wd) (a := ⟨R, 0, none⟩) (hk R (.inr HRQ.out))).trans HH9.out.2⟩)
      have HFR := hidm (HGd.out.pg.free xn HUA.out.1 HUA.out.2.1 HUA.out.2.2)
      clear hwb hR hbb hRr hRl hwd hbd h9 q0 q1 q2
      refine wp_region_held_drew (S := fun z => z.cell? ⟨B, 1, none⟩ = some (.pointer (some ⟨P, 0, none⟩)) ∧ z.cell? ⟨R, 0, none⟩ = some (.int .i64 (xn : Int))) (by kernel_rfl) (by rw [← HWD.out]; exact HH9.out) (fun hHeld => ?_)
      rw [← HWD.out] at hHeld ⊢
      refine Man.t1 0 hHeld ?_
      (try simp only [Act.put, Mqa, Mqb, Mqc])
      refine Man.t1 1 hHeld ?_
      (try simp only [Act.put, Mqa, Mqb, Mqc])
      refine Man.t1 2 hHeld ?_
      (try simp only [Act.put, Mqa, Mqb, Mqc])
      refine Man.t1 3 hHeld ?_
      (try simp only [Act.put, Mqa, Mqb, Mqc])
      refine Man.t1 4 hHeld ?_
      (try simp only [Act.put, Mqa, Mqb, Mqc])
      refine Man.t1 5 hHeld ?_
      (try simp only [Act.put, Mqa, Mqb, Mqc])
      refine Man.one (i := 6) rfl (by kernel_rfl) (fun K9 hK => ?_)
      go_simp
      with_reducible refine (HFR.out).mono ?_
      rintro e zf ⟨rfl, hpf, hkf⟩
      have HGF := hidm (HGd.out.turn hpf hkf)
      have HKF := hidm hkf
      have hsf := HSK.out _ hkf
      clear hpf hkf
      refine hK.out _ _ hsf (fun hNew => ?_)
      clear hK K9 hHeld
      have hHeld := hNew
      clear hNew
      clear hsf
      refine wpAnyH_done (by kernel_rfl) ?_ _
      have HFIN := hidm (show HG W Q B P L D n N K u V (c + i2) (gives ((l.map Pm.n).take i2) G) zf ∧ KeepQ Q w zf from ⟨by
          have h1 := HGF.out.less (Q' := Q) (fun k hk => .inl hk) HH.out.inq
          rw [HI2.out, HTA.out, gives_snoc]
          exact h1, fun k hk => (HKF.out k (.inl hk)).trans ((HKD.out k hk).trans (HKR.out k hk))⟩)
      go_wp2_with fail
      go_roundw
      case rel => exact ⟨i2, rfl, HIK.out, HFIN⟩
      case measure => have := HI2.out; simp [intOf]; omega
    · obtain rfl : i = ln := by omega
      have g1 : ¬ (i : Int) < (i : Int) := by omega
      have htk : (l.map Pm.n).take i = l.map Pm.n := List.take_of_length_le (by rw [List.length_map, HLN.out]; exact Nat.le_refl _)
      rw [htk] at HX
      clear htk hi
      go_wp2_with fail
      go_end0
      exact ⟨rfl, HX.out.1, HX.out.2⟩
end
end Hep
end Go.Proofs.YtmccnlffikegfaaGreatDoor
/- The program's heap over its pager: Drop, Root. Conditions: as each says. -/
namespace Go.Proofs.YtmccnlffikegfaaGreatDoor
open Go.RowKit
namespace Hep
open Pgr
open Dsk (zeros pad pad_len KeepQ Only cell_later below_keeps owns_later)
open Crc (S S_of S_size S_append)
section
variable {W w w' : World} {Q Q' : Nat → Prop} {B P L D n N K : Nat} {u : Bool} {c c' : Nat} {V G G' : Pages}
set_option maxHeartbeats 4000000 in
set_option maxRecDepth 100000 in
theorem hdrop_nil (p : Option Addr) (id : Int) (w : World) (h : NotHeap p w) : Calls Tryz.prog 10 #[.pointer p, .int .i64 id] w fun e w' => e = .returned (.int .i64 13) ∧ w = w' := by
  have C := hidm (hrow_nil p id w h)
  clear h
  go_enter Tryz.func10, Tryz.ntmps10
  go_wp2_with fail
  refine C.out.mono ?_
  rintro e w1 ⟨rfl, rfl⟩
  go_wp2_with fail
  go_ret
  exact ⟨rfl, rfl⟩
set_option maxHeartbeats 4000000 in
set_option maxRecDepth 100000 in
theorem hdrop_no (h : HG W Q B P L D n N K u V c G w) (id : Int) (hid : noId N G id) :
    Calls Tryz.prog 10 #[.pointer (some ⟨B, 0, none⟩), .int .i64 id] w fun e w' => e = .returned (.int .i64 4) ∧ Below w.heap.size w w' := by
  have C := hidm (hrow_no h id hid)
  clear h hid
  go_enter Tryz.func10, Tryz.ntmps10
  go_wp2_with fail
  refine C.out.mono ?_
  rintro e w1 ⟨v, l, rfl, _, _, _, hb⟩
  have HB := hidm hb
  clear hb
  go_wp2_with fail
  go_ret
  exact ⟨rfl, HB.out⟩
set_option maxHeartbeats 8000000 in
set_option maxRecDepth 100000 in
theorem hdrop_yes (h : HG W Q B P L D n N K u V c G w) (k : Nat) (h2 : 2 ≤ k) (hN : k < N) (hu : inU G k = true) (r : Rec) (hw : walk N G N k = some r) :
    Calls Tryz.prog 10 #[.pointer (some ⟨B, 0, none⟩), .int .i64 (k : Int)] w fun e w' => e = .returned (.int .i64 0) ∧ HG W Q B P L D n N K u V (c + r.1.length) (gives r.1 G) w' ∧ KeepQ Q w w' := by
  have C := hidm (hrow_yes h k h2 hN hu r hw)
  have HND := hidm (walk_once hw)
  have HIN := hidm (fun a ha => (walk_in hw a ha).1)
  have HH := hidm h
  clear h h2 hN hu hw
  go_enter Tryz.func10, Tryz.ntmps10
  go_wp2_with fail
  refine C.out.mono ?_
  rintro e w1 ⟨v, l, rfl, hpm, hln, _, hb1⟩
  have HB1 := hidm hb1
  have CF := hidm (hfree_any (HH.out.guard hb1) w.heap.size l v hpm (fun g hgo => .inr (hpm.own.lt g hgo)) (by rw [hln]; exact HND.out) (by rw [hln]; exact HIN.out))
  rw [hln, show l.length = r.1.length by rw [← hln, List.length_map]] at CF
  clear hpm hln hb1 C
  go_wp2_with fail
  refine CF.out.mono ?_
  rintro e w2 ⟨rfl, hg2, hk2⟩
  have HG2 := hidm (hg2.less (Q' := Q) (fun j hj => .inl hj) HH.out.inq)
  have HK2 := hidm (show KeepQ Q w w2 from fun j hj => (hk2 j (.inl hj)).trans (HB1.out.block j (HH.out.qlt j hj)))
  clear hg2 hk2
  go_wp2_with fail
  go_ret
  exact ⟨rfl, HG2.out, HK2.out⟩
/-! ### Root -/
set_option maxHeartbeats 4000000 in
set_option maxRecDepth 100000 in
theorem hrootget_nil (p : Option Addr) (w : World) (h : NotHeap p w) : Calls Tryz.prog 22 #[.pointer p] w fun e w' => e = .returned (.tuple #[.string ⟨#[]⟩, .int .i64 13]) ∧ w = w' := by
  have C := hidm (hgvn_no p w h)
  clear h
  go_enter Tryz.func22, Tryz.ntmps22
  go_wp2_with fail
  refine C.out.mono ?_
  rintro e w1 ⟨rfl, rfl⟩
  go_wp2_with fail
  go_ret2
  exact ⟨rfl, rfl⟩
set_option maxHeartbeats 4000000 in
set_option maxRecDepth 100000 in
theorem hrootget_no (h : HG W Q B P L D n N K u V c G w) (hN : 2 ≤ N) (h0 : rootOf (G 1) = 0) :
    Calls Tryz.prog 22 #[.pointer (some ⟨B, 0, none⟩)] w fun e w' => e = .returned (.tuple #[.string ⟨#[]⟩, .int .i64 4]) ∧ Below w.heap.size w w' := by
  have C0 := hidm (hgvn_yes B w h.c0)
  have C1 := hroot_any h hN
  rw [h0] at C1
  have C1 := hidm (show Calls Tryz.prog 29 #[.pointer (some ⟨B, 0, none⟩)] w fun e w' => e = .returned (.int .i64 0) ∧ Below w.heap.size w w' from C1)
  have C2 := hidm (fun (z : World) (hz : Below w.heap.size w z) => hget_no (h.later hz) 0 (.inl (by decide)))
  clear h h0
  go_enter Tryz.func22, Tryz.ntmps22
  go_wp2_with fail
  refine C0.out.mono ?_
  rintro e w1 ⟨rfl, rfl⟩
  go_wp2_with fail
  refine C1.out.mono ?_
  rintro e w2 ⟨rfl, hb2⟩
  have HB2 := hidm hb2
  clear hb2
  go_wp2_with fail
  refine (C2.out w2 HB2.out).mono ?_
  rintro e w3 ⟨rfl, hb3⟩
  have HB3 := hidm (HB2.out.trans (hb3.mono HB2.out.size))
  clear hb3
  go_wp2_with fail
  go_ret2
  exact ⟨rfl, HB3.out⟩
set_option maxHeartbeats 4000000 in
set_option maxRecDepth 100000 in
theorem hrootget_yes (h : HG W Q B P L D n N K u V c G w) (k : Nat) (h0 : rootOf (G 1) = k) (h2 : 2 ≤ k) (hN : k < N) (hu : inU G k = true) (r : Rec) (hw : walk N G N k = some r) :
    Calls Tryz.prog 22 #[.pointer (some ⟨B, 0, none⟩)] w fun e w' => e = .returned (.tuple #[.string (S r.2), .int .i64 0]) ∧ Below w.heap.size w w' := by
  have C0 := hidm (hgvn_yes B w h.c0)
  have C1 := hroot_any h (by omega)
  rw [h0] at C1
  have C1 := hidm C1
  have C2 := hidm (fun (z : World) (hz : Below w.heap.size w z) => hget_yes (h.later hz) k h2 hN hu r hw)
  obtain ⟨T, hT⟩ : ∃ T, T = S r.2 := ⟨_, rfl⟩
  rw [← hT] at C2 ⊢
  clear h h0 hT h2 hN hu hw
  go_enter Tryz.func22, Tryz.ntmps22
  go_wp2_with fail
  refine C0.out.mono ?_
  rintro e w1 ⟨rfl, rfl⟩
  go_wp2_with fail
  refine C1.out.mono ?_
  rintro e w2 ⟨rfl, hb2⟩
  have HB2 := hidm hb2
  clear hb2
  go_wp2_with fail
  refine (C2.out w2 HB2.out).mono ?_
  rintro e w3 ⟨rfl, hb3⟩
  have HB3 := hidm (HB2.out.trans (hb3.mono HB2.out.size))
  clear hb3
  go_wp2_with fail
  go_ret2
  exact ⟨rfl, HB3.out⟩
end
end Hep
end Go.Proofs.YtmccnlffikegfaaGreatDoor
