/- Readers of package frame: where a change's row and columns lie; a row that is read, in any state of the reader. Conditions: as each theorem says. -/
/- readChange of package frame. Condition: the bytes are at most 100000. -/
import Derived.Test.YtopmbhpjdmcabaaGreatGd
import Derived.Test.YtopmbhpjdmcabaaGreatJr
import Derived.Test.YtopmbhpjdmcabaaGreatMh
import Derived.Test.YtopmbhpjdmcabaaGreatQp
import Derived.Test.YtopmbhpjdmcabaaGreatGf
namespace Go.Proofs.YtopmbhpjdmcabaaGreat
open Go.RowKit
namespace Frm
open Cod Sch
/-- x has cells in block b. -/
def M.Blk (x : M) (b : Nat) : Prop := (x.c.row ≠ [] ∧ ∃ a, x.ro = some a ∧ a.block = b) ∨ (x.c.df.cols ≠ [] ∧ ∃ a, x.qo = some a ∧ a.block = b)
def M.From (x : M) (B : Nat) : Prop := ∀ b, x.Blk b → B ≤ b
theorem M.From.mono {x : M} {B B' : Nat} (h : x.From B) (hb : B' ≤ B) : x.From B' := fun b hx => Nat.le_trans hb (h b hx)
theorem cell_same {w w' : World} {b o : Nat} (h : w'.heap[b]? = w.heap[b]?) : w'.cell? ⟨b, o, none⟩ = w.cell? ⟨b, o, none⟩ := by simp [World.cell?, h]
theorem M.In.lt {x : M} {w : World} {b : Nat} (h : x.In w) (hb : x.Blk b) : b < w.heap.size := by
  rcases hb with ⟨hne, a, ha, rfl⟩ | ⟨hne, a, ha, rfl⟩
  · obtain ⟨ao, cap, h1, h2⟩ := h.r.1
    obtain ⟨b, off, h3, h4, h5⟩ := h2 hne
    simp only [Value.slice.injEq, true_and] at h1
    rw [← h1.1, ha] at h3
    simp only [Option.some.injEq] at h3
    rw [h3]; exact h4
  · obtain ⟨ao, cap, h1, _, _, h2⟩ := h.q
    obtain ⟨b, off, h3, h4, h5⟩ := h2 hne
    simp only [Value.slice.injEq, true_and] at h1
    rw [← h1.1, ha] at h3
    simp only [Option.some.injEq] at h3
    rw [h3]; exact h4
theorem row_move {vs : List V} {ro : Option Addr} {rc : Nat} {w w' : World} (h : RowC vs (.slice ro vs.length rc) w) (hs : w.heap.size ≤ w'.heap.size) (hb : vs ≠ [] → ∀ a, ro = some a → w'.heap[a.block]? = w.heap[a.block]?) : RowC vs (.slice ro vs.length rc) w' := by
  obtain ⟨⟨ao, cap, h1, h2⟩, hr⟩ := h
  refine ⟨⟨ao, cap, h1, fun hne => ?_⟩, hr⟩
  obtain ⟨b, off, h3, h4, h5⟩ := h2 hne
  refine ⟨b, off, h3, by omega, fun j hj => ?_⟩
  simp only [Value.slice.injEq, true_and] at h1
  rw [cell_same (hb hne ⟨b, off, none⟩ (by rw [h1.1]; exact h3))]; exact h5 j hj
theorem cols_move {cs : List C} {qo : Option Addr} {qc : Nat} {w w' : World} (h : ColsAt cs (.slice qo cs.length qc) w) (hs : w.heap.size ≤ w'.heap.size) (hb : cs ≠ [] → ∀ a, qo = some a → w'.heap[a.block]? = w.heap[a.block]?) : ColsAt cs (.slice qo cs.length qc) w' := by
  obtain ⟨ao, cap, h1, hc, hm, h2⟩ := h
  refine ⟨ao, cap, h1, hc, hm, fun hne => ?_⟩
  obtain ⟨b, off, h3, h4, h5⟩ := h2 hne
  refine ⟨b, off, h3, by omega, fun j hj => ?_⟩
  simp only [Value.slice.injEq, true_and] at h1
  rw [cell_same (hb hne ⟨b, off, none⟩ (by rw [h1.1]; exact h3))]; exact h5 j hj
theorem M.In.move {x : M} {w w' : World} (h : x.In w) (hs : w.heap.size ≤ w'.heap.size) (hb : ∀ b, x.Blk b → w'.heap[b]? = w.heap[b]?) : x.In w' :=
  ⟨row_move h.r hs fun hne a ha => hb _ (.inl ⟨hne, a, ha, rfl⟩), cols_move h.q hs fun hne a ha => hb _ (.inr ⟨hne, a, ha, rfl⟩)⟩
theorem M.In.but {x : M} {r B : Nat} {w w' : World} (h : x.In w) (hf : x.From B) (hr : r < B) (hb : But r w w') : x.In w' :=
  h.move hb.size fun b hx => hb.block b (h.lt hx) (by have := hf b hx; omega)
theorem M.In.put {x : M} {c o B : Nat} {u : Value} {w : World} (h : x.In w) (hf : x.From B) (hr : c < B) : x.In (w.setCell ⟨c, o, none⟩ u) :=
  h.move (by simp [World.setCell]) fun b hx => Below.heap_setCell _ _ _ _ (by have := hf b hx; show b ≠ c; omega)
theorem M.In.grown {x : M} {w w' : World} {row : Option Nat} (h : x.In w) (hg : w.grownBy w' row) (ho : ∀ c, row = some c → ¬ x.Blk c) : x.In w' :=
  h.move hg.size fun b hx => hg.block b (h.lt hx) fun e => ho b e.symm hx
/-- What is read is not too big. -/
structure Small (n : Nat) (c : Ch) : Prop where
  tb : c.tb.length ≤ n
  rn : c.row.length ≤ 1000
  row : ∀ v ∈ c.row, v.right = true ∧ v.wf
  nm : c.df.nm.length ≤ n
  cl : c.df.cols.length ≤ 16
  cn : ∀ d ∈ c.df.cols, d.nm.length ≤ n
theorem Small.lim {n : Nat} {c : Ch} (h : Small n c) (hn : n ≤ 281474976710656) : ChLim c := ⟨by have := h.tb; omega, by have := h.nm; omega, fun _ d hd => by have := h.cn d hd; omega, by have := h.cl; omega, by have := h.rn; omega⟩
theorem Small.wf {n : Nat} {c : Ch} (h : Small n c) (hn : n ≤ 281474976710656) : c.wf := ⟨fun v hv => (h.row v hv).2, by have := h.tb; omega, by have := h.rn; omega⟩
/-! blocks of any cells -/
theorem put_at {w : World} {c o : Nat} {cs : Array Value} {t : TypeId} {u : Value} (h : w.heap[c]? = some (.cells cs t (0, 0))) : (w.setCell ⟨c, o, none⟩ u).heap[c]? = some (.cells (cs.setIfInBounds o u) t (0, 0)) := by
  have hlt := lt_of_block h
  have h' : w.heap[c] = .cells cs t (0, 0) := by simpa [Array.getElem?_eq_getElem hlt] using h
  show (w.heap.modify c _)[c]? = _
  rw [Array.getElem?_eq_getElem (by simpa using hlt), Array.getElem_modify_self, h']
  rfl
theorem cell_at {w : World} {c o : Nat} {cs : Array Value} {t : TypeId} (h : w.heap[c]? = some (.cells cs t (0, 0))) : w.cell? ⟨c, o, none⟩ = cs[o]? := by simp [World.cell?, h]
/-! a row that is read -/
set_option maxHeartbeats 800000 in
set_option maxRecDepth 100000 in
theorem read_lf_open (r : Nat) (s : ByteArray) (p : Nat) (w : World) (h : Rdr r s p 0 w) {α : Type} (V : α → Value → World → Prop) (R : Except Nat (α × List UInt8))
    (hc : ∀ w1, Rdr r s p 0 w1 → w.heap.size ≤ w1.heap.size → Calls Tryz.prog 124 #[.pointer (some ⟨r, 0, none⟩)] w1 fun en w' => Part r s 0 w1 V R en w') :
    Calls Tryz.prog 123 #[.pointer (some ⟨r, 0, none⟩), .func (.func 124) #[] #[]] w fun en w' => Cod.Call r s p w V (.slice none 0 0) R en w' := by
  have hmf : ∀ (fn : Fn) (first cap : Array Value) (w : World), (Instr.makeFunc fn first cap).run Tryz.prog w = .ok (.func fn first cap) w := fun _ _ _ _ => rfl
  have HR := hidm h
  go_enter_defers Tryz.func123, Tryz.ntmps123
  go_wp2_with fail
  have h1 := (HR.out.past (.cells #[.pointer (some ⟨r, 0, none⟩)] 71)).c1
  refine (err_any r s p 0 _ (HR.out.past _)).mono ?_
  rintro en w1 ⟨rfl, rfl⟩
  go_wp2_with fail
  have HA := hidm ((HR.out.past (.cells #[.pointer (some ⟨r, 0, none⟩)] 71)).past (.cells #[.int .i64 p] 3))
  refine (hc _ HA.out (by simp only [World.size_alloc]; omega)).mono ?_
  have HBo : Hid (But r w ((w.alloc (.cells #[.pointer (some ⟨r, 0, none⟩)] 71)).alloc (.cells #[.int .i64 p] 3))) := hidm (((But.refl r w).alloc _).alloc _)
  have hrlt := h.lt
  have hb0 : ((w.alloc (.cells #[.pointer (some ⟨r, 0, none⟩)] 71)).alloc (.cells #[.int .i64 p] 3)).heap[w.heap.size]? = some (.cells #[.pointer (some ⟨r, 0, none⟩)] 71 (0, 0)) := below_keeps ((Below.refl _ _).alloc (Nat.le_refl _) _) (heap_alloc_new _ _)
  have hb1 : ((w.alloc (.cells #[.pointer (some ⟨r, 0, none⟩)] 71)).alloc (.cells #[.int .i64 p] 3)).heap[w.heap.size + 1]? = some (.cells #[.int .i64 p] 3 (0, 0)) := by
    have := heap_alloc_new (w.alloc (.cells #[.pointer (some ⟨r, 0, none⟩)] 71)) (.cells #[.int .i64 p] 3)
    simpa using this
  have HB0 := hidm hb0
  have HB1 := hidm hb1
  clear hb0 hb1 h1
  cases R with
  | ok at' =>
    obtain ⟨a, t⟩ := at'
    rintro en w1 ⟨v, rfl, hv, hr1, hbt⟩
    have HV := hidm hv
    have HR1 := hidm hr1
    have HT := hidm (HBo.out.trans hbt)
    clear hv hr1 hbt
    go_wp2_with fail
    refine leaves_cons (f := 135) (args := #[.pointer (some ⟨w.heap.size + 1, 0, none⟩), .pointer (some ⟨w.heap.size, 0, none⟩)]) (by simp) (by simp [go_sem]) ?_
    refine (catch_idle_l _ _ _).mono ?_
    rintro e u' w'' ⟨rfl, rfl, rfl⟩
    exact ⟨_, results_tmp rfl _ _ _, v, rfl, HV.out, HR1.out, HT.out⟩
  | error x =>
    rintro en w1 ⟨q, rfl, hr1, hbt⟩
    have HR1 := hidm hr1
    have HT := hidm (HBo.out.trans hbt)
    have HC0 := hidm (hbt.keeps (by omega) HB0.out)
    have HC1 := hidm (hbt.keeps (by omega) HB1.out)
    clear hr1 hbt
    go_wp2_with fail
    refine leaves_cons (f := 135) (args := #[.pointer (some ⟨w.heap.size + 1, 0, none⟩), .pointer (some ⟨w.heap.size, 0, none⟩)]) (by simp) (by simp [go_sem]) ?_
    refine (catch_pan_l _ _ r s p q x _ HC1.out HC0.out HR1.out).mono ?_
    rintro e u' w'' ⟨rfl, rfl, rfl⟩
    refine ⟨_, results_tmp rfl _ _ _, rfl, (HR1.out.set1 p).set2 x, (HT.out.set _ _).set _ _⟩
theorem m_lf_open (r : Nat) (s : ByteArray) (p : Nat) (w : World) (h : Rdr r s p 0 w) {α : Type} (V : α → Value → World → Prop) (R : Except Nat (α × List UInt8))
    (hc : ∀ w1, Rdr r s p 0 w1 → w.heap.size ≤ w1.heap.size → Calls Tryz.prog 124 #[.pointer (some ⟨r, 0, none⟩)] w1 fun en w' => Part r s 0 w1 V R en w') :
    Calls Tryz.prog 101 #[.pointer (some ⟨r, 0, none⟩)] w fun en w' => Cod.Call r s p w V (.slice none 0 0) R en w' := by
  have HR := read_lf_open r s p w h V R hc
  go_enter Tryz.func101, Tryz.ntmps101
  go_wp2_with fail
  refine HR.mono ?_
  cases R with
  | ok at' =>
    rintro en w1 ⟨v, rfl, hv⟩
    have HV := hidm hv
    clear hv
    go_wp2_with fail
    go_ret
    exact ⟨v, rfl, HV.out⟩
  | error x =>
    rintro en w1 ⟨rfl, hv⟩
    have HV := hidm hv
    clear hv
    go_wp2_with fail
    go_ret
    exact ⟨rfl, HV.out⟩
theorem call_lf (r : Nat) (s : ByteArray) (p : Nat) (w : World) (h : Rdr r s p 0 w) (hp : p ≤ s.size) (hs : s.size ≤ 281474976710656) :
    Calls Tryz.prog 101 #[.pointer (some ⟨r, 0, none⟩)] w fun en w' => Cod.Call r s p w (VRow w.heap.size) (.slice none 0 0) (row (s.data.toList.drop p)) en w' :=
  m_lf_open r s p w h (VRow w.heap.size) (row (s.data.toList.drop p)) (fun w1 h1 hz => (row_part r s p 0 w1 h1 hp hs).mono fun _ _ hp' => part_mono hp' fun _ _ hv => ⟨hv.1, hv.2.imp id fun ⟨g, cap, cur, h1', h2', h3'⟩ => ⟨g, cap, cur, h1', Nat.le_trans hz h2', h3'⟩⟩)
def RowP (r : Nat) (s : ByteArray) (p : Nat) (e : Int) (w : World) (en : Ending) (w' : World) : Prop := ∃ (vs : List V) (ao : Option Addr) (cap p' : Nat) (e' : Int), en = .returned (.slice ao vs.length cap) ∧ RowC vs (.slice ao vs.length cap) w' ∧ Fresh w.heap.size vs (.slice ao vs.length cap) ∧ Rdr r s p' e' w' ∧ But r w w' ∧ p' ≤ s.size ∧ vs.length ≤ 1000 ∧ (∀ v ∈ vs, v.right = true ∧ v.wf) ∧
  (∀ us X, e = 0 → s.data.toList.drop p = rB us ++ X → us.length ≤ 1000 → (∀ v ∈ us, v.right = true ∧ v.wf) → vs = us ∧ e' = 0 ∧ s.data.toList.drop p' = X)
theorem row_uni (r : Nat) (s : ByteArray) (p : Nat) (e : Int) (w : World) (h : Rdr r s p e w) (hp : p ≤ s.size) (hs : s.size ≤ 281474976710656) :
    Calls Tryz.prog 101 #[.pointer (some ⟨r, 0, none⟩)] w fun en w' => RowP r s p e w en w' := by
  by_cases he : e = 0
  · subst he
    refine (call_lf r s p w h hp hs).mono ?_
    cases hR : row (s.data.toList.drop p) with
    | ok at' =>
      obtain ⟨a, t⟩ := at'
      rintro en w' ⟨v, rfl, hv, hr, hb⟩
      have hk := row_ok hR
      have hc := RowC.of_owns hv
      obtain ⟨ao, cap, rfl, _, _, _⟩ := hc.2
      refine ⟨a, ao, cap, s.size - t.length, 0, rfl, hc, fresh_owns hv, hr, hb, Nat.sub_le _ _, hk.2.1, hk.2.2, fun us X _ hd hn hu => ?_⟩
      rw [hd, row_back us hu hn X] at hR
      simp only [Except.ok.injEq, Prod.mk.injEq] at hR
      obtain ⟨rfl, rfl⟩ := hR
      exact ⟨rfl, rfl, drop_end hd⟩
    | error x =>
      rintro en w' ⟨rfl, hr, hb⟩
      refine ⟨[], none, 0, p, x, rfl, RowC.nil _, Fresh.nil _ _, hr, hb, hp, by simp, by simp, fun us X _ hd hn hu => ?_⟩
      rw [hd, row_back us hu hn X] at hR
      cases hR
  · refine (m_l_shut r s p e (by simpa using he) w h).mono ?_
    rintro en w' ⟨rfl, hb⟩
    exact ⟨[], none, 0, p, e, rfl, RowC.nil _, Fresh.nil _ _, h.later hb, .of hb, hp, by simp, by simp, fun _ _ h0 => absurd h0 he⟩
/-- A change that is read. -/
def ChP (r : Nat) (s : ByteArray) (p : Nat) (e : Int) (w : World) (en : Ending) (w' : World) : Prop := ∃ (x : M) (p' : Nat) (e' : Int), en = .returned x.agg ∧ x.In w' ∧ x.From w.heap.size ∧ Small s.size x.c ∧ Rdr r s p' e' w' ∧ But r w w' ∧ p' ≤ s.size ∧
  (∀ c X, e = 0 → s.data.toList.drop p = chBy c ++ X → chB c = true → c.wf → x.c = c ∧ e' = 0 ∧ s.data.toList.drop p' = X)
end Frm
end Go.Proofs.YtopmbhpjdmcabaaGreat
namespace Go.Proofs.YtopmbhpjdmcabaaGreat
open Go.RowKit
namespace Frm
open Cod Sch
/-- Eight cells, stored anew. -/
def put8 (w1 : World) (B : Nat) (x0 x1 x2 x3 x4 x5 x6 x7 : Value) : World := ((((((((w1.setCell ⟨B, 0, none⟩ x0).setCell ⟨B, 1, none⟩ x1).setCell ⟨B, 2, none⟩ x2).setCell ⟨B, 3, none⟩ x3).setCell ⟨B, 4, none⟩ x4).setCell ⟨B, 5, none⟩ x5).setCell ⟨B, 6, none⟩ x6).setCell ⟨B, 7, none⟩ x7)
theorem put8_blk {w1 : World} {B : Nat} {y0 y1 y2 y3 y4 y5 y6 y7 : Value} {t : TypeId} (x0 x1 x2 x3 x4 x5 x6 x7 : Value) (h : w1.heap[B]? = some (.cells #[y0, y1, y2, y3, y4, y5, y6, y7] t (0, 0))) : (put8 w1 B x0 x1 x2 x3 x4 x5 x6 x7).heap[B]? = some (.cells #[x0, x1, x2, x3, x4, x5, x6, x7] t (0, 0)) := by
  have h0 := put_at (o := 0) (u := x0) h
  simp only [List.setIfInBounds_toArray, List.set_cons_zero] at h0
  have h1 := put_at (o := 1) (u := x1) h0
  simp only [List.setIfInBounds_toArray, List.set_cons_zero, List.set_cons_succ] at h1
  have h2 := put_at (o := 2) (u := x2) h1
  simp only [List.setIfInBounds_toArray, List.set_cons_zero, List.set_cons_succ] at h2
  have h3 := put_at (o := 3) (u := x3) h2
  simp only [List.setIfInBounds_toArray, List.set_cons_zero, List.set_cons_succ] at h3
  have h4 := put_at (o := 4) (u := x4) h3
  simp only [List.setIfInBounds_toArray, List.set_cons_zero, List.set_cons_succ] at h4
  have h5 := put_at (o := 5) (u := x5) h4
  simp only [List.setIfInBounds_toArray, List.set_cons_zero, List.set_cons_succ] at h5
  have h6 := put_at (o := 6) (u := x6) h5
  simp only [List.setIfInBounds_toArray, List.set_cons_zero, List.set_cons_succ] at h6
  have h7 := put_at (o := 7) (u := x7) h6
  simp only [List.setIfInBounds_toArray, List.set_cons_zero, List.set_cons_succ] at h7
  exact h7
theorem put8_far {w1 : World} {B b : Nat} (x0 x1 x2 x3 x4 x5 x6 x7 : Value) (h : b ≠ B) : (put8 w1 B x0 x1 x2 x3 x4 x5 x6 x7).heap[b]? = w1.heap[b]? := by
  unfold put8
  repeat rw [Below.heap_setCell _ _ _ _ (by exact h)]
theorem put8_size (w1 : World) (B : Nat) (x0 x1 x2 x3 x4 x5 x6 x7 : Value) : (put8 w1 B x0 x1 x2 x3 x4 x5 x6 x7).heap.size = w1.heap.size := by
  unfold put8; simp
theorem put8_rdr {w1 : World} {B r : Nat} {s : ByteArray} {q e : Int} (x0 x1 x2 x3 x4 x5 x6 x7 : Value) (h : Rdr r s q e w1) (hn : r ≠ B) : Rdr r s q e (put8 w1 B x0 x1 x2 x3 x4 x5 x6 x7) := by
  unfold Rdr; rw [put8_far _ _ _ _ _ _ _ _ hn]; exact h
theorem put8_but {w w1 : World} {B r : Nat} (x0 x1 x2 x3 x4 x5 x6 x7 : Value) (h : But r w w1) (hn : w.heap.size ≤ B) : But r w (put8 w1 B x0 x1 x2 x3 x4 x5 x6 x7) :=
  (((((((h.setNew (p := ⟨B, 0, none⟩) hn x0).setNew (p := ⟨B, 1, none⟩) hn x1).setNew (p := ⟨B, 2, none⟩) hn x2).setNew (p := ⟨B, 3, none⟩) hn x3).setNew (p := ⟨B, 4, none⟩) hn x4).setNew (p := ⟨B, 5, none⟩) hn x5).setNew (p := ⟨B, 6, none⟩) hn x6).setNew (p := ⟨B, 7, none⟩) hn x7
theorem M.In.put8 {x : M} {c B : Nat} {w : World} (x0 x1 x2 x3 x4 x5 x6 x7 : Value) (h : x.In w) (hf : x.From B) (hr : c < B) : x.In (put8 w c x0 x1 x2 x3 x4 x5 x6 x7) :=
  h.move (by rw [put8_size]; exact Nat.le_refl _) fun b hx => put8_far _ _ _ _ _ _ _ _ (by have := hf b hx; omega)
theorem row_but {vs : List V} {ro : Option Addr} {rc r B : Nat} {w w' : World} (h : RowC vs (.slice ro vs.length rc) w) (hf : Fresh B vs (.slice ro vs.length rc)) (hr : r < B) (hb : But r w w') : RowC vs (.slice ro vs.length rc) w' :=
  row_move h hb.size fun hne a ha => by
    obtain ⟨ao, cap, h1, h2⟩ := h.1
    obtain ⟨b, off, h3, h4, _⟩ := h2 hne
    simp only [Value.slice.injEq, true_and] at h1
    have e : a = ⟨b, off, none⟩ := by rw [← h1.1, ha] at h3; simpa using h3
    have := hf hne a _ _ (by rw [ha])
    subst e
    exact hb.block _ h4 (by simp only at this ⊢; omega)
theorem row_put {vs : List V} {ro : Option Addr} {rc c k B : Nat} {u : Value} {w : World} (h : RowC vs (.slice ro vs.length rc) w) (hf : Fresh B vs (.slice ro vs.length rc)) (hr : c < B) : RowC vs (.slice ro vs.length rc) (w.setCell ⟨c, k, none⟩ u) :=
  row_move h (by simp [World.setCell]) fun hne a ha => Below.heap_setCell _ _ _ _ (by have := hf hne a _ _ (by rw [ha]); show a.block ≠ c; omega)
theorem wrap_small (v : Nat) (h : v < 9223372036854775808) : IntKind.i64.wrap (v : Int) = (v : Int) := by rw [IntKind.wrap_i64]; omega
theorem chBy_tab {c : Ch} (h : c.op = 3) : chBy c = uB 3 ++ tB (bodyB c.df) := by
  unfold chBy backB; rw [if_pos h, h]; rfl
theorem chBy_row {c : Ch} (h : c.op ≠ 3) : chBy c = uB c.op.toNat ++ (tB c.tb ++ (rB c.row ++ (uB c.a.toNat ++ uB c.z.toNat))) := by
  unfold chBy backB; rw [if_neg h]
set_option maxHeartbeats 4000000 in
set_option maxRecDepth 100000 in
theorem readchange_any (r : Nat) (s : ByteArray) (p : Nat) (e : Int) (w : World) (h : Rdr r s p e w) (hp : p ≤ s.size) (hs : s.size ≤ 100000) :
    Calls Tryz.prog 74 #[.pointer (some ⟨r, 0, none⟩)] w fun en w' => ChP r s p e w en w' := by
  have hs2 : s.size ≤ 281474976710656 := by omega
  have hrw := h.lt
  have hrz : r ≠ w.heap.size := by omega
  have HR0 := hidm (h.past (.cells #[.int .i64 0, .string ⟨#[]⟩, .slice none 0 0, .int .i64 0, .int .i64 0, .string ⟨#[]⟩, .slice none 0 0, .int .i64 0] 32))
  have HZ0 := hidm (heap_alloc_new w (.cells #[.int .i64 0, .string ⟨#[]⟩, .slice none 0 0, .int .i64 0, .int .i64 0, .string ⟨#[]⟩, .slice none 0 0, .int .i64 0] 32))
  have HB0 := hidm ((But.refl r w).alloc (.cells #[.int .i64 0, .string ⟨#[]⟩, .slice none 0 0, .int .i64 0, .int .i64 0, .string ⟨#[]⟩, .slice none 0 0, .int .i64 0] 32))
  clear h
  go_enter Tryz.func74, Tryz.ntmps74
  go_wp2_with fail
  refine (num_uni r s p e _ HR0.out hp hs2).mono ?_
  rintro en w1 ⟨v, p1, e1, rfl, hr, hb, hp1, hv, ht⟩
  obtain ⟨k, hk⟩ : ∃ k, IntKind.i64.wrap (v : Int) = k := ⟨_, rfl⟩
  have hk2 : wrap64 (v : Int) = k := (wrap_is _).symm.trans hk
  have HK := hidm hk
  have hsz1 : w.heap.size + 1 ≤ w1.heap.size := by have := hb.size; simpa using this
  have hrc : r ≠ w1.heap.size := by omega
  have hzc : w.heap.size ≠ w1.heap.size := by omega
  have hbA : Below w1.heap.size w1 (w1.alloc (.cells #[.int .i64 k, .string ⟨#[]⟩, .slice none 0 0, .int .i64 0, .int .i64 0, .string ⟨#[]⟩, .slice none 0 0, .int .i64 0] 32)) := (Below.refl _ _).alloc (Nat.le_refl _) _
  have HZ1 := hidm (below_keeps hbA (hb.keeps (Ne.symm hrz) HZ0.out))
  have HC1 := hidm (heap_alloc_new w1 (.cells #[.int .i64 k, .string ⟨#[]⟩, .slice none 0 0, .int .i64 0, .int .i64 0, .string ⟨#[]⟩, .slice none 0 0, .int .i64 0] 32))
  have HR1 := hidm (hr.past (.cells #[.int .i64 k, .string ⟨#[]⟩, .slice none 0 0, .int .i64 0, .int .i64 0, .string ⟨#[]⟩, .slice none 0 0, .int .i64 0] 32))
  have HB1 := hidm ((HB0.out.trans hb).alloc (.cells #[.int .i64 k, .string ⟨#[]⟩, .slice none 0 0, .int .i64 0, .int .i64 0, .string ⟨#[]⟩, .slice none 0 0, .int .i64 0] 32))
  have HP1 := hidm hp1
  have HT1 := hidm ht
  clear hr hb hp1 ht hbA HR0 HZ0 HB0
  by_cases h3 : k = 3
  · have f1 : (k == 3) = true := by rw [h3]; rfl
    have H3 := hidm h3
    clear h3
    go_wp2_with fail
    refine (text_uni r s p1 e1 _ HR1.out HP1.out hs2).mono ?_
    rintro en w2 ⟨l, p2, e2, rfl, hr, hb, hp2, hl, ht⟩
    have HZ2 := hidm (hb.keeps (Ne.symm hrz) HZ1.out)
    have HC2 := hidm (hb.keeps (Ne.symm hrc) HC1.out)
    have HB2 := hidm (HB1.out.trans hb)
    have hsz2 : w1.heap.size + 1 ≤ w2.heap.size := by have := hb.size; simpa using this
    have HR2 := hidm hr
    have HP2 := hidm hp2
    have HL2 := hidm hl
    have HT2 := hidm ht
    have hl1 : l.length ≤ 100000 := by omega
    clear hr hb hp2 hl ht HZ1 HC1 HB1 HR1 hk hk2
    go_wp2_with fail
    refine (decode_any l hl1 _).mono ?_
    rintro en w3 ⟨t, sl, x, rfl, hc, hb, hn, hm, hcn, hor, hfr⟩
    obtain ⟨so, sc, hsl, _, _⟩ := hc.form
    subst hsl
    have hz3 := below_keeps hb HZ2.out
    have hc3 := below_keeps hb HC2.out
    have HB3 := hidm (HB2.out.trans (.of hb))
    have HR3 := hidm (HR2.out.later hb)
    obtain ⟨c0, c1, c2, c3, c4, c5, c6, c7⟩ := cells8 hc3
    obtain ⟨z0, z1, z2, z3, z4, z5, z6, z7⟩ := cells8 hz3
    have cf1 := frz hc3 1
    have cf5 := frz hc3 5
    have cf6 := frz hc3 6
    have cf7 := frz hc3 7
    have zf0 := frz hz3 0
    have zf1 := frz hz3 1
    have zf2 := frz hz3 2
    have zf3 := frz hz3 3
    have zf4 := frz hz3 4
    have zf5 := frz hz3 5
    have zf6 := frz hz3 6
    have zf7 := frz hz3 7
    have HX := hidm (show (⟨⟨k, t.nm, [], 0, 0, t⟩, none, 0, so, sc⟩ : M).In w3 from ⟨RowC.nil _, hc⟩)
    have HXF := hidm (show (⟨⟨k, t.nm, [], 0, 0, t⟩, none, 0, so, sc⟩ : M).From w2.heap.size from fun b hx => by
      rcases hx with ⟨hne, _⟩ | ⟨hne, a, ha, rfl⟩
      · exact absurd rfl hne
      · have ha' : so = some a := ha
        exact hfr hne a _ _ (by rw [ha']))
    have HSM := hidm (show Small s.size (⟨k, t.nm, [], 0, 0, t⟩ : Ch) from ⟨by have := HL2.out; show t.nm.length ≤ s.size; omega, by simp, by simp, by have := HL2.out; show t.nm.length ≤ s.size; omega, hm, fun d hd => by have := hcn d hd; have := HL2.out; omega⟩)
    have HOR := hidm hor
    have hz4 := put_other (c := w1.heap.size) (o := 1) (u := .string (S t.nm)) (put_other (c := w1.heap.size) (o := 7) (u := .int .i64 t.keys) (put_other (c := w1.heap.size) (o := 6) (u := .slice so t.cols.length sc) (put_other (c := w1.heap.size) (o := 5) (u := .string (S t.nm)) hz3 hzc) hzc) hzc) hzc
    obtain ⟨r0, r1, r2, r3, r4, r5, r6, r7⟩ := cells8 (put8_blk (.int .i64 k) (.string (S t.nm)) (.slice none 0 0) (.int .i64 0) (.int .i64 0) (.string (S t.nm)) (.slice so t.cols.length sc) (.int .i64 t.keys) hz4)
    unfold put8 at r0 r1 r2 r3 r4 r5 r6 r7
    have R0 := hidm r0
    have R1 := hidm r1
    have R2 := hidm r2
    have R3 := hidm r3
    have R4 := hidm r4
    have R5 := hidm r5
    have R6 := hidm r6
    have R7 := hidm r7
    clear r0 r1 r2 r3 r4 r5 r6 r7
    have HRF := hidm (put8_rdr (B := w.heap.size) (.int .i64 k) (.string (S t.nm)) (.slice none 0 0) (.int .i64 0) (.int .i64 0) (.string (S t.nm)) (.slice so t.cols.length sc) (.int .i64 t.keys) ((((HR3.out.other (a := ⟨w1.heap.size, 5, none⟩) hrc (.string (S t.nm))).other (a := ⟨w1.heap.size, 6, none⟩) hrc (.slice so t.cols.length sc)).other (a := ⟨w1.heap.size, 7, none⟩) hrc (.int .i64 t.keys)).other (a := ⟨w1.heap.size, 1, none⟩) hrc (.string (S t.nm))) hrz)
    have HBF := hidm (put8_but (B := w.heap.size) (.int .i64 k) (.string (S t.nm)) (.slice none 0 0) (.int .i64 0) (.int .i64 0) (.string (S t.nm)) (.slice so t.cols.length sc) (.int .i64 t.keys) ((((HB3.out.setNew (p := ⟨w1.heap.size, 5, none⟩) (by show w.heap.size ≤ w1.heap.size; omega) (.string (S t.nm))).setNew (p := ⟨w1.heap.size, 6, none⟩) (by show w.heap.size ≤ w1.heap.size; omega) (.slice so t.cols.length sc)).setNew (p := ⟨w1.heap.size, 7, none⟩) (by show w.heap.size ≤ w1.heap.size; omega) (.int .i64 t.keys)).setNew (p := ⟨w1.heap.size, 1, none⟩) (by show w.heap.size ≤ w1.heap.size; omega) (.string (S t.nm))) (Nat.le_refl _))
    have HXX := hidm (M.In.put8 (c := w.heap.size) (.int .i64 k) (.string (S t.nm)) (.slice none 0 0) (.int .i64 0) (.int .i64 0) (.string (S t.nm)) (.slice so t.cols.length sc) (.int .i64 t.keys) ((((HX.out.put (c := w1.heap.size) (o := 5) (u := .string (S t.nm)) HXF.out (by omega)).put (c := w1.heap.size) (o := 6) (u := .slice so t.cols.length sc) HXF.out (by omega)).put (c := w1.heap.size) (o := 7) (u := .int .i64 t.keys) HXF.out (by omega)).put (c := w1.heap.size) (o := 1) (u := .string (S t.nm)) HXF.out (by omega)) HXF.out (by omega))
    clear hc hb hn hm hcn hor hfr hz3 hc3 hz4 HX HB3 HR3 HB2 HR2 HZ2 HC2
    go_wp2_with fail
    refine bodyPost_ret (v := .agg #[.int .i64 k, .string (S t.nm), .slice none 0 0, .int .i64 0, .int .i64 0, .string (S t.nm), .slice so t.cols.length sc, .int .i64 t.keys]) (by simp [results, Tryz.results74, go_sem, R0.out, R1.out, R2.out, R3.out, R4.out, R5.out, R6.out, R7.out]) rfl ?_
    refine ⟨⟨⟨k, t.nm, [], 0, 0, t⟩, none, 0, so, sc⟩, p2, e2, rfl, HXX.out, HXF.out.mono (by omega), HSM.out, HRF.out, HBF.out, HP2.out, fun c X he hd hcb hwf => ?_⟩
    have hop := ch_op hcb
    obtain ⟨hv1, he1, hd1⟩ := HT1.out c.op.toNat (backB c ++ X) he (by rw [hd]; unfold chBy; rw [List.append_assoc]) (by omega)
    have hk3 : k = c.op := by rw [← HK.out, hv1, wrap_small _ (by omega)]; omega
    have hc3 : c.op = 3 := by rw [← hk3]; exact H3.out
    rcases ch_cases hcb with ⟨h12, _⟩ | ⟨_, htab⟩
    · omega
    · obtain ⟨hrt, htb, hrow, ha, hz⟩ := tab_parts htab
      have hln := schema_len hrt
      obtain ⟨hl1, he2, hd2⟩ := HT2.out (bodyB c.df) X he1 (by rw [hd1]; unfold backB; rw [if_pos hc3]) (by omega)
      have htd : t = c.df := by
        rcases HOR.out with ⟨_, _, _, h4⟩ | ⟨_, _, h4⟩
        · exact h4 _ hrt hl1.symm
        · exact (h4 _ hrt hl1.symm).elim
      refine ⟨?_, he2, hd2⟩
      obtain ⟨co, ct, cr, ca, cz, cd⟩ := c
      simp only at hk3 hc3 htb hrow ha hz htd
      rw [hk3, htd, htb, hrow, ha, hz]
  · have f1 : (k == 3) = false := by simpa using h3
    go_wp2_with fail
    refine (text_uni r s p1 e1 _ HR1.out HP1.out hs2).mono ?_
    rintro en w2 ⟨l, p2, e2, rfl, hr, hb, hp2, hl, ht⟩
    have hz2 := hb.keeps (Ne.symm hrz) HZ1.out
    have hc2 := hb.keeps (Ne.symm hrc) HC1.out
    have hsz2 : w1.heap.size + 1 ≤ w2.heap.size := by have := hb.size; simpa using this
    obtain ⟨c0, c1, c2, c3, c4, c5, c6, c7⟩ := cells8 hc2
    have cf := frz hc2 1
    have HB2 := hidm ((HB1.out.trans hb).setNew (p := ⟨w1.heap.size, 1, none⟩) (by show w.heap.size ≤ w1.heap.size; omega) (.string (S l)))
    have HZ2 := hidm (put_other (c := w1.heap.size) (o := 1) (u := .string (S l)) hz2 hzc)
    have HC2 := hidm (put_at (o := 1) (u := .string (S l)) hc2)
    have HR2 := hidm (hr.other (a := ⟨w1.heap.size, 1, none⟩) hrc (.string (S l)))
    have HP2 := hidm hp2
    have HL2 := hidm hl
    have HT2 := hidm ht
    clear hr hb hp2 hl ht hz2 hc2 HZ1 HC1 HB1 HR1 hk hk2
    go_wp2_with fail
    refine (row_uni r s p2 e2 _ HR2.out HP2.out hs2).mono ?_
    rintro en w3 ⟨vs, ro, rc, p3, e3, rfl, hrow, hfr, hr, hb, hp3, hvn, hvs, ht⟩
    have hz3 := hb.keeps (Ne.symm hrz) HZ2.out
    have hc3 := hb.keeps (Ne.symm hrc) HC2.out
    have hsz3 : w1.heap.size + 1 ≤ w3.heap.size := by have := hb.size; simp only [World.size_setCell] at this; omega
    clear c0 c1 c2 c3 c4 c5 c6 c7 cf
    obtain ⟨c0, c1, c2, c3, c4, c5, c6, c7⟩ := cells8 hc3
    have cf := frz hc3 2
    have HF3 := hidm (hfr.mono (B' := w2.heap.size) (by simp))
    have HB3 := hidm ((HB2.out.trans hb).setNew (p := ⟨w1.heap.size, 2, none⟩) (by show w.heap.size ≤ w1.heap.size; omega) (.slice ro vs.length rc))
    have HZ3 := hidm (put_other (c := w1.heap.size) (o := 2) (u := .slice ro vs.length rc) hz3 hzc)
    have HC3 := hidm (put_at (o := 2) (u := .slice ro vs.length rc) hc3)
    have HR3 := hidm (hr.other (a := ⟨w1.heap.size, 2, none⟩) hrc (.slice ro vs.length rc))
    have HW3 := hidm (row_put (c := w1.heap.size) (k := 2) (u := .slice ro vs.length rc) hrow HF3.out (by omega))
    have HP3 := hidm hp3
    have HV3 := hidm (show vs.length ≤ 1000 ∧ ∀ v ∈ vs, v.right = true ∧ v.wf from ⟨hvn, hvs⟩)
    have HT3 := hidm ht
    clear hr hb hp3 ht hz3 hc3 hrow hfr hvn hvs HZ2 HC2 HB2 HR2
    go_wp2_with fail
    refine (num_uni r s p3 e3 _ HR3.out HP3.out hs2).mono ?_
    rintro en w4 ⟨v4, p4, e4, rfl, hr, hb, hp4, hv4, ht⟩
    obtain ⟨a, ha⟩ : ∃ k, IntKind.i64.wrap (v4 : Int) = k := ⟨_, rfl⟩
    have ha2 : wrap64 (v4 : Int) = a := (wrap_is _).symm.trans ha
    have HA := hidm ha
    have hz4 := hb.keeps (Ne.symm hrz) HZ3.out
    have hc4 := hb.keeps (Ne.symm hrc) HC3.out
    clear c0 c1 c2 c3 c4 c5 c6 c7 cf
    obtain ⟨c0, c1, c2, c3, c4, c5, c6, c7⟩ := cells8 hc4
    have cf := frz hc4 3
    have HB4 := hidm ((HB3.out.trans hb).setNew (p := ⟨w1.heap.size, 3, none⟩) (by show w.heap.size ≤ w1.heap.size; omega) (.int .i64 a))
    have HZ4 := hidm (put_other (c := w1.heap.size) (o := 3) (u := .int .i64 a) hz4 hzc)
    have HC4 := hidm (put_at (o := 3) (u := .int .i64 a) hc4)
    have HR4 := hidm (hr.other (a := ⟨w1.heap.size, 3, none⟩) hrc (.int .i64 a))
    have HW4 := hidm (row_put (c := w1.heap.size) (k := 3) (u := .int .i64 a) (row_but HW3.out HF3.out (by omega) hb) HF3.out (by omega))
    have HP4 := hidm hp4
    have HT4 := hidm ht
    clear hr hb hp4 ht hz4 hc4 HZ3 HC3 HB3 HR3 HW3
    go_wp2_with fail
    refine (num_uni r s p4 e4 _ HR4.out HP4.out hs2).mono ?_
    rintro en w5 ⟨v5, p5, e5, rfl, hr, hb, hp5, hv5, ht⟩
    obtain ⟨z, hz⟩ : ∃ k, IntKind.i64.wrap (v5 : Int) = k := ⟨_, rfl⟩
    have hz2 : wrap64 (v5 : Int) = z := (wrap_is _).symm.trans hz
    have HZZ := hidm hz
    have hz5 := hb.keeps (Ne.symm hrz) HZ4.out
    have hc5 := hb.keeps (Ne.symm hrc) HC4.out
    clear c0 c1 c2 c3 c4 c5 c6 c7 cf
    obtain ⟨c0, c1, c2, c3, c4, c5, c6, c7⟩ := cells8 hc5
    have cf := frz hc5 4
    have HB5 := hidm ((HB4.out.trans hb).setNew (p := ⟨w1.heap.size, 4, none⟩) (by show w.heap.size ≤ w1.heap.size; omega) (.int .i64 z))
    have hz6 := put_other (c := w1.heap.size) (o := 4) (u := .int .i64 z) hz5 hzc
    have HR5 := hidm (hr.other (a := ⟨w1.heap.size, 4, none⟩) hrc (.int .i64 z))
    have HW5 := hidm (row_put (c := w1.heap.size) (k := 4) (u := .int .i64 z) (row_but HW4.out HF3.out (by omega) hb) HF3.out (by omega))
    have HP5 := hidm hp5
    have HT5 := hidm ht
    obtain ⟨z0, z1, z2, z3, z4, z5, z6, z7⟩ := cells8 hz5
    have zf0 := frz hz5 0
    have zf1 := frz hz5 1
    have zf2 := frz hz5 2
    have zf3 := frz hz5 3
    have zf4 := frz hz5 4
    have zf5 := frz hz5 5
    have zf6 := frz hz5 6
    have zf7 := frz hz5 7
    obtain ⟨r0, r1, r2, r3, r4, r5, r6, r7⟩ := cells8 (put8_blk (.int .i64 k) (.string (S l)) (.slice ro vs.length rc) (.int .i64 a) (.int .i64 z) (.string ⟨#[]⟩) (.slice none 0 0) (.int .i64 0) hz6)
    unfold put8 at r0 r1 r2 r3 r4 r5 r6 r7
    have R0 := hidm r0
    have R1 := hidm r1
    have R2 := hidm r2
    have R3 := hidm r3
    have R4 := hidm r4
    have R5 := hidm r5
    have R6 := hidm r6
    have R7 := hidm r7
    clear r0 r1 r2 r3 r4 r5 r6 r7
    have HRF := hidm (put8_rdr (B := w.heap.size) (.int .i64 k) (.string (S l)) (.slice ro vs.length rc) (.int .i64 a) (.int .i64 z) (.string ⟨#[]⟩) (.slice none 0 0) (.int .i64 0) HR5.out hrz)
    have HBF := hidm (put8_but (B := w.heap.size) (.int .i64 k) (.string (S l)) (.slice ro vs.length rc) (.int .i64 a) (.int .i64 z) (.string ⟨#[]⟩) (.slice none 0 0) (.int .i64 0) HB5.out (Nat.le_refl _))
    have HX := hidm (show (⟨⟨k, l, vs, a, z, zT⟩, ro, rc, none, 0⟩ : M).In _ from ⟨HW5.out, ColsAt.nil _⟩)
    have HXF := hidm (show (⟨⟨k, l, vs, a, z, zT⟩, ro, rc, none, 0⟩ : M).From w2.heap.size from fun b hx => by
      rcases hx with ⟨hne, q, hq, rfl⟩ | ⟨hne, _⟩
      · have hq' : ro = some q := hq
        exact HF3.out hne q _ _ (by rw [hq'])
      · exact absurd rfl hne)
    have HXX := hidm (M.In.put8 (c := w.heap.size) (.int .i64 k) (.string (S l)) (.slice ro vs.length rc) (.int .i64 a) (.int .i64 z) (.string ⟨#[]⟩) (.slice none 0 0) (.int .i64 0) HX.out HXF.out (by omega))
    have HSM := hidm (show Small s.size (⟨k, l, vs, a, z, zT⟩ : Ch) from ⟨HL2.out, HV3.out.1, HV3.out.2, Nat.zero_le _, Nat.zero_le _, fun d hd => by cases hd⟩)
    clear hr hb hp5 ht hz5 hc5 hz6 HZ4 HC4 HB4 HR4 HW4 HB5 HR5 HW5 HX ha hz
    go_wp2_with fail
    refine bodyPost_ret (v := .agg #[.int .i64 k, .string (S l), .slice ro vs.length rc, .int .i64 a, .int .i64 z, .string ⟨#[]⟩, .slice none 0 0, .int .i64 0]) (by simp [results, Tryz.results74, go_sem, R0.out, R1.out, R2.out, R3.out, R4.out, R5.out, R6.out, R7.out]) rfl ?_
    refine ⟨⟨⟨k, l, vs, a, z, zT⟩, ro, rc, none, 0⟩, p5, e5, rfl, HXX.out, HXF.out.mono (by omega), HSM.out, HRF.out, HBF.out, HP5.out, fun c X he hd hcb hwf => ?_⟩
    have hop := ch_op hcb
    obtain ⟨hv1, he1, hd1⟩ := HT1.out c.op.toNat (backB c ++ X) he (by rw [hd]; unfold chBy; rw [List.append_assoc]) (by omega)
    have hk3 : k = c.op := by rw [← HK.out, hv1, wrap_small _ (by omega)]; omega
    rcases ch_cases hcb with ⟨h12, hrw⟩ | ⟨h3', _⟩
    · obtain ⟨hn, r1, r2, hrr, a0, az, z1, hdf⟩ := row_parts hrw
      have hnl := name_len hn
      have hbk : backB c ++ X = tB c.tb ++ (rB c.row ++ (uB c.a.toNat ++ (uB c.z.toNat ++ X))) := by
        unfold backB; rw [if_neg (by omega)]; simp only [List.append_assoc]
      obtain ⟨hl1, he2, hd2⟩ := HT2.out _ _ he1 (by rw [hd1]; exact hbk) (by omega)
      obtain ⟨hl3, he3, hd3⟩ := HT3.out _ _ he2 hd2 (by omega) (fun v hv => ⟨hrr v hv, hwf.row v hv⟩)
      obtain ⟨hl4, he4, hd4⟩ := HT4.out _ _ he3 hd3 (by omega)
      obtain ⟨hl5, he5, hd5⟩ := HT5.out _ _ he4 hd4 (by omega)
      have ha3 : a = c.a := by rw [← HA.out, hl4, wrap_small _ (by omega)]; omega
      have hz3 : z = c.z := by rw [← HZZ.out, hl5, wrap_small _ (by omega)]; omega
      refine ⟨?_, he5, hd5⟩
      obtain ⟨co, ct, cr, ca, cz, cd⟩ := c
      simp only at hk3 hl1 hl3 ha3 hz3 hdf
      rw [hk3, hl1, hl3, ha3, hz3, hdf]
    · exact absurd (hk3.trans h3') h3
end Frm
end Go.Proofs.YtopmbhpjdmcabaaGreat
