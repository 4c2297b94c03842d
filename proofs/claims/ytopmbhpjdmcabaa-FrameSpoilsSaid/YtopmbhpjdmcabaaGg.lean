/- Readers of package frame: where a change's row and columns lie; a row that is read, in any state of the reader. Conditions: as each theorem says. -/
import Derived.Test.YtopmbhpjdmcabaaGd
import Derived.Test.YtopmbhpjdmcabaaJr
import Derived.Test.YtopmbhpjdmcabaaJvf
import Derived.Test.YtopmbhpjdmcabaaQp
namespace Go.Proofs.Ytopmbhpjdmcabaa
open Go.RowKit
namespace Frm
open Cod Sch
/-- x has cells in block b. -/
def M.Blk (x : M) (b : Nat) : Prop := (x.c.row ≠ [] ∧ ∃ a, x.ro = some a ∧ a.block = b) ∨ (x.c.df.cols ≠ [] ∧ ∃ a, x.qo = some a ∧ a.block = b)
def M.From (x : M) (B : Nat) : Prop := ∀ b, x.Blk b → B ≤ b
theorem M.From.mono {x : M} {B B' : Nat} (h : x.From B) (hb : B' ≤ B) : x.From B' := fun b hx => Nat.le_trans hb (h b hx)
theorem cell_same {w w' : World} {b o : Nat} (h : w'.heap[b]? = w.heap[b]?) : w'.cell? ⟨b, o, none⟩ = w.cell? ⟨b, o, none⟩ := by simp [World.cell?, h]
theorem M.In.lt {x : M} {w : World} {b : Nat} (h : x.In w) (hb : x.Blk b) : b < w.heap.size := by
  rcases hb with ⟨hne, a, ha, rfl⟩ | ⟨hne, a, ha, rfl⟩
  · obtain ⟨ao, cap, h1, h2⟩ := h.r.1
    obtain ⟨b, off, h3, h4, h5⟩ := h2 hne
    simp only [Value.slice.injEq, true_and] at h1
    rw [← h1.1, ha] at h3
    simp only [Option.some.injEq] at h3
    rw [h3]; exact h4
  · obtain ⟨ao, cap, h1, _, _, h2⟩ := h.q
    obtain ⟨b, off, h3, h4, h5⟩ := h2 hne
    simp only [Value.slice.injEq, true_and] at h1
    rw [← h1.1, ha] at h3
    simp only [Option.some.injEq] at h3
    rw [h3]; exact h4
theorem row_move {vs : List V} {ro : Option Addr} {rc : Nat} {w w' : World} (h : RowC vs (.slice ro vs.length rc) w) (hs : w.heap.size ≤ w'.heap.size) (hb : vs ≠ [] → ∀ a, ro = some a → w'.heap[a.block]? = w.heap[a.block]?) : RowC vs (.slice ro vs.length rc) w' := by
  obtain ⟨⟨ao, cap, h1, h2⟩, hr⟩ := h
  refine ⟨⟨ao, cap, h1, fun hne => ?_⟩, hr⟩
  obtain ⟨b, off, h3, h4, h5⟩ := h2 hne
  refine ⟨b, off, h3, by omega, fun j hj => ?_⟩
  simp only [Value.slice.injEq, true_and] at h1
  rw [cell_same (hb hne ⟨b, off, none⟩ (by rw [h1.1]; exact h3))]; exact h5 j hj
theorem cols_move {cs : List C} {qo : Option Addr} {qc : Nat} {w w' : World} (h : ColsAt cs (.slice qo cs.length qc) w) (hs : w.heap.size ≤ w'.heap.size) (hb : cs ≠ [] → ∀ a, qo = some a → w'.heap[a.block]? = w.heap[a.block]?) : ColsAt cs (.slice qo cs.length qc) w' := by
  obtain ⟨ao, cap, h1, hc, hm, h2⟩ := h
  refine ⟨ao, cap, h1, hc, hm, fun hne => ?_⟩
  obtain ⟨b, off, h3, h4, h5⟩ := h2 hne
  refine ⟨b, off, h3, by omega, fun j hj => ?_⟩
  simp only [Value.slice.injEq, true_and] at h1
  rw [cell_same (hb hne ⟨b, off, none⟩ (by rw [h1.1]; exact h3))]; exact h5 j hj
theorem M.In.move {x : M} {w w' : World} (h : x.In w) (hs : w.heap.size ≤ w'.heap.size) (hb : ∀ b, x.Blk b → w'.heap[b]? = w.heap[b]?) : x.In w' :=
  ⟨row_move h.r hs fun hne a ha => hb _ (.inl ⟨hne, a, ha, rfl⟩), cols_move h.q hs fun hne a ha => hb _ (.inr ⟨hne, a, ha, rfl⟩)⟩
theorem M.In.but {x : M} {r B : Nat} {w w' : World} (h : x.In w) (hf : x.From B) (hr : r < B) (hb : But r w w') : x.In w' :=
  h.move hb.size fun b hx => hb.block b (h.lt hx) (by have := hf b hx; omega)
theorem M.In.put {x : M} {c o B : Nat} {u : Value} {w : World} (h : x.In w) (hf : x.From B) (hr : c < B) : x.In (w.setCell ⟨c, o, none⟩ u) :=
  h.move (by simp [World.setCell]) fun b hx => Below.heap_setCell _ _ _ _ (by have := hf b hx; show b ≠ c; omega)
theorem M.In.grown {x : M} {w w' : World} {row : Option Nat} (h : x.In w) (hg : w.grownBy w' row) (ho : ∀ c, row = some c → ¬ x.Blk c) : x.In w' :=
  h.move hg.size fun b hx => hg.block b (h.lt hx) fun e => ho b e.symm hx
/-- What is read is not too big. -/
structure Small (n : Nat) (c : Ch) : Prop where
  tb : c.tb.length ≤ n
  rn : c.row.length ≤ 1000
  row : ∀ v ∈ c.row, v.right = true ∧ v.wf
  nm : c.df.nm.length ≤ n
  cl : c.df.cols.length ≤ 16
  cn : ∀ d ∈ c.df.cols, d.nm.length ≤ n
theorem Small.lim {n : Nat} {c : Ch} (h : Small n c) (hn : n ≤ 281474976710656) : ChLim c := ⟨by have := h.tb; omega, by have := h.nm; omega, fun _ d hd => by have := h.cn d hd; omega, by have := h.cl; omega, by have := h.rn; omega⟩
theorem Small.wf {n : Nat} {c : Ch} (h : Small n c) (hn : n ≤ 281474976710656) : c.wf := ⟨fun v hv => (h.row v hv).2, by have := h.tb; omega, by have := h.rn; omega⟩
/-! blocks of any cells -/
theorem put_at {w : World} {c o : Nat} {cs : Array Value} {t : TypeId} {u : Value} (h : w.heap[c]? = some (.cells cs t (0, 0))) : (w.setCell ⟨c, o, none⟩ u).heap[c]? = some (.cells (cs.setIfInBounds o u) t (0, 0)) := by
  have hlt := lt_of_block h
  have h' : w.heap[c] = .cells cs t (0, 0) := by simpa [Array.getElem?_eq_getElem hlt] using h
  show (w.heap.modify c _)[c]? = _
  rw [Array.getElem?_eq_getElem (by simpa using hlt), Array.getElem_modify_self, h']
  rfl
theorem cell_at {w : World} {c o : Nat} {cs : Array Value} {t : TypeId} (h : w.heap[c]? = some (.cells cs t (0, 0))) : w.cell? ⟨c, o, none⟩ = cs[o]? := by simp [World.cell?, h]
/-! a row that is read -/
set_option maxHeartbeats 800000 in
set_option maxRecDepth 100000 in
theorem read_lf_open (r : Nat) (s : ByteArray) (p : Nat) (w : World) (h : Rdr r s p 0 w) {α : Type} (V : α → Value → World → Prop) (R : Except Nat (α × List UInt8))
    (hc : ∀ w1, Rdr r s p 0 w1 → w.heap.size ≤ w1.heap.size → Calls Try.prog 100 #[.pointer (some ⟨r, 0, none⟩)] w1 fun en w' => Part r s 0 w1 V R en w') :
    Calls Try.prog 99 #[.pointer (some ⟨r, 0, none⟩), .func (.func 100) #[] #[]] w fun en w' => Cod.Call r s p w V (.slice none 0 0) R en w' := by
  have hmf : ∀ (fn : Fn) (first cap : Array Value) (w : World), (Instr.makeFunc fn first cap).run Try.prog w = .ok (.func fn first cap) w := fun _ _ _ _ => rfl
  have HR := hidm h
  go_enter_defers Try.func99, Try.ntmps99
  go_wp2_with fail
  have h1 := (HR.out.past (.cells #[.pointer (some ⟨r, 0, none⟩)] 79)).c1
  refine (err_any r s p 0 _ (HR.out.past _)).mono ?_
  rintro en w1 ⟨rfl, rfl⟩
  go_wp2_with fail
  have HA := hidm ((HR.out.past (.cells #[.pointer (some ⟨r, 0, none⟩)] 79)).past (.cells #[.int .i64 p] 3))
  refine (hc _ HA.out (by simp only [World.size_alloc]; omega)).mono ?_
  have HBo : Hid (But r w ((w.alloc (.cells #[.pointer (some ⟨r, 0, none⟩)] 79)).alloc (.cells #[.int .i64 p] 3))) := hidm (((But.refl r w).alloc _).alloc _)
  have hrlt := h.lt
  have hb0 : ((w.alloc (.cells #[.pointer (some ⟨r, 0, none⟩)] 79)).alloc (.cells #[.int .i64 p] 3)).heap[w.heap.size]? = some (.cells #[.pointer (some ⟨r, 0, none⟩)] 79 (0, 0)) := below_keeps ((Below.refl _ _).alloc (Nat.le_refl _) _) (heap_alloc_new _ _)
  have hb1 : ((w.alloc (.cells #[.pointer (some ⟨r, 0, none⟩)] 79)).alloc (.cells #[.int .i64 p] 3)).heap[w.heap.size + 1]? = some (.cells #[.int .i64 p] 3 (0, 0)) := by
    have := heap_alloc_new (w.alloc (.cells #[.pointer (some ⟨r, 0, none⟩)] 79)) (.cells #[.int .i64 p] 3)
    simpa using this
  have HB0 := hidm hb0
  have HB1 := hidm hb1
  clear hb0 hb1 h1
  cases R with
  | ok at' =>
    obtain ⟨a, t⟩ := at'
    rintro en w1 ⟨v, rfl, hv, hr1, hbt⟩
    have HV := hidm hv
    have HR1 := hidm hr1
    have HT := hidm (HBo.out.trans hbt)
    clear hv hr1 hbt
    go_wp2_with fail
    refine leaves_cons (f := 107) (args := #[.pointer (some ⟨w.heap.size + 1, 0, none⟩), .pointer (some ⟨w.heap.size, 0, none⟩)]) (by simp) (by simp [go_sem]) ?_
    refine (catch_idle_l _ _ _).mono ?_
    rintro e u' w'' ⟨rfl, rfl, rfl⟩
    exact ⟨_, results_tmp rfl _ _ _, v, rfl, HV.out, HR1.out, HT.out⟩
  | error x =>
    rintro en w1 ⟨q, rfl, hr1, hbt⟩
    have HR1 := hidm hr1
    have HT := hidm (HBo.out.trans hbt)
    have HC0 := hidm (hbt.keeps (by omega) HB0.out)
    have HC1 := hidm (hbt.keeps (by omega) HB1.out)
    clear hr1 hbt
    go_wp2_with fail
    refine leaves_cons (f := 107) (args := #[.pointer (some ⟨w.heap.size + 1, 0, none⟩), .pointer (some ⟨w.heap.size, 0, none⟩)]) (by simp) (by simp [go_sem]) ?_
    refine (catch_pan_l _ _ r s p q x _ HC1.out HC0.out HR1.out).mono ?_
    rintro e u' w'' ⟨rfl, rfl, rfl⟩
    refine ⟨_, results_tmp rfl _ _ _, rfl, (HR1.out.set1 p).set2 x, (HT.out.set _ _).set _ _⟩
theorem m_lf_open (r : Nat) (s : ByteArray) (p : Nat) (w : World) (h : Rdr r s p 0 w) {α : Type} (V : α → Value → World → Prop) (R : Except Nat (α × List UInt8))
    (hc : ∀ w1, Rdr r s p 0 w1 → w.heap.size ≤ w1.heap.size → Calls Try.prog 100 #[.pointer (some ⟨r, 0, none⟩)] w1 fun en w' => Part r s 0 w1 V R en w') :
    Calls Try.prog 85 #[.pointer (some ⟨r, 0, none⟩)] w fun en w' => Cod.Call r s p w V (.slice none 0 0) R en w' := by
  have HR := read_lf_open r s p w h V R hc
  go_enter Try.func85, Try.ntmps85
  go_wp2_with fail
  refine HR.mono ?_
  cases R with
  | ok at' =>
    rintro en w1 ⟨v, rfl, hv⟩
    have HV := hidm hv
    clear hv
    go_wp2_with fail
    go_ret
    exact ⟨v, rfl, HV.out⟩
  | error x =>
    rintro en w1 ⟨rfl, hv⟩
    have HV := hidm hv
    clear hv
    go_wp2_with fail
    go_ret
    exact ⟨rfl, HV.out⟩
theorem call_lf (r : Nat) (s : ByteArray) (p : Nat) (w : World) (h : Rdr r s p 0 w) (hp : p ≤ s.size) (hs : s.size ≤ 281474976710656) :
    Calls Try.prog 85 #[.pointer (some ⟨r, 0, none⟩)] w fun en w' => Cod.Call r s p w (VRow w.heap.size) (.slice none 0 0) (row (s.data.toList.drop p)) en w' :=
  m_lf_open r s p w h (VRow w.heap.size) (row (s.data.toList.drop p)) (fun w1 h1 hz => (row_part r s p 0 w1 h1 hp hs).mono fun _ _ hp' => part_mono hp' fun _ _ hv => ⟨hv.1, hv.2.imp id fun ⟨g, cap, cur, h1', h2', h3'⟩ => ⟨g, cap, cur, h1', Nat.le_trans hz h2', h3'⟩⟩)
def RowP (r : Nat) (s : ByteArray) (p : Nat) (e : Int) (w : World) (en : Ending) (w' : World) : Prop := ∃ (vs : List V) (ao : Option Addr) (cap p' : Nat) (e' : Int), en = .returned (.slice ao vs.length cap) ∧ RowC vs (.slice ao vs.length cap) w' ∧ Fresh w.heap.size vs (.slice ao vs.length cap) ∧ Rdr r s p' e' w' ∧ But r w w' ∧ p' ≤ s.size ∧ vs.length ≤ 1000 ∧ (∀ v ∈ vs, v.right = true ∧ v.wf) ∧
  (∀ us X, e = 0 → s.data.toList.drop p = rB us ++ X → us.length ≤ 1000 → (∀ v ∈ us, v.right = true ∧ v.wf) → vs = us ∧ e' = 0 ∧ s.data.toList.drop p' = X)
theorem row_uni (r : Nat) (s : ByteArray) (p : Nat) (e : Int) (w : World) (h : Rdr r s p e w) (hp : p ≤ s.size) (hs : s.size ≤ 281474976710656) :
    Calls Try.prog 85 #[.pointer (some ⟨r, 0, none⟩)] w fun en w' => RowP r s p e w en w' := by
  by_cases he : e = 0
  · subst he
    refine (call_lf r s p w h hp hs).mono ?_
    cases hR : row (s.data.toList.drop p) with
    | ok at' =>
      obtain ⟨a, t⟩ := at'
      rintro en w' ⟨v, rfl, hv, hr, hb⟩
      have hk := row_ok hR
      have hc := RowC.of_owns hv
      obtain ⟨ao, cap, rfl, _, _, _⟩ := hc.2
      refine ⟨a, ao, cap, s.size - t.length, 0, rfl, hc, fresh_owns hv, hr, hb, Nat.sub_le _ _, hk.2.1, hk.2.2, fun us X _ hd hn hu => ?_⟩
      rw [hd, row_back us hu hn X] at hR
      simp only [Except.ok.injEq, Prod.mk.injEq] at hR
      obtain ⟨rfl, rfl⟩ := hR
      exact ⟨rfl, rfl, drop_end hd⟩
    | error x =>
      rintro en w' ⟨rfl, hr, hb⟩
      refine ⟨[], none, 0, p, x, rfl, RowC.nil _, Fresh.nil _ _, hr, hb, hp, by simp, by simp, fun us X _ hd hn hu => ?_⟩
      rw [hd, row_back us hu hn X] at hR
      cases hR
  · refine (m_l_shut r s p e (by simpa using he) w h).mono ?_
    rintro en w' ⟨rfl, hb⟩
    exact ⟨[], none, 0, p, e, rfl, RowC.nil _, Fresh.nil _ _, h.later hb, .of hb, hp, by simp, by simp, fun _ _ h0 => absurd h0 he⟩
/-- A change that is read. -/
def ChP (r : Nat) (s : ByteArray) (p : Nat) (e : Int) (w : World) (en : Ending) (w' : World) : Prop := ∃ (x : M) (p' : Nat) (e' : Int), en = .returned x.agg ∧ x.In w' ∧ x.From w.heap.size ∧ Small s.size x.c ∧ Rdr r s p' e' w' ∧ But r w w' ∧ p' ≤ s.size ∧
  (∀ c X, e = 0 → s.data.toList.drop p = chBy c ++ X → chB c = true → c.wf → x.c = c ∧ e' = 0 ∧ s.data.toList.drop p' = X)
end Frm
end Go.Proofs.Ytopmbhpjdmcabaa
