/- The program's index and the document's, side by side. -/
import Derived.Test.YtapdhelioecneaaU11
namespace Go.Proofs.Ytapdhelioecneaa
open Go.RowKit
namespace Idx
/-- The program's index with items M, the document's with items L, in blocks apart, all behind B. -/
structure Two (PX : Nat → Int → (Nat → Prop) → List It → World → Prop) (R Q : Nat) (m : Int) (B : Nat) (Fx Fr : Nat → Prop) (M L : List It) (w : World) : Prop where
  px : PX R m Fx M w
  rx : RX Q Fr L w
  dis : ∀ k, Fx k → ¬ Fr k
  bx : ∀ k, Fx k → B ≤ k
  br : ∀ k, Fr k → B ≤ k
  hb : B ≤ w.heap.size
variable {PX : Nat → Int → (Nat → Prop) → List It → World → Prop} {R Q b B : Nat} {m c : Int} {Fx Fr : Nat → Prop} {M L M' L' : List It} {w w0 w' : World} {e : Ending}
theorem Two.later (h : Two PX R Q m B Fx Fr M L w) (K : Con PX) (hb : Below b w w') (hn : w.heap.size ≤ b) : Two PX R Q m B Fx Fr M L w' :=
  ⟨K.later h.px hb hn, h.rx.later hb hn, h.dis, h.bx, h.br, Nat.le_trans h.hb hb.size⟩
/-- A block that is neither's is kept. -/
def Else (Fx Fr : Nat → Prop) (k : Nat) (w : World) : Prop := k < w.heap.size ∧ ¬ Fx k ∧ ¬ Fr k
theorem Two.chgX (h : Two PX R Q m B Fx Fr M L w) (hc : ChgX PX R m Fx c M' w e w') : e = .returned (.int .i64 c) ∧ ∃ Fx', Two PX R Q m B Fx' Fr M' L w' ∧ Only (fun k => B ≤ k) w w' ∧ ∀ k, Else Fx Fr k w → Else Fx' Fr k w' ∧ w'.heap[k]? = w.heap[k]? := by
  obtain ⟨h1, Fx', h2, h3⟩ := hc
  refine ⟨h1, Fx', ⟨h2, h.rx.keep h3.size (fun k hk => h3.keeps (h.rx.fl k hk) (fun e => h.dis k e hk)), fun k hk hr => ?_, fun k hk => ?_, h.br, Nat.le_trans h.hb h3.size⟩, h3.1.mono h.bx, fun k hk => ⟨⟨Nat.lt_of_lt_of_le hk.1 h3.size, fun e => ?_, hk.2.2⟩, h3.keeps hk.1 hk.2.1⟩⟩
  · rcases h3.2.2 k hk with e | e
    · exact h.dis k e hr
    · have := h.rx.fl k hr; omega
  · rcases h3.2.2 k hk with e | e
    · exact h.bx k e
    · have := h.hb; omega
  · rcases h3.2.2 k e with e2 | e2
    · exact hk.2.1 e2
    · have := hk.1; omega
theorem Two.chgR (h : Two PX R Q m B Fx Fr M L w) (K : Con PX) (hc : ChgP Q Fr c L' w e w') : e = .returned (.int .i64 c) ∧ ∃ Fr', Two PX R Q m B Fx Fr' M L' w' ∧ Only (fun k => B ≤ k) w w' ∧ ∀ k, Else Fx Fr k w → Else Fx Fr' k w' ∧ w'.heap[k]? = w.heap[k]? := by
  obtain ⟨h1, Fr', h2, h3⟩ := hc
  refine ⟨h1, Fr', ⟨K.keep h.px h3.size (fun k hk => h3.keeps (K.fl h.px k hk) (fun e => h.dis k hk e)), h2, fun k hk hr => ?_, h.bx, fun k hk => ?_, Nat.le_trans h.hb h3.size⟩, h3.1.mono h.br, fun k hk => ⟨⟨Nat.lt_of_lt_of_le hk.1 h3.size, hk.2.1, fun e => ?_⟩, h3.keeps hk.1 hk.2.2⟩⟩
  · rcases h3.2.2 k hr with e | e
    · exact h.dis k hk e
    · have := K.fl h.px k hk; omega
  · rcases h3.2.2 k hk with e | e
    · exact h.br k e
    · have := h.hb; omega
  · rcases h3.2.2 k e with e2 | e2
    · exact hk.2.2 e2
    · have := hk.1; omega
theorem Else.later (h : Else Fx Fr b w) (hs : w.heap.size ≤ w'.heap.size) : Else Fx Fr b w' := ⟨Nat.lt_of_lt_of_le h.1 hs, h.2⟩
/-- The cells of a call in a box. -/
def OB (o : Opv) (b : Nat) (u : World) : Prop := u.cell? ⟨b, 0, none⟩ = some (.int .i64 o.kind) ∧ u.cell? ⟨b, 1, none⟩ = some (.string (S o.i.k)) ∧ u.cell? ⟨b, 2, none⟩ = some (.int .i64 o.i.s) ∧ u.cell? ⟨b, 3, none⟩ = some (.int .i64 o.i.e) ∧ u.cell? ⟨b, 4, none⟩ = some (.int .i64 o.i.id) ∧ u.cell? ⟨b, 5, none⟩ = some (.string (S o.hi)) ∧ u.cell? ⟨b, 6, none⟩ = some (.int .i64 o.t) ∧ u.cell? ⟨b, 7, none⟩ = some (.int .i64 o.u)
theorem OB.new (o : Opv) (w : World) (T : TypeId) : OB o w.heap.size (w.alloc (.cells #[.int .i64 o.kind, .string (S o.i.k), .int .i64 o.i.s, .int .i64 o.i.e, .int .i64 o.i.id, .string (S o.hi), .int .i64 o.t, .int .i64 o.u] T)) := ⟨by go_keep, by go_keep, by go_keep, by go_keep, by go_keep, by go_keep, by go_keep, by go_keep⟩
theorem OB.kept {o : Opv} (h : OB o b w) (e : w'.heap[b]? = w.heap[b]?) : OB o b w' := by
  obtain ⟨h0, h1, h2, h3, h4, h5, h6, h7⟩ := h
  exact ⟨(World.cell?_of_block (a := ⟨b, 0, none⟩) e).trans h0, (World.cell?_of_block (a := ⟨b, 1, none⟩) e).trans h1, (World.cell?_of_block (a := ⟨b, 2, none⟩) e).trans h2, (World.cell?_of_block (a := ⟨b, 3, none⟩) e).trans h3, (World.cell?_of_block (a := ⟨b, 4, none⟩) e).trans h4, (World.cell?_of_block (a := ⟨b, 5, none⟩) e).trans h5, (World.cell?_of_block (a := ⟨b, 6, none⟩) e).trans h6, (World.cell?_of_block (a := ⟨b, 7, none⟩) e).trans h7⟩
/-- The two, and a call in a box of neither's: what holds all along a round. -/
structure Rnd (PX : Nat → Int → (Nat → Prop) → List It → World → Prop) (R Q : Nat) (m : Int) (w0 : World) (M L : List It) (o : Opv) (b : Nat) (w : World) : Prop where
  ex : ∃ Fx Fr, Two PX R Q m w0.heap.size Fx Fr M L w ∧ Else Fx Fr b w
  ob : OB o b w
  hb : Below w0.heap.size w0 w
theorem Rnd.later {o : Opv} (h : Rnd PX R Q m w0 M L o b w) (K : Con PX) (hb : Below w.heap.size w w') : Rnd PX R Q m w0 M L o b w' := by
  obtain ⟨Fx, Fr, h1, h2⟩ := h.ex
  exact ⟨⟨Fx, Fr, h1.later K hb (Nat.le_refl _), h2.later hb.size⟩, h.ob.kept (hb.block b h2.1), h.hb.trans (hb.mono h.hb.size)⟩
theorem Rnd.px {o : Opv} (h : Rnd PX R Q m w0 M L o b w) : ∃ F, PX R m F M w := let ⟨Fx, _, h1, _⟩ := h.ex; ⟨Fx, h1.px⟩
theorem Rnd.rx {o : Opv} (h : Rnd PX R Q m w0 M L o b w) : ∃ F, RX Q F L w := let ⟨_, Fr, h1, _⟩ := h.ex; ⟨Fr, h1.rx⟩
theorem Rnd.callX {o : Opv} (h : Rnd PX R Q m w0 M L o b w) {f : FuncId} {vs : Array Value} (hc : ∀ F, PX R m F M w → Calls Try.prog f vs w fun e w' => ChgX PX R m F c M' w e w') :
    Calls Try.prog f vs w fun e w' => e = .returned (.int .i64 c) ∧ Rnd PX R Q m w0 M' L o b w' := by
  obtain ⟨Fx, Fr, h1, h2⟩ := h.ex
  refine (hc Fx h1.px).mono ?_
  intro e w' h3
  obtain ⟨h4, Fx', h5, h6, h7⟩ := h1.chgX h3
  obtain ⟨h8, h9⟩ := h7 b h2
  exact ⟨h4, ⟨Fx', Fr, h5, h8⟩, h.ob.kept h9, h.hb.trans (h6.below (fun _ h => h) h.hb.size)⟩
theorem Rnd.callR {o : Opv} (h : Rnd PX R Q m w0 M L o b w) (K : Con PX) {f : FuncId} {vs : Array Value} (hc : ∀ F, RX Q F L w → Calls Try.prog f vs w fun e w' => ChgP Q F c L' w e w') :
    Calls Try.prog f vs w fun e w' => e = .returned (.int .i64 c) ∧ Rnd PX R Q m w0 M L' o b w' := by
  obtain ⟨Fx, Fr, h1, h2⟩ := h.ex
  refine (hc Fr h1.rx).mono ?_
  intro e w' h3
  obtain ⟨h4, Fr', h5, h6, h7⟩ := h1.chgR K h3
  obtain ⟨h8, h9⟩ := h7 b h2
  exact ⟨h4, ⟨Fx, Fr', h5, h8⟩, h.ob.kept h9, h.hb.trans (h6.below (fun _ h => h) h.hb.size)⟩
/-- A question to the one, to the other: the world is as it was but for new blocks. -/
theorem Rnd.askX {o : Opv} (h : Rnd PX R Q m w0 M L o b w) (K : Con PX) {P : Ending → World → Prop} {f : FuncId} {vs : Array Value} (hc : ∀ F, PX R m F M w → Calls Try.prog f vs w fun e w' => P e w' ∧ Below w.heap.size w w') :
    Calls Try.prog f vs w fun e w' => P e w' ∧ Rnd PX R Q m w0 M L o b w' ∧ Below w.heap.size w w' := by
  obtain ⟨F, hp⟩ := h.px
  exact (hc F hp).mono (fun e w' h3 => ⟨h3.1, h.later K h3.2, h3.2⟩)
theorem Rnd.askR {o : Opv} (h : Rnd PX R Q m w0 M L o b w) (K : Con PX) {P : Ending → World → Prop} {f : FuncId} {vs : Array Value} (hc : ∀ F, RX Q F L w → Calls Try.prog f vs w fun e w' => P e w' ∧ Below w.heap.size w w') :
    Calls Try.prog f vs w fun e w' => P e w' ∧ Rnd PX R Q m w0 M L o b w' ∧ Below w.heap.size w w' := by
  obtain ⟨F, hp⟩ := h.rx
  exact (hc F hp).mono (fun e w' h3 => ⟨h3.1, h.later K h3.2, h3.2⟩)
end Idx
end Go.Proofs.Ytapdhelioecneaa
