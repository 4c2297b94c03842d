/- Both disks: the program's and the document's, that stand as plain disks. No condition. -/
import Derived.Test.YtkbadjlehmaneaaRd
namespace Go.Proofs.Ytkbadjlehmaneaa
open Go.RowKit
namespace Dsk
/-- The document's Write, where it writes. -/
def WriteOn : Prop := ∀ {R : Nat} {d : PD} {T : Nat → Prop} (k : Nat) (s : ByteArray) (_ : s.size ≤ 128) (w : World) (_ : RefIs R d T w) (_ : k < d.n) (_ : d.burnt = false) (_ : d.cs.length < 1000000) (_ : d.wr < 1000000) (_ : (d.f k).length = 128),
    Calls Try.prog 12 #[.pointer (some ⟨R, 0, none⟩), .int .i64 (k : Int), .string s] w fun e w' => e = .returned (.int .i64 0) ∧ RefIs R (d.write k s.data.toList).burn (Grow T w w') w' ∧ Only T w w'
theorem RefIs.keepQ {R : Nat} {d : PD} {Q : Nat → Prop} {w w' : World} (h : RefIs R d Q w) (hk : KeepQ Q w w') (hl : ∀ k, Q k → k < w'.heap.size) : RefIs R d Q w' := by
  obtain ⟨lf, g, lc, wo, wc, h, r⟩ := h
  exact ⟨lf, g, lc, wo, wc, ⟨(hk _ h.tR).trans h.row, h.part.keep (hk _ h.tG), ownsRow_of h.own (fun b hb => hk b (by
    cases hwo : wo with
    | none => rw [hwo] at hb; cases hb
    | some p => rw [hwo] at hb; cases hb; exact h.tW p hwo)), h.ln, h.lm, h.tR, h.tG, h.tW, hl⟩, r⟩
theorem RefIs.grown {R : Nat} {d : PD} {T : Nat → Prop} {w w' : World} (h : RefIs R d T w') : RefIs R d (Grow T w w') w' := by
  obtain ⟨lf, g, lc, wo, wc, h, r⟩ := h
  exact ⟨lf, g, lc, wo, wc, ⟨h.row, h.part, h.own, h.ln, h.lm, .inl h.tR, .inl h.tG, fun p hp => .inl (h.tW p hp), fun k hk => hk.elim (fun h2 => h.lt k h2) (fun h2 => h2.2)⟩, r⟩
theorem DiskIs.keepQ {D : Nat} {d : PD} {T : Nat → Prop} {w w' : World} (h : DiskIs D d T w) (hk : KeepQ T w w') (hl : ∀ k, T k → k < w'.heap.size) : DiskIs D d T w' := by
  obtain ⟨M, ao, cap, h⟩ := h
  exact ⟨M, ao, cap, (hk _ h.tD).trans h.row, h.map.keep (hk _ h.tM), ownsRow_of h.own (fun b hb => hk b (by
    cases hao : ao with
    | none => rw [hao] at hb; cases hb
    | some p => rw [hao] at hb; cases hb; exact h.tC p hao)), h.tD, h.tM, h.tC, hl, h.ok⟩
/-- Disk D stands as d, the document's disk R as dr, in blocks that have come since W, apart, and none of P. -/
def Both (W : World) (P : Nat → Prop) (D R : Nat) (d dr : PD) (w : World) : Prop := ∃ Q, Mine W (fun k => Q k ∨ P k) D d w ∧ RefIs R dr Q w ∧ ∀ k, Q k → W.heap.size ≤ k ∧ ¬ P k
def PD.ccode (d : PD) (ks : List Bool) : Int := if d.cs.length < ks.length then 1 else 0
def PD.cstep (d : PD) (ks : List Bool) : PD := if d.cs.length < ks.length then d else d.crash ks
section
variable {W : World} {P : Nat → Prop} {D R : Nat} {d dr : PD} {w w' : World}
theorem Both.later (h : Both W P D R d dr w) (hb : Below w.heap.size w w') : Both W P D R d dr w' := by
  obtain ⟨Q, h1, h2, h3⟩ := h
  exact ⟨Q, h1.later hb, h2.later hb, h3⟩
theorem Both.plt (h : Both W P D R d dr w) : ∀ k, P k → k < w.heap.size := by
  obtain ⟨Q, h1, h2, h3⟩ := h
  exact fun k hk => h1.qlt k (.inr hk)
theorem Both.kept (h : Both W P D R d dr w) (hb : Below w.heap.size w w') : KeepQ P w w' := fun k hk => hb.block k (h.plt k hk)
theorem Both.bel (h : Both W P D R d dr w) : Below W.heap.size W w := by
  obtain ⟨Q, h1, h2, h3⟩ := h
  exact h1.bel
theorem Both.flen (h : Both W P D R d dr w) (j : Int) : (d.f j).length = 128 := by
  obtain ⟨Q, h1, h2, h3⟩ := h
  exact h1.flen j
theorem Both.ref (h : Both W P D R d dr w) : ∃ Q, RefIs R dr Q w := by
  obtain ⟨Q, h1, h2, h3⟩ := h
  exact ⟨Q, h2⟩
/-- Only d's disk, or what is none of both's, was written. -/
theorem Both.ofD {d' : PD} {Q : Nat → Prop} (hm : Mine W (fun k => Q k ∨ P k) D d' w') (hk : KeepQ (fun k => Q k ∨ P k) w w') (hr : RefIs R dr Q w) (h3 : ∀ k, Q k → W.heap.size ≤ k ∧ ¬ P k) : Both W P D R d' dr w' ∧ KeepQ P w w' :=
  ⟨⟨Q, hm, hr.keepQ (fun k h => hk k (.inl h)) (fun k h => hm.qlt k (.inl h)), h3⟩, fun k h => hk k (.inr h)⟩
/-- Only the document's disk was written. -/
theorem Both.ofR {dr' : PD} {Q : Nat → Prop} (hm : Mine W (fun k => Q k ∨ P k) D d w) (ho : Only Q w w') (hr : RefIs R dr' (Grow Q w w') w') (h3 : ∀ k, Q k → W.heap.size ≤ k ∧ ¬ P k) : Both W P D R d dr' w' ∧ KeepQ P w w' := by
  obtain ⟨⟨T, hT, hq⟩, hB, hl⟩ := hm
  refine ⟨⟨Grow Q w w', ⟨⟨T, hT.keep ho (fun k hk e => (hq k hk).2 (.inl e)), fun k hk => ⟨(hq k hk).1, fun e => ?_⟩⟩, hB.trans (ho.below (fun k hk => (h3 k hk).1) hB.size), fun k hk => ?_⟩, hr, fun k hk => ?_⟩, fun k hk => ho.block k (hl k (.inr hk)) (fun e => (h3 k e).2 hk)⟩
  · rcases e with e | e
    · rcases e with e | e
      · exact (hq k hk).2 (.inl e)
      · have := hT.lt k hk; omega
    · exact (hq k hk).2 (.inr e)
  · rcases hk with hk | hk
    · rcases hk with hk | hk
      · exact Nat.lt_of_lt_of_le (hl k (.inl hk)) ho.size
      · exact hk.2
    · exact Nat.lt_of_lt_of_le (hl k (.inr hk)) ho.size
  · rcases hk with hk | hk
    · exact h3 k hk
    · exact ⟨Nat.le_trans hB.size hk.1, fun e => by have := hl k (.inr e); omega⟩
theorem Both.new (hm : Mine W (fun _ => False) D d w) (hr : RefIs R dr (Come w w') w') (hb : Below w.heap.size w w') : Both W (fun _ => False) D R d dr w' := by
  obtain ⟨⟨T, hT, hq⟩, hB, hl⟩ := hm
  refine ⟨Come w w', ⟨⟨T, hT.later hb, fun k hk => ⟨(hq k hk).1, fun e => ?_⟩⟩, hB.trans (hb.mono hB.size), fun k hk => ?_⟩, hr, fun k hk => ⟨Nat.le_trans hB.size hk.1, fun e => e⟩⟩
  · rcases e with e | e
    · have := hT.lt k hk; have := e.1; omega
    · exact e
  · rcases hk with hk | hk
    · exact hk.2
    · exact hk.elim
/-- A block that has come is kept. -/
theorem Both.guard {X : Nat} (h : Both W (fun _ => False) D R d dr w) (hb : Below w.heap.size w w') (h1 : w.heap.size ≤ X) (h2 : X < w'.heap.size) : Both W (fun k => k = X) D R d dr w' := by
  obtain ⟨Q, ⟨⟨T, hT, hq⟩, hB, hl⟩, hr, h3⟩ := h
  refine ⟨Q, ⟨⟨T, hT.later hb, fun k hk => ⟨(hq k hk).1, fun e => ?_⟩⟩, hB.trans (hb.mono hB.size), fun k hk => ?_⟩, hr.later hb, fun k hk => ⟨(h3 k hk).1, fun e => ?_⟩⟩
  · rcases e with e | e
    · exact (hq k hk).2 (.inl e)
    · have := hT.lt k hk; omega
  · rcases hk with hk | hk
    · exact Nat.lt_of_lt_of_le (hl k (.inl hk)) hb.size
    · omega
  · have := hr.lt k hk; omega
theorem Both.drop (h : Both W P D R d dr w) : Both W (fun _ => False) D R d dr w := by
  obtain ⟨Q, ⟨⟨T, hT, hq⟩, hB, hl⟩, hr, h3⟩ := h
  refine ⟨Q, ⟨⟨T, hT, fun k hk => ⟨(hq k hk).1, fun e => ?_⟩⟩, hB, fun k hk => ?_⟩, hr, fun k hk => ⟨(h3 k hk).1, fun e => e⟩⟩
  · rcases e with e | e
    · exact (hq k hk).2 (.inl e)
    · exact e
  · rcases hk with hk | hk
    · exact hl k (.inl hk)
    · exact hk.elim
/-! ### The program's calls -/
theorem b_write (k : Int) (s : ByteArray) (h : Both W P D R d dr w) (hc : d.cs.length < 1000000) (hw : d.wr < 1000000) :
    Calls Try.prog 11 #[.pointer (some ⟨D, 0, none⟩), .int .i64 k, .string s] w fun e w' => e = .returned (.int .i64 (d.wcode k s)) ∧ Both W P D R (d.wstep k s) dr w' ∧ KeepQ P w w' := by
  obtain ⟨Q, h1, h2, h3⟩ := h
  exact (m_write_any k s h1 hc hw).mono fun _ w' ⟨he, hm, hk⟩ => ⟨he, Both.ofD hm hk h2 h3⟩
theorem b_flush (h : Both W P D R d dr w) (hf : d.fl < 1000000) :
    Calls Try.prog 15 #[.pointer (some ⟨D, 0, none⟩)] w fun e w' => e = .returned (.int .i64 d.fcode) ∧ Both W P D R d.fstep dr w' ∧ KeepQ P w w' := by
  obtain ⟨Q, h1, h2, h3⟩ := h
  exact (m_flush_any h1 hf).mono fun _ w' ⟨he, hm, hk⟩ => ⟨he, Both.ofD hm hk h2 h3⟩
theorem b_read (k : Int) (h : Both W P D R d dr w) :
    Calls Try.prog 13 #[.pointer (some ⟨D, 0, none⟩), .int .i64 k] w fun e w' => e = .returned (.tuple #[.string (d.rtext k), .int .i64 (d.rcode k)]) ∧ Below w.heap.size w w' := by
  obtain ⟨Q, h1, h2, h3⟩ := h
  exact m_read_any k h1
theorem b_crash (ks : List Bool) (so : Option Addr) (kn sc : Nat) (h : Both W P D R d dr w) (hkn : kn = ks.length) (hks : BoolsAt ks so sc w) (hkW : ks ≠ [] → ∀ p, so = some p → p.block < W.heap.size) :
    Calls Try.prog 17 #[.pointer (some ⟨D, 0, none⟩), .slice so kn sc] w fun e w' => e = .returned (.int .i64 (d.ccode ks)) ∧ Both W P D R (d.cstep ks) dr w' ∧ KeepQ P w w' := by
  subst hkn
  by_cases hlt : d.cs.length < ks.length
  · have e1 : d.ccode ks = 1 := by unfold PD.ccode; rw [if_pos hlt]
    have e2 : d.cstep ks = d := by unfold PD.cstep; rw [if_pos hlt]
    rw [e1, e2]
    have hh := h
    obtain ⟨Q, h1, h2, h3⟩ := h
    exact (m_crash_many so ks.length sc h1 hlt).mono fun _ w' ⟨he, hb⟩ => ⟨he, hh.later hb, hh.kept hb⟩
  · have e1 : d.ccode ks = 0 := by unfold PD.ccode; rw [if_neg hlt]
    have e2 : d.cstep ks = d.crash ks := by unfold PD.cstep; rw [if_neg hlt]
    rw [e1, e2]
    obtain ⟨Q, h1, h2, h3⟩ := h
    exact (m_crash ks so sc h1 (by omega) hks (fun hne p hp => .inl (hkW hne p hp))).mono fun _ w' ⟨he, hm, hk⟩ => ⟨he, Both.ofD hm hk h2 h3⟩
theorem b_fuse (k : Int) (hk : k ≤ 9223372036854775807) (h : Both W P D R d dr w) :
    Calls Try.prog 19 #[.pointer (some ⟨D, 0, none⟩), .int .i64 k] w fun e w' => e = .returned (.tuple #[]) ∧ Both W P D R { d with fu := true, lf := k.toNat } dr w' ∧ KeepQ P w w' := by
  obtain ⟨Q, ⟨⟨T, hT, hq⟩, hB, hl⟩, h2, h3⟩ := h
  exact (fuse_any k hk w hT).mono fun _ w' ⟨he, hd, ho⟩ => ⟨he, (fun hm => Both.ofD hm.1 hm.2 h2 h3) (Mine.same hq hB hl hd ho)⟩
theorem b_dirty (h : Both W P D R d dr w) :
    Calls Try.prog 24 #[.pointer (some ⟨D, 0, none⟩)] w fun e w' => ∃ v, e = .returned v ∧ IntsAt w.heap.size d.dirty v w' ∧ Below w.heap.size w w' := by
  obtain ⟨Q, h1, h2, h3⟩ := h
  exact m_dirty h1
theorem b_len (h : Both W P D R d dr w) :
    Calls Try.prog 26 #[.pointer (some ⟨D, 0, none⟩)] w fun e w' => e = .returned (.int .i64 (d.n : Int)) ∧ w = w' := by
  obtain ⟨Q, h1, h2, h3⟩ := h
  exact m_len h1
theorem b_count (h : Both W P D R d dr w) :
    Calls Try.prog 22 #[.pointer (some ⟨D, 0, none⟩)] w fun e w' => e = .returned (.tuple #[.int .i64 (d.wr : Int), .int .i64 (d.fl : Int)]) ∧ Below w.heap.size w w' := by
  obtain ⟨Q, h1, h2, h3⟩ := h
  exact m_count h1
/-! ### The document's calls -/
theorem b_rwrite (RW : WriteOn) (k : Int) (s : ByteArray) (h : Both W P D R d dr w) (hc : dr.cs.length < 1000000) (hw : dr.wr < 1000000) (hfl : ∀ j, (dr.f j).length = 128) :
    Calls Try.prog 12 #[.pointer (some ⟨R, 0, none⟩), .int .i64 k, .string s] w fun e w' => e = .returned (.int .i64 (dr.wcode k s)) ∧ Both W P D R d (dr.wstep k s) w' ∧ KeepQ P w w' := by
  have hh := h
  obtain ⟨Q, h1, h2, h3⟩ := h
  by_cases g1 : k < 0 ∨ (dr.n : Int) ≤ k
  · have hcode : dr.wcode k s = 2 := by unfold PD.wcode; rw [if_pos g1]
    have hst : dr.wstep k s = dr := by unfold PD.wstep; rw [hcode]; rfl
    rw [hcode, hst]
    exact (rwrite_off k s w h2 g1).mono fun _ _ ⟨he, hb⟩ => ⟨he, hh.later hb, hh.kept hb⟩
  · obtain ⟨q, hq⟩ : ∃ q : Nat, k = (q : Int) := ⟨k.toNat, by omega⟩
    subst hq
    have hqn : q < dr.n := by omega
    by_cases g2 : 128 < s.size
    · have hcode : dr.wcode q s = 19 := by unfold PD.wcode; rw [if_neg g1, if_pos g2]
      have hst : dr.wstep q s = dr := by unfold PD.wstep; rw [hcode]; rfl
      rw [hcode, hst]
      exact (rwrite_big q s g2 w h2 hqn).mono fun _ _ ⟨he, hb⟩ => ⟨he, hh.later hb, hh.kept hb⟩
    · rcases hb : dr.burnt with _ | _
      · have hcode : dr.wcode q s = 0 := by unfold PD.wcode; rw [if_neg g1, if_neg g2, hb]; rfl
        have hst : dr.wstep q s = (dr.write q s.data.toList).burn := by unfold PD.wstep; rw [hcode]; simp
        rw [hcode, hst]
        exact (RW q s (by omega) w h2 hqn hb hc hw (hfl q)).mono fun _ _ ⟨he, hr, ho⟩ => ⟨he, Both.ofR h1 ho hr h3⟩
      · have hcode : dr.wcode q s = 6 := by unfold PD.wcode; rw [if_neg g1, if_neg g2, hb]; rfl
        have hst : dr.wstep q s = dr := by unfold PD.wstep; rw [hcode]; rfl
        rw [hcode, hst]
        exact (rwrite_burnt q s (by omega) w h2 hqn hb).mono fun _ _ ⟨he, hb⟩ => ⟨he, hh.later hb, hh.kept hb⟩
theorem b_rflush (h : Both W P D R d dr w) (hg : Good dr) (hf : dr.fl < 1000000) :
    Calls Try.prog 16 #[.pointer (some ⟨R, 0, none⟩)] w fun e w' => e = .returned (.int .i64 dr.fcode) ∧ Both W P D R d dr.fstep w' ∧ KeepQ P w w' := by
  have hh := h
  obtain ⟨Q, h1, h2, h3⟩ := h
  rcases hb : dr.burnt with _ | _
  · have hcode : dr.fcode = 0 := by unfold PD.fcode; rw [hb]; rfl
    have hst : dr.fstep = dr.flush.burn := by unfold PD.fstep; rw [hb]; rfl
    rw [hcode, hst]
    exact (rflush_on w h2 hg hb hf).mono fun _ _ ⟨he, hr, ho⟩ => ⟨he, Both.ofR h1 ho hr.grown h3⟩
  · have hcode : dr.fcode = 6 := by unfold PD.fcode; rw [hb]; rfl
    have hst : dr.fstep = dr := by unfold PD.fstep; rw [hb]; rfl
    rw [hcode, hst]
    exact (rflush_burnt w h2 hb).mono fun _ _ ⟨he, hb⟩ => ⟨he, hh.later hb, hh.kept hb⟩
theorem b_rread (k : Int) (h : Both W P D R d dr w) (hg : Good dr) :
    Calls Try.prog 14 #[.pointer (some ⟨R, 0, none⟩), .int .i64 k] w fun e w' => e = .returned (.tuple #[.string (dr.rtext k), .int .i64 (dr.rcode k)]) ∧ Below w.heap.size w w' := by
  obtain ⟨Q, h1, h2, h3⟩ := h
  unfold PD.rtext PD.rcode
  by_cases g1 : k < 0 ∨ (dr.n : Int) ≤ k
  · rw [if_pos g1, if_pos g1]
    exact rread_off k w h2 g1
  · obtain ⟨q, hq⟩ : ∃ q : Nat, k = (q : Int) := ⟨k.toNat, by omega⟩
    subst hq
    rw [if_neg g1, if_neg g1]
    exact rread_on q w h2 hg (by omega)
theorem b_rcrash (ks : List Bool) (so : Option Addr) (kn sc : Nat) (h : Both W P D R d dr w) (hg : Good dr) (hkn : kn = ks.length) (hks : BoolsAt ks so sc w) (hkW : ks ≠ [] → ∀ p, so = some p → p.block < W.heap.size) :
    Calls Try.prog 18 #[.pointer (some ⟨R, 0, none⟩), .slice so kn sc] w fun e w' => e = .returned (.int .i64 (dr.ccode ks)) ∧ Both W P D R d (dr.cstep ks) w' ∧ KeepQ P w w' := by
  have hh := h
  obtain ⟨Q, h1, h2, h3⟩ := h
  by_cases hlt : dr.cs.length < ks.length
  · have e1 : dr.ccode ks = 1 := by unfold PD.ccode; rw [if_pos hlt]
    have e2 : dr.cstep ks = dr := by unfold PD.cstep; rw [if_pos hlt]
    rw [e1, e2]
    exact (rcrash_many so kn sc w h2 (by omega)).mono fun _ w' ⟨he, hb⟩ => ⟨he, hh.later hb, hh.kept hb⟩
  · have e1 : dr.ccode ks = 0 := by unfold PD.ccode; rw [if_neg hlt]
    have e2 : dr.cstep ks = dr.crash ks := by unfold PD.cstep; rw [if_neg hlt]
    rw [e1, e2]
    exact (rcrash_on ks so kn sc w h2 hg hkn (by omega) hks (fun hne p hp e => by have h4 := (h3 _ e).1; have h5 := hkW hne p hp; omega)).mono fun _ w' ⟨he, hr, ho⟩ => ⟨he, Both.ofR h1 ho hr.grown h3⟩
theorem b_rfuse (k : Int) (hk : k ≤ 9223372036854775807) (h : Both W P D R d dr w) :
    Calls Try.prog 20 #[.pointer (some ⟨R, 0, none⟩), .int .i64 k] w fun e w' => e = .returned (.tuple #[]) ∧ Both W P D R d { dr with fu := true, lf := k.toNat } w' ∧ KeepQ P w w' := by
  obtain ⟨Q, h1, h2, h3⟩ := h
  exact (rfuse_any k hk w h2).mono fun _ w' ⟨he, hr, ho⟩ => ⟨he, Both.ofR h1 ho hr.grown h3⟩
theorem b_rdirty (h : Both W P D R d dr w) :
    Calls Try.prog 25 #[.pointer (some ⟨R, 0, none⟩)] w fun e w' => ∃ v, e = .returned v ∧ IntsAt w.heap.size dr.dirty v w' ∧ Below w.heap.size w w' := by
  obtain ⟨Q, h1, h2, h3⟩ := h
  exact rdirty_any w h2
/-! ### A copy beside both -/
def Two (W : World) (P : Nat → Prop) (D D' R : Nat) (d d' dr : PD) (w : World) : Prop := ∃ Q T, Mine W (fun k => Q k ∨ P k ∨ T k) D d w ∧ DiskIs D' d' T w ∧ RefIs R dr Q w ∧ (∀ k, Q k → W.heap.size ≤ k ∧ ¬ P k) ∧ ∀ k, T k → W.heap.size ≤ k ∧ ¬ (Q k ∨ P k)
theorem two_copy (h : Both W P D R d dr w) :
    Calls Try.prog 21 #[.pointer (some ⟨D, 0, none⟩)] w fun e w' => e = .returned (.pointer (some ⟨w.heap.size, 0, none⟩)) ∧ Two W P D w.heap.size R d d dr w' ∧ KeepQ P w w' := by
  have hh := h
  obtain ⟨Q, ⟨⟨T, hT, hq⟩, hB, hl⟩, hr, h3⟩ := h
  refine (copy_any w hT).mono fun _ w' ⟨he, hd, hb⟩ => ⟨he, ⟨Q, Come w w', ⟨⟨T, hT.later hb, fun k hk => ⟨(hq k hk).1, fun e => ?_⟩⟩, hB.trans (hb.mono hB.size), fun k hk => ?_⟩, hd, hr.later hb, h3, fun k hk => ⟨Nat.le_trans hB.size hk.1, fun e => ?_⟩⟩, hh.kept hb⟩
  · rcases e with e | e | e
    · exact (hq k hk).2 (.inl e)
    · exact (hq k hk).2 (.inr e)
    · have := hT.lt k hk; have := e.1; omega
  · rcases hk with hk | hk | hk
    · exact Nat.lt_of_lt_of_le (hl k (.inl hk)) hb.size
    · exact Nat.lt_of_lt_of_le (hl k (.inr hk)) hb.size
    · exact hk.2
  · have := hl k e; have := hk.1; omega
theorem Two.ofD {D' : Nat} {d1 d' : PD} {Q T : Nat → Prop} (hm : Mine W (fun k => Q k ∨ P k ∨ T k) D d1 w') (hk : KeepQ (fun k => Q k ∨ P k ∨ T k) w w') (hd : DiskIs D' d' T w) (hr : RefIs R dr Q w) (h3 : ∀ k, Q k → W.heap.size ≤ k ∧ ¬ P k) (h4 : ∀ k, T k → W.heap.size ≤ k ∧ ¬ (Q k ∨ P k)) : Two W P D D' R d1 d' dr w' ∧ KeepQ P w w' :=
  ⟨⟨Q, T, hm, hd.keepQ (fun k h => hk k (.inr (.inr h))) (fun k h => hm.qlt k (.inr (.inr h))), hr.keepQ (fun k h => hk k (.inl h)) (fun k h => hm.qlt k (.inl h)), h3, h4⟩, fun k h => hk k (.inr (.inl h))⟩
theorem two_write {D' : Nat} {d' : PD} (k : Int) (s : ByteArray) (h : Two W P D D' R d d' dr w) (hc : d.cs.length < 1000000) (hw : d.wr < 1000000) :
    Calls Try.prog 11 #[.pointer (some ⟨D, 0, none⟩), .int .i64 k, .string s] w fun e w' => e = .returned (.int .i64 (d.wcode k s)) ∧ Two W P D D' R (d.wstep k s) d' dr w' ∧ KeepQ P w w' := by
  obtain ⟨Q, T, h1, h2, h3, h4, h5⟩ := h
  exact (m_write_any k s h1 hc hw).mono fun _ w' ⟨he, hm, hk⟩ => ⟨he, Two.ofD hm hk h2 h3 h4 h5⟩
theorem two_flush {D' : Nat} {d' : PD} (h : Two W P D D' R d d' dr w) (hf : d.fl < 1000000) :
    Calls Try.prog 15 #[.pointer (some ⟨D, 0, none⟩)] w fun e w' => e = .returned (.int .i64 d.fcode) ∧ Two W P D D' R d.fstep d' dr w' ∧ KeepQ P w w' := by
  obtain ⟨Q, T, h1, h2, h3, h4, h5⟩ := h
  exact (m_flush_any h1 hf).mono fun _ w' ⟨he, hm, hk⟩ => ⟨he, Two.ofD hm hk h2 h3 h4 h5⟩
theorem Two.swap {D' : Nat} {d' : PD} (h : Two W P D D' R d d' dr w) : Both W P D' R d' dr w := by
  obtain ⟨Q, T, h1, h2, h3, h4, h5⟩ := h
  refine ⟨Q, ⟨⟨T, h2, h5⟩, h1.bel, fun k hk => ?_⟩, h3, h4⟩
  rcases hk with hk | hk
  · exact h1.qlt k (.inl hk)
  · exact h1.qlt k (.inr (.inl hk))
end
end Dsk
end Go.Proofs.Ytkbadjlehmaneaa
