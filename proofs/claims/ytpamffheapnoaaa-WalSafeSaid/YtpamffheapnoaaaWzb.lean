/- A log beneath any fuse, and a row of texts beside it. No condition. -/
import Derived.Test.YtpamffheapnoaaaWza
namespace Go.Proofs.Ytpamffheapnoaaa
open Go.RowKit
namespace Wal
open Dsk (PD Mine KeepQ DiskIs Only Grow upd pad BoolsAt IntsAt dirty_len undoW)
open Crc (S S_of S_size S_append S_add hidm)
/-- The log lives beneath any fuse; h: it is halted. -/
structure Lf (W : World) (Q : Nat → Prop) (L D k : Nat) (A B : List R) (h : Bool) (w : World) : Prop where
  ex : ∃ d, Pair W Q L D ⟨3, 28, 1, (A ++ B).map Prod.snd, tot (A ++ B), h⟩ d w ∧ Life 3 28 1 0 d A B ∧ Few k 40 d
  few : k ≤ 800000
/-- What is known of its disk behind an Append that failed. -/
structure Lb (W : World) (Q : Nat → Prop) (L D k : Nat) (A B : List R) (w : World) : Prop where
  ex : ∃ g d, Pair W Q L D g d w ∧ Bd 3 28 1 0 d A B ∧ Few k 40 d
  few : k ≤ 800000
/-- A row of texts of the law's own. -/
structure Rw (W : World) (Q : Nat → Prop) (v : Value) (xs : List (List UInt8)) (w : World) : Prop where
  own : w.ownsRow 0 9 1 v xs.length (strs xs)
  rO : ∀ g, v.ownBlock = some g → Q g
  low : ∀ g, Q g → W.heap.size ≤ g
  big : W.heap.size ≤ w.heap.size
section
variable {W : World} {Q : Nat → Prop} {L D k : Nat} {A B : List R} {h : Bool} {w w' : World} {v : Value} {xs : List (List UInt8)}
theorem Lf.lb (s : Lf W Q L D k A B h w) : Lb W Q L D k A B w := by
  obtain ⟨d, hp, hl, hw⟩ := s.ex
  exact ⟨⟨_, d, hp, hl.bd, hw⟩, s.few⟩
theorem Lf.more (s : Lf W Q L D k A B h w) {k' : Nat} (hk : k ≤ k') (hk' : k' ≤ 800000) : Lf W Q L D k' A B h w := by
  obtain ⟨d, hp, hl, hw⟩ := s.ex
  exact ⟨⟨d, hp, hl, hw.more hk⟩, hk'⟩
theorem Lb.more (s : Lb W Q L D k A B w) {k' : Nat} (hk : k ≤ k') (hk' : k' ≤ 800000) : Lb W Q L D k' A B w := by
  obtain ⟨g, d, hp, hl, hw⟩ := s.ex
  exact ⟨⟨g, d, hp, hl, hw.more hk⟩, hk'⟩
theorem Lf.guardO {T : Nat → Prop} (s : Lf W Q L D k A B h w) (ho : Only T w w') (hT : ∀ j, T j → Q j ∧ W.heap.size ≤ j) : Lf W (fun j => Q j ∨ (w.heap.size ≤ j ∧ j < w'.heap.size)) L D k A B h w' := by
  obtain ⟨d, hp, h2⟩ := s.ex
  exact ⟨⟨d, hp.guardO ho hT, h2⟩, s.few⟩
theorem Lb.guardO {T : Nat → Prop} (s : Lb W Q L D k A B w) (ho : Only T w w') (hT : ∀ j, T j → Q j ∧ W.heap.size ≤ j) : Lb W (fun j => Q j ∨ (w.heap.size ≤ j ∧ j < w'.heap.size)) L D k A B w' := by
  obtain ⟨g, d, hp, h2⟩ := s.ex
  exact ⟨⟨g, d, hp.guardO ho hT, h2⟩, s.few⟩
theorem Lf.guard (s : Lf W Q L D k A B h w) (hb : Below w.heap.size w w') : Lf W (fun j => Q j ∨ (w.heap.size ≤ j ∧ j < w'.heap.size)) L D k A B h w' := s.guardO (T := fun _ => False) (.of hb) (fun _ e => e.elim)
theorem Lb.guard (s : Lb W Q L D k A B w) (hb : Below w.heap.size w w') : Lb W (fun j => Q j ∨ (w.heap.size ≤ j ∧ j < w'.heap.size)) L D k A B w' := s.guardO (T := fun _ => False) (.of hb) (fun _ e => e.elim)
theorem Lf.bel (s : Lf W Q L D k A B h w) : Below W.heap.size W w := by
  obtain ⟨d, hp, h2⟩ := s.ex
  exact hp.bel
theorem Lb.bel (s : Lb W Q L D k A B w) : Below W.heap.size W w := by
  obtain ⟨g, d, hp, h2⟩ := s.ex
  exact hp.bel
theorem Lf.room (s : Lf W Q L D k A B h w) : (A ++ B).length ≤ 28 := by
  obtain ⟨d, _, hl, _⟩ := s.ex
  have h1 := hl.bd.room
  have h2 := len_tot (A ++ B)
  have h3 := tot_app A B
  omega
theorem Rw.later (s : Rw W Q v xs w) (hb : Below w.heap.size w w') : Rw W (fun j => Q j ∨ (w.heap.size ≤ j ∧ j < w'.heap.size)) v xs w' := by
  refine ⟨Dsk.owns_later s.own hb, fun g hg => .inl (s.rO g hg), fun g hg => ?_, Nat.le_trans s.big hb.size⟩
  have h1 := s.big
  rcases hg with hg | hg
  · exact s.low g hg
  · omega
theorem Rw.call (s : Rw W Q v xs w) (hk : KeepQ Q w w') (hs : W.heap.size ≤ w'.heap.size) : Rw W Q v xs w' := ⟨Dsk.ownsRow_of s.own (fun g hg => hk g (s.rO g hg)), s.rO, s.low, hs⟩
/-- One text more: the row, and what has changed. -/
theorem Rw.push {s : List UInt8} {g cap : Nat} (r : Rw W Q v xs w) (hown : w'.ownsRow 0 9 1 (.slice (some ⟨g, 0, none⟩) (xs.length + 1) cap) (xs.length + 1) (strs xs ++ [.string (S s)])) (hgrow : w.grownBy w' v.ownBlock) (hat : v.ownBlock = some g ∨ g = w.heap.size) (hlt : g < w'.heap.size) :
    Rw W (fun j => Q j ∨ (w.heap.size ≤ j ∧ j < w'.heap.size)) (.slice (some ⟨g, 0, none⟩) (xs.length + 1) cap) (xs ++ [s]) w' ∧ Only (fun j => v.ownBlock = some j) w w' ∧ ∀ j, v.ownBlock = some j → Q j ∧ W.heap.size ≤ j := by
  have ho : Only (fun j => v.ownBlock = some j) w w' := (Only.refl _ w).grown hgrow (fun j hj => .inl hj)
  have hb := r.big
  refine ⟨⟨?_, fun j hj => ?_, fun j hj => ?_, Nat.le_trans r.big ho.size⟩, ho, fun j hj => ⟨r.rO j hj, r.low j (r.rO j hj)⟩⟩
  · rw [strs_snoc, List.length_append]; exact hown
  · have hj : some g = some j := hj
    rw [← Option.some.inj hj]
    rcases hat with e | e
    · exact .inl (r.rO g e)
    · exact .inr ⟨by omega, hlt⟩
  · rcases hj with hj | hj
    · exact r.low j hj
    · omega
/-- What is kept beside it. -/
theorem Rw.kept (r : Rw W Q v xs w) (hgrow : w.grownBy w' v.ownBlock) {P : Nat} {cs : Array Value} {ty : TypeId} {fr : Nat × Nat} (hP : w.heap[P]? = some (.cells cs ty fr)) (hty : ty ≠ 9) : w'.heap[P]? = some (.cells cs ty fr) := by
  rw [hgrow.block P (lt_of_block hP) (fun e => ?_)]
  · exact hP
  · rcases r.own.2 with ⟨h2, _⟩ | ⟨b', c, cur, hv, hg, hh, rest⟩
    · rw [h2] at e; cases e
    · rw [hv] at e
      have hbj : P = b' := by simpa [Value.ownBlock] using e
      rw [← hbj, hP] at hh
      simp only [Option.some.injEq, Obj.cells.injEq] at hh
      exact hty hh.2.1
theorem Lf.append (s : Lf W Q L D k A B false w) (x : ByteArray) (hf : np x.data.toList ≤ 28 - tot (A ++ B)) (hk : k + 1000 ≤ 800000) :
    Calls Try.prog 17 #[.pointer (some ⟨L, 0, none⟩), .string x] w fun e w' => ((e = .returned (.int .i64 0) ∧ Lf W Q L D (k + 1000) A (B ++ [(1, x.data.toList)]) false w') ∨ (e = .returned (.int .i64 6) ∧ Lb W Q L D (k + 1000) A (B ++ [(1, x.data.toList)]) w')) ∧ KeepQ Q w w' := by
  obtain ⟨d, hp, hl, hw⟩ := s.ex
  have hT : tot (A ++ B) = tot A + tot B := tot_app A B
  have hroom := hl.bd.room
  have hfew := s.few
  have hcs := hw.cs
  have hwr := hw.wr
  have hfl := hw.fl
  have hN := hw.n
  have hb := hl.bd.record x.data.toList (by omega)
  have hall := wrs_bd hb (by omega) (hl.start _) (by omega) (by omega)
  have hfw : ∀ j, j ≤ np x.data.toList → Few (k + 1000) 40 (wrs d 3 1 (tot (A ++ B)) x.data.toList j) := fun j hj => by
    obtain ⟨g1, g2, g3, g4, g5⟩ := wrs_is d 3 1 (tot (A ++ B)) x.data.toList j
    exact ⟨g1.trans hN, by omega, by omega, by omega⟩
  have hc := append_any x hp rfl hf (by show ((A ++ B).map Prod.snd).length ≤ tot (A ++ B); rw [List.length_map]; exact len_tot _) (by show 3 + 2 + 28 ≤ d.n; omega) (by omega) (by omega)
  refine hc.mono fun e w' h1 => ?_
  obtain ⟨h1, hkq⟩ := h1
  refine ⟨?_, hkq⟩
  rcases h1 with ⟨he, hp', _⟩ | ⟨j, hj, he, hp', _⟩
  · left
    refine ⟨he, ⟨⟨wrs d 3 1 (tot (A ++ B)) x.data.toList (np x.data.toList), ?_, ?_, hfw _ (Nat.le_refl _)⟩, hk⟩⟩
    · have e1 : (A ++ (B ++ [(1, x.data.toList)])).map Prod.snd = (A ++ B).map Prod.snd ++ [x.data.toList] := by rw [← List.append_assoc, List.map_append]; rfl
      have e2 : tot (A ++ (B ++ [(1, x.data.toList)])) = tot (A ++ B) + np x.data.toList := by rw [← List.append_assoc, tot_app]; rfl
      rw [e1, e2]
      exact hp'
    · rw [hT]
      obtain ⟨g1, g2⟩ := hall (np x.data.toList) (Nat.le_refl _)
      exact ⟨g1, fun i hi => g2 i (by rw [tot_app] at hi; exact hi)⟩
  · right
    refine ⟨he, ⟨⟨_, wrs d 3 1 (tot (A ++ B)) x.data.toList j, hp', ?_, hfw _ (by omega)⟩, hk⟩⟩
    rw [hT]
    exact (hall j (by omega)).1
theorem Lf.full (s : Lf W Q L D k A B false w) (x : ByteArray) (hs : x.size ≤ 1099511627776) (hf : ¬ np x.data.toList ≤ 28 - tot (A ++ B)) : Calls Try.prog 17 #[.pointer (some ⟨L, 0, none⟩), .string x] w fun e w' => e = .returned (.int .i64 3) ∧ Below w.heap.size w w' := by
  obtain ⟨d, hp, hl, hw⟩ := s.ex
  exact append_full x hs hp rfl hf
theorem Lf.shut (s : Lf W Q L D k A B true w) (x : ByteArray) : Calls Try.prog 17 #[.pointer (some ⟨L, 0, none⟩), .string x] w fun e w' => e = .returned (.int .i64 6) ∧ w = w' := by
  obtain ⟨d, hp, hl, hw⟩ := s.ex
  exact append_shut x hp rfl
theorem Lf.commit (s : Lf W Q L D k A B h w) (hk : k + 1 ≤ 800000) : Calls Try.prog 18 #[.pointer (some ⟨L, 0, none⟩)] w fun e w' => ((e = .returned (.int .i64 0) ∧ Lf W Q L D (k + 1) (A ++ B) [] false w') ∨ (e = .returned (.int .i64 6) ∧ Lf W Q L D (k + 1) A B true w')) ∧ KeepQ Q w w' := by
  obtain ⟨d, hp, hl, hw⟩ := s.ex
  have hfl := hw.fl
  cases h with
  | true =>
    refine (commit_shut hp rfl).mono fun e w' h1 => ?_
    obtain ⟨he, rfl⟩ := h1
    exact ⟨.inr ⟨he, ⟨⟨d, hp, hl, hw.more (by omega)⟩, hk⟩⟩, KeepQ.refl _ _⟩
  | false =>
    cases hbu : d.burnt with
    | true =>
      refine (commit_off hp rfl hbu).mono fun e w' h1 => ?_
      obtain ⟨he, hp', hkq⟩ := h1
      exact ⟨.inr ⟨he, ⟨⟨d, hp', hl, hw.more (by omega)⟩, hk⟩⟩, hkq⟩
    | false =>
      refine (commit_on hp rfl hbu (by have := s.few; omega)).mono fun e w' h1 => ?_
      obtain ⟨he, hp', hkq⟩ := h1
      exact ⟨.inl ⟨he, ⟨⟨d.flush.burn, by rw [List.append_nil]; exact hp', hl.flush rfl rfl, ⟨hw.n, Nat.zero_le _, Nat.le_succ_of_le hw.wr, Nat.succ_le_succ hw.fl⟩⟩, hk⟩⟩, hkq⟩
theorem Lg.lf (s : Lg W Q L D 3 28 40 k 1 0 A B w) (f : Int) (hf : f ≤ 9223372036854775807) : Calls Try.prog 16 #[.pointer (some ⟨D, 0, none⟩), .int .i64 f] w fun e w' => e = .returned (.tuple #[]) ∧ Lf W Q L D k A B false w' ∧ KeepQ Q w w' := by
  obtain ⟨d, hp, hl, hw, _⟩ := s.ex
  refine (hp.fuse f hf).mono fun e w1 h1 => ?_
  obtain ⟨he, hp1, hk1⟩ := h1
  exact ⟨he, ⟨⟨PD.fused d f, hp1, ⟨⟨hl.bd.one, hl.bd.slots, hl.bd.a1, hl.bd.cs, hl.bd.old, hl.bd.stop, hl.bd.mono, hl.bd.all, hl.bd.room⟩, hl.cur⟩, ⟨hw.n, hw.cs, hw.wr, hw.fl⟩⟩, s.few⟩, hk1⟩
/-- A crash. -/
theorem Lb.crash (s : Lb W Q L D k A B w) : ∃ nd : Nat, nd ≤ 1000000 ∧ (Calls Try.prog 20 #[.pointer (some ⟨D, 0, none⟩)] w fun e w' => ∃ vo vc, e = .returned (.slice vo nd vc) ∧ Below w.heap.size w w') ∧
    ∀ w1, Below w.heap.size w w1 → ∀ (ks : List Bool) (so : Option Addr) (sc : Nat), ks.length ≤ nd → BoolsAt ks so sc w1 → (ks ≠ [] → ∀ p, so = some p → p.block < W.heap.size) →
      Calls Try.prog 19 #[.pointer (some ⟨D, 0, none⟩), .slice so ks.length sc] w1 fun e w' => e = .returned (.int .i64 0) ∧ (∃ m, m ≤ B.length ∧ Rest W Q D 3 28 40 k 1 0 (A ++ B.take m) w') ∧ KeepQ Q w1 w' := by
  obtain ⟨g, d, hp, hl, hw⟩ := s.ex
  obtain ⟨h1, h2⟩ := hp.crash
  refine ⟨d.cs.length, by have h3 := hw.cs; have h4 := s.few; omega, h1, fun w1 hb ks so sc hk hbs hso => ?_⟩
  refine (h2 w1 hb ks so sc hk hbs hso).mono fun e w' h5 => ?_
  obtain ⟨he, hm', hkq⟩ := h5
  obtain ⟨m, hmB, hcn⟩ := hl.crash ks
  exact ⟨he, ⟨m, hmB, d.crash ks, hm', hcn, ⟨hw.n, Nat.zero_le _, hw.wr, hw.fl⟩, rfl, rfl⟩, hkq⟩
end
end Wal
end Go.Proofs.Ytpamffheapnoaaa
