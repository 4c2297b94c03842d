/- A row of truths of a law's own, that is appended to, beside a pager. Conditions: as each says. -/
import Derived.Test.YtkgbemkcnahkoaaGreatDoorZPxto
import Derived.Maps.AppendAt
import Derived.Laws.OwnMore
namespace Go.Proofs.YtkgbemkcnahkoaaGreatDoor
open Go.RowKit
namespace Pgr
open Wal (Pair PL R np strs)
open Dsk (PD Mine KeepQ Only below_keeps cell_later sec vals pad zeros upd IntsAt ints BoolsAt Opv)
open Crc (S S_of S_size)
def bls (ks : List Bool) : List Value := ks.map Value.bool
theorem bls_app (a b : List Bool) : bls (a ++ b) = bls a ++ bls b := by simp [bls]
theorem bls_len (a : List Bool) : (bls a).length = a.length := by simp [bls]
/-- The row v holds ks, in a block of Q that has come since base. -/
structure BoolsQ (base : Nat) (Q : Nat → Prop) (ks : List Bool) (v : Value) (w : World) : Prop where
  own : w.ownsRow 0 4 1 v ks.length (bls ks)
  inq : ∀ g, v.ownBlock = some g → Q g ∧ base ≤ g
section
variable {base : Nat} {Q Q' : Nat → Prop} {ks : List Bool} {v : Value} {w w' : World}
theorem BoolsQ.keep (h : BoolsQ base Q ks v w) (hk : KeepQ Q w w') : BoolsQ base Q ks v w' := ⟨Dsk.ownsRow_of h.own (fun g hg => hk g (h.inq g hg).1), h.inq⟩
theorem BoolsQ.mono (h : BoolsQ base Q ks v w) (hQ : ∀ k, Q k → Q' k) : BoolsQ base Q' ks v w := ⟨h.own, fun g hg => ⟨hQ g (h.inq g hg).1, (h.inq g hg).2⟩⟩
theorem BoolsQ.nil (base : Nat) (Q : Nat → Prop) (w : World) : BoolsQ base Q [] (.slice none 0 0) w := ⟨World.ownsRow_nil _ _ _ _, fun g hg => by cases hg⟩
theorem BoolsQ.form (h : BoolsQ base Q ks v w) : ∃ ao cap, v = .slice ao ks.length cap ∧ ks.length ≤ cap ∧ cap ≤ 9223372036854775807 := by
  rcases h.own.2 with ⟨h2, h0⟩ | ⟨g, cap, cur, hv, _, _, hc, hm, _⟩
  · exact ⟨none, 0, by rw [h2, h0], by omega, by omega⟩
  · exact ⟨_, cap, hv, hc, by unfold maxLen at hm; omega⟩
theorem BoolsQ.at {ao : Option Addr} {cap : Nat} (h : BoolsQ base Q ks (.slice ao ks.length cap) w) : BoolsAt ks ao cap w ∧ (ks ≠ [] → ∀ p, ao = some p → Q p.block) := by
  obtain ⟨ao', cap', he, h1, h2⟩ := h.form
  simp only [Value.slice.injEq, true_and] at he
  obtain ⟨rfl, rfl⟩ := he
  refine ⟨⟨h1, h2, fun hne => ?_⟩, fun _ p hp => (h.inq p.block (by rw [hp]; rfl)).1⟩
  rcases h.own.2 with ⟨h3, h0⟩ | ⟨g, c, cur, hv, _⟩
  · exact absurd (List.eq_nil_of_length_eq_zero h0) hne
  · simp only [Value.slice.injEq] at hv
    obtain ⟨rfl, -, rfl⟩ := hv
    refine ⟨g, 0, rfl, (h.own.lt g rfl).2, fun j hj => ?_⟩
    rw [Nat.zero_add, h.own.cellAt j (by omega)]
    unfold bls; simp [hj]
theorem infoB : (Tryz.prog.info? 4).map (fun i => (i.zero, i.size, i.bytes)) = some (some (.bool false), 1, 1) := by kernel_rfl
theorem run_append_none (base : Nat) (ty : TypeId) (i : TypeInfo) (hi : Tryz.prog.info? 4 = some i) (v : Value) (n c : Nat) (xs : List Value) (hown : w.ownsRow base 4 1 v n xs) :
    (Builtin.append_ #[37, 37] ty #[v, .slice none 0 c]).run Tryz.prog w = .ok v w := by
  rcases hown.2 with ⟨rfl, rfl⟩ | ⟨g, cap, cur, rfl, _, _, hnc, _⟩
  · simp [Builtin.append_, run_underlying Tryz.underlying37, sizeOf, typeInfo, hi, Builtin.lenOf, Builtin.firstCells]
  · simp [Builtin.append_, run_underlying Tryz.underlying37, sizeOf, typeInfo, hi, Builtin.lenOf, Builtin.firstCells, hnc, storeCells]
/-- append(v, ks2...) -/
theorem bools_append (h : BoolsQ base Q ks v w) (ks2 : List Bool) (ao : Option Addr) (c : Nat) (h2 : BoolsAt ks2 ao c w) (hn : ks.length + ks2.length ≤ 1000000) (hb : base ≤ w.heap.size) (ty : TypeId) :
    ∃ v' w', (Builtin.append_ #[37, 37] ty #[v, .slice ao ks2.length c]).run Tryz.prog w = .ok v' w' ∧ BoolsQ base (fun k => Q k ∨ (w.heap.size ≤ k ∧ k < w'.heap.size)) (ks ++ ks2) v' w' ∧ w.grownBy w' v.ownBlock := by
  obtain ⟨i0, hi0, hz0, hz1, hz2⟩ := info_parts infoB
  cases ao with
  | none =>
    have h0 : ks2 = [] := by
      rcases Classical.em (ks2 = []) with e | e
      · exact e
      · obtain ⟨b, o, e2, _⟩ := h2.2.2 e; cases e2
    subst h0
    rw [List.append_nil]
    exact ⟨v, w, run_append_none 0 ty i0 hi0 v _ c _ h.own, h.mono (fun k hk => .inl hk), World.grownBy.refl w _⟩
  | some a =>
    have hnews : ∀ j u, (bls ks2)[j]? = some u → w.cell? (a.add j) = some u := by
      intro j u hu
      have hj : j < ks2.length := by
        have := (List.getElem?_eq_some_iff.1 hu).1
        rw [bls_len] at this; exact this
      obtain ⟨b, o, e2, _, hc⟩ := h2.2.2 (fun e => by rw [e] at hj; cases hj)
      cases e2
      have hadd : (⟨b, o, none⟩ : Addr).add j = ⟨b, o + j, none⟩ := by unfold Addr.add; split <;> simp_all
      rw [hadd, hc j hj, ← hu]
      unfold bls; simp [hj]
    obtain ⟨v', w', hr, hown, hgr, _, hob⟩ := run_append_own_at (P := Tryz.prog) (w := w) 0 37 ty 4 i0 (.bool false) 1 1 Tryz.underlying37 hi0 hz0 hz1 hz2 rfl (by decide) v ks.length (bls ks) h.own a ks2.length c (bls ks2) (by rw [bls_len, Nat.mul_one]) hnews (by
      intro u hu
      unfold bls at hu
      rw [List.mem_map] at hu
      obtain ⟨x, _, rfl⟩ := hu
      rfl) (by unfold maxLen; omega) (by omega) (Nat.zero_le _)
    rw [← bls_app, ← List.length_append] at hown
    refine ⟨v', w', hr, ⟨hown, fun g hg => ?_⟩, hgr⟩
    have hlt := (hown.lt g hg).2
    rcases hob with e | e
    · rw [e] at hg
      exact ⟨.inl (h.inq g hg).1, (h.inq g hg).2⟩
    · rw [e] at hg
      cases hg
      exact ⟨.inr ⟨Nat.le_refl _, hlt⟩, hb⟩
theorem TextsQ.grown {l : List (List UInt8)} {vt : Value} (h : TextsQ Q l vt w) (hb : BoolsQ base Q ks v w) (hg : w.grownBy w' v.ownBlock) : TextsQ Q l vt w' := by
  refine ⟨Dsk.ownsRow_of h.1 (fun g hgb => hg.block g (h.1.lt g hgb).2 (fun e => ?_)), h.2⟩
  rcases h.1.2 with ⟨h2, _⟩ | ⟨g1, c1, cur1, hv1, _, hh1, _⟩
  · rw [h2] at hgb; cases hgb
  · rcases hb.own.2 with ⟨h3, _⟩ | ⟨g2, c2, cur2, hv2, _, hh2, _⟩
    · rw [h3] at e; cases e
    · rw [hv1] at hgb
      rw [hv2] at e
      have e1 : g1 = g := by simpa [Value.ownBlock] using hgb
      have e2 : g = g2 := by simpa [Value.ownBlock] using e
      subst e1
      subst e2
      rw [hh1] at hh2
      simp only [Option.some.injEq, Obj.cells.injEq] at hh2
      exact absurd hh2.2.1 (by decide)
theorem Lv.grown {W : World} {P L D n N K : Nat} {u : Bool} {ch : Ch} {V : Nat → List UInt8} (h : Lv W Q P L D n N K u ch V w) (hb : BoolsQ W.heap.size Q ks v w) (hg : w.grownBy w' v.ownBlock) : Lv W (fun k => Q k ∨ (w.heap.size ≤ k ∧ k < w'.heap.size)) P L D n N K u ch V w' :=
  h.guardO (T := fun k => v.ownBlock = some k) ((Only.refl _ w).grown hg (fun _ hj => .inl hj)) (fun k hk => hb.inq k hk)
end
/-- A commit beneath a fuse, as St has it. -/
theorem CommitL.st {W : World} {Q : Nat → Prop} {P L D K : Nat} {u : Bool} {ch : Ch} {V : Nat → List UInt8} {w : World} {e : Ending} {w' : World} (h : CommitL W Q P L D 38 20 K u ch V w e w') :
    (e = .returned (.int .i64 0) ∧ St W Q P L D (K + 3000) (all 20 (over ch V)) (all 20 (over ch V)) w' ∧ KeepQ Q w w') ∨ (e = .returned (.int .i64 6) ∧ St W Q P L D (K + 3000) (all 20 V) (all 20 (over ch V)) w' ∧ KeepQ Q w w') := by
  rcases h with ⟨he, h1, hk⟩ | ⟨_, he, h1, hk⟩
  · exact .inl ⟨he, .inl ⟨_, _, h1.weak, rfl, rfl⟩, hk⟩
  · exact .inr ⟨he, .inr ⟨_, _, _, h1, rfl, .inl rfl⟩, hk⟩
end Pgr
end Go.Proofs.YtkgbemkcnahkoaaGreatDoor
