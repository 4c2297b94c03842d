/- A fuse beneath a log; Reset with a fuse; a crash beneath any log. Conditions: as each says. -/
import Derived.Test.YtpamffheapnoaaaWz
namespace Go.Proofs.Ytpamffheapnoaaa
open Go.RowKit
namespace Wal
open Dsk (PD Mine KeepQ DiskIs Only Grow upd pad BoolsAt IntsAt dirty_len undoW)
open Crc (S S_of S_size S_append S_add hidm)
section
variable {W : World} {Q : Nat → Prop} {L D F n N k t b : Nat} {A B : List R} {w w' : World} {d : PD} {g : PL}
def PD.fused (d : PD) (k : Int) : PD := { d with fu := true, lf := k.toNat }
theorem Pair.fuse (h : Pair W Q L D g d w) (k : Int) (hk : k ≤ 9223372036854775807) : Calls Try.prog 16 #[.pointer (some ⟨D, 0, none⟩), .int .i64 k] w fun e w' => e = .returned (.tuple #[]) ∧ Pair W Q L D g (PD.fused d k) w' ∧ KeepQ Q w w' := by
  obtain ⟨U, sl, ⟨⟨T, hT, hq⟩, hB, hql⟩, hlg, hu⟩ := h.ex
  refine (Dsk.fuse_any k hk w hT).mono fun e w' h1 => ?_
  obtain ⟨he, hd, ho⟩ := h1
  obtain ⟨hm, hkq⟩ := Mine.same hq hB hql hd ho
  obtain ⟨hp, hkq2⟩ := Pair.disk hlg hu hm hkq
  exact ⟨he, hp, hkq2⟩
/-- What is not flushed, and a crash, beneath any log. -/
theorem Pair.crash (h : Pair W Q L D g d w) : (Calls Try.prog 20 #[.pointer (some ⟨D, 0, none⟩)] w fun e w' => ∃ vo vc, e = .returned (.slice vo d.cs.length vc) ∧ Below w.heap.size w w') ∧
    ∀ w1, Below w.heap.size w w1 → ∀ (ks : List Bool) (so : Option Addr) (sc : Nat), ks.length ≤ d.cs.length → BoolsAt ks so sc w1 → (ks ≠ [] → ∀ p, so = some p → p.block < W.heap.size) →
      Calls Try.prog 19 #[.pointer (some ⟨D, 0, none⟩), .slice so ks.length sc] w1 fun e w' => e = .returned (.int .i64 0) ∧ Mine W Q D (d.crash ks) w' ∧ KeepQ Q w1 w' := by
  obtain ⟨U, sl, hm, _, _⟩ := h.ex
  refine ⟨(Dsk.m_dirty hm).mono fun e w' h1 => ?_, fun w1 hb ks so sc hk hbs hso => ?_⟩
  · obtain ⟨vd, he, hi, hb⟩ := h1
    obtain ⟨vo, vc, hvd, _, _⟩ := hi.form
    rw [dirty_len] at hvd
    exact ⟨vo, vc, by rw [he, hvd], hb⟩
  · have hc := Dsk.m_crash ks so sc (hm.later hb) hk hbs (fun hne p hp => .inl (hso hne p hp))
    refine hc.mono fun e w' h1 => ?_
    obtain ⟨he, hm', hkq⟩ := h1
    refine ⟨he, ?_, fun j hj => hkq j (.inl hj)⟩
    obtain ⟨⟨T, hT, hq⟩, hB, hql⟩ := hm'
    exact ⟨⟨T, hT, fun j hj => ⟨(hq j hj).1, fun e => (hq j hj).2 (.inl e)⟩⟩, hB, fun j hj => hql j (.inl hj)⟩
/-- What a Reset, that a fuse may cut off, leaves behind a crash. -/
structure Torn (W : World) (Q : Nat → Prop) (D F n N k t b : Nat) (A : List R) (L : Nat) (co : Int) (w : World) : Prop where
  ex : ∃ g d, Pair W Q L D g d w ∧ Few k N d ∧ ∀ ks : List Bool, (co = 6 ∧ Cn F n t b (d.crash ks).f A) ∨ Cn F n (t + 1) (t + 1) (d.crash ks).f []
theorem few_write {d : PD} {k N j : Nat} {s : List UInt8} (h : Few k N d) : Few (k + 1) N (d.write j s).burn := ⟨h.n, by show (d.cs ++ [_]).length ≤ _; rw [List.length_append]; exact Nat.succ_le_succ h.cs, Nat.succ_le_succ h.wr, Nat.le_succ_of_le h.fl⟩
theorem Lg.torn (h : Lg W Q L D F n N k t b A [] w) (m : Nat) (hm : m ≤ 2) (hk : k + 2 ≤ 800000) (ht : t + 1 ≤ 1000000) :
    Calls Try.prog 16 #[.pointer (some ⟨D, 0, none⟩), .int .i64 (m : Int)] w fun e w1 => e = .returned (.tuple #[]) ∧ KeepQ Q w w1 ∧
      Calls Try.prog 24 #[.pointer (some ⟨L, 0, none⟩)] w1 fun e w2 => ∃ co, e = .returned (.int .i64 co) ∧ (co = 6 ∨ co = 0) ∧ KeepQ Q w1 w2 ∧ Torn W Q D F n N (k + 2) t b A L co w2 := by
  obtain ⟨d, hp, hl, hw, hfu⟩ := h.ex
  have hroom := h.fit
  have hcs0 : d.cs = [] := hl.rest.2
  have hN := hw.n
  have hcs := hw.cs
  have hwr := hw.wr
  have hfl := hw.fl
  refine (hp.fuse (m : Int) (by omega)).mono fun e w1 h1 => ?_
  obtain ⟨he, hp1, hk1⟩ := h1
  refine ⟨he, hk1, ?_⟩
  have hl1 : Life F n t b (PD.fused d m) A [] := ⟨⟨hl.bd.one, hl.bd.slots, hl.bd.a1, hl.bd.cs, hl.bd.old, hl.bd.stop, hl.bd.mono, hl.bd.all, hl.bd.room⟩, hl.cur⟩
  have hw1 : Few k N (PD.fused d m) := ⟨hw.n, hw.cs, hw.wr, hw.fl⟩
  have hlf : (PD.fused d m).lf = m := Int.toNat_natCast m
  rcases (show m = 0 ∨ m = 1 ∨ m = 2 by omega) with h0 | h0 | h0
  · have hbu : (PD.fused d m).burnt = true := by unfold Dsk.PD.burnt; rw [hlf, h0]; rfl
    refine (reset_off1 hp1 rfl (by show t < _; omega) (by show F + 1 < d.n; omega) hbu).mono fun e w2 h2 => ?_
    obtain ⟨he2, hp2, hk2⟩ := h2
    refine ⟨6, he2, .inl rfl, hk2, ⟨_, _, hp2, hw1.more (by omega), fun ks => .inl ⟨rfl, ?_⟩⟩⟩
    obtain ⟨m', _, hc⟩ := hl1.bd.crash ks
    simpa using hc
  · have hbu : (PD.fused d m).burnt = false := by unfold Dsk.PD.burnt; rw [hlf, h0]; rfl
    refine (reset_off2 hp1 rfl (by show t < _; omega) (by show F + 1 < d.n; omega) hbu (by
      unfold Dsk.PD.burnt
      show (true && ((if true = true then (PD.fused d m).lf - 1 else (PD.fused d m).lf) == 0)) = true
      rw [hlf, h0]; rfl) (by show d.cs.length < _; omega) (by show d.wr < _; omega)).mono fun e w2 h2 => ?_
    obtain ⟨he2, hp2, hk2⟩ := h2
    refine ⟨6, he2, .inl rfl, hk2, ⟨_, _, hp2, (few_write hw1).more (by omega), fun ks => ?_⟩⟩
    have hpd := hl1.pending (d1 := ((PD.fused d m).write (slot F (t + 1)) (sealB (sbody (t + 1) (t + 1)))).burn) hcs0 (by omega) ks rfl (by
      show d.cs ++ [_] = _
      rw [hcs0]; rfl)
    rcases hpd with hpd | hpd
    · exact .inl ⟨rfl, hpd⟩
    · exact .inr hpd
  · have hbu : (PD.fused d m).burnt = false := by unfold Dsk.PD.burnt; rw [hlf, h0]; rfl
    refine (reset_on hp1 rfl (by show t < _; omega) (by show F + 1 < d.n; omega) hbu (by
      unfold Dsk.PD.burnt
      show (true && ((if true = true then (PD.fused d m).lf - 1 else (PD.fused d m).lf) == 0)) = false
      rw [hlf, h0]; rfl) (by show d.cs.length < _; omega) (by show d.wr < _; omega) (by show d.fl < _; omega)).mono fun e w2 h2 => ?_
    obtain ⟨he2, hp2, hk2⟩ := h2
    have hl2 := hl1.reset (d' := ((PD.fused d m).write (slot F (t + 1)) (sealB (sbody (t + 1) (t + 1)))).burn.flush.burn) (by omega) rfl rfl
    refine ⟨0, he2, .inr rfl, hk2, ⟨_, _, hp2, ⟨hw.n, Nat.zero_le _, by show d.wr + 1 ≤ _; omega, by show d.fl + 1 ≤ _; omega⟩, fun ks => .inr ?_⟩⟩
    obtain ⟨m', _, hc⟩ := hl2.bd.crash ks
    simpa using hc
end
end Wal
end Go.Proofs.Ytpamffheapnoaaa
