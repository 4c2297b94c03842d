import Derived.Test.YtkgbemkcnahkoaaGreatDoorZUfto
namespace Go.Proofs.YtkgbemkcnahkoaaGreatDoor
open Go.RowKit
namespace Pgr
open Wal (Pair PL np Cn tot)
open Dsk (PD Mine KeepQ RefIs Only Grow upd pad pad_len below_keeps zeros owns_later cell_later Opv BoolsAt IntsAt)
open Crc (S S_of S_size)
section
variable {X M R P L D n N t b : Nat} {ch : Ch} {d : PD} {F F2 Z : Nat → Prop} {w w' u W : World} {r : Ans}
def FZ (F Z : Nat → Prop) (k : Nat) : Prop := F k ∨ Z k
theorem step_cases (n N : Nat) (ch : Ch) (t b : Nat) (d : PD) (x : Opv) : ((stepA n N ch t b d x).d = d ∧ (stepA n N ch t b d x).t = t ∧ (stepA n N ch t b d x).hal = false) ∨
   (np (record ch) ≤ n ∧ (run d (commitS n t ch)).1 = true ∧ (stepA n N ch t b d x).d = (run d (commitS n t ch)).2 ∧ (stepA n N ch t b d x).t = t + 1 ∧ (stepA n N ch t b d x).hal = false) ∨
   (np (record ch) ≤ n ∧ (run d (commitS n t ch)).1 = false ∧ (stepA n N ch t b d x).d = (run d (commitS n t ch)).2 ∧ (stepA n N ch t b d x).hal = true) := by
 by_cases k0 : x.kind = 0
 · refine .inl ?_
   unfold stepA
   dsimp only
   rw [if_pos k0]
   by_cases h1 : off N x.pos
   · rw [if_pos h1]; exact ⟨rfl, rfl, rfl⟩
   · rw [if_neg h1]
     by_cases h2 : x.pos = 0
     · rw [if_pos h2]; exact ⟨rfl, rfl, rfl⟩
     · rw [if_neg h2]
       by_cases h3 : 128 < x.s.size
       · rw [if_pos h3]; exact ⟨rfl, rfl, rfl⟩
       · rw [if_neg h3]; exact ⟨rfl, rfl, rfl⟩
 by_cases k1 : x.kind = 1
 · refine .inl ?_
   unfold stepA
   dsimp only
   rw [if_neg k0, if_pos k1]
   cases least (over ch (pg (2 + n) d.f) 0) N with
   | none => exact ⟨rfl, rfl, rfl⟩
   | some k => exact ⟨rfl, rfl, rfl⟩
 by_cases k2 : x.kind = 2
 · refine .inl ?_
   unfold stepA
   dsimp only
   rw [if_neg k0, if_neg k1, if_pos k2]
   by_cases h1 : off N x.pos
   · rw [if_pos h1]; exact ⟨rfl, rfl, rfl⟩
   · rw [if_neg h1]
     by_cases h2 : x.pos = 0
     · rw [if_pos h2]; exact ⟨rfl, rfl, rfl⟩
     · rw [if_neg h2]
       by_cases h3 : useB (over ch (pg (2 + n) d.f) 0) x.pos.toNat = false
       · rw [if_pos h3]; exact ⟨rfl, rfl, rfl⟩
       · rw [if_neg h3]; exact ⟨rfl, rfl, rfl⟩
 by_cases k3 : x.kind = 3
 · unfold stepA
   dsimp only
   rw [if_neg k0, if_neg k1, if_neg k2, if_pos k3]
   by_cases h1 : ch = []
   · rw [if_pos h1]; exact .inl ⟨rfl, rfl, rfl⟩
   · rw [if_neg h1]
     by_cases h2 : np (record ch) ≤ n
     · rw [if_neg (not_not.2 h2)]
       by_cases h3 : (run d (commitS n t ch)).1 = true
       · rw [if_pos h3]; exact .inr (.inl ⟨h2, h3, rfl, rfl, rfl⟩)
       · rw [if_neg h3]; exact .inr (.inr ⟨h2, by simpa using h3, rfl, rfl⟩)
     · rw [if_pos h2]; exact .inl ⟨rfl, rfl, rfl⟩
 by_cases k4 : x.kind = 4
 · refine .inl ?_
   unfold stepA
   dsimp only
   rw [if_neg k0, if_neg k1, if_neg k2, if_neg k3, if_pos k4]
   exact ⟨rfl, rfl, rfl⟩
 · refine .inl ?_
   unfold stepA
   dsimp only
   rw [if_neg k0, if_neg k1, if_neg k2, if_neg k3, if_neg k4]
   by_cases h1 : off N x.pos
   · rw [if_pos h1]; exact ⟨rfl, rfl, rfl⟩
   · rw [if_neg h1]; exact ⟨rfl, rfl, rfl⟩
theorem Calm.self {K t b : Nat} {V : Nat → List UInt8} (h : Calm n N K t b d V) : Calm n N K t b d (pg (2 + n) d.f) := ⟨h.life, h.cs, h.bt, h.tT, fun _ _ => rfl⟩
structure Sim (W : World) (Z : Nat → Prop) (P L D X M R n N K : Nat) (w : World) : Prop where
 ex : ∃ F ch t b bc d, Pg W (FZ F Z) P L D ⟨2 + n, N, ch, false⟩ ⟨0, n, t, [], 0, false⟩ d w ∧ RP X M R ⟨n, N, ch, false⟩ ⟨n, t, b, 0, [], false⟩ d F w ∧ (∀ k, F k → W.heap.size ≤ k ∧ ¬ Z k) ∧ Calm n N K t bc d (pg (2 + n) d.f) ∧ d.wr ≤ K ∧ d.fl ≤ K
structure Dk (W : World) (Z : Nat → Prop) (D R n N K : Nat) (w : World) : Prop where
 ex : ∃ F d, Mine W (FZ F Z) D d w ∧ RD R d F w ∧ (∀ k, F k → W.heap.size ≤ k ∧ ¬ Z k) ∧ d.n = 2 + n + N ∧ (∃ V, Rs n N K (d.crash []).f V) ∧ d.wr ≤ K ∧ d.fl ≤ K
structure DkM (W : World) (Z : Nat → Prop) (D R n N K : Nat) (w : World) : Prop where
 ex : ∃ F d, Mine W (FZ F Z) D (d.crash []) w ∧ RD R d F w ∧ (∀ k, F k → W.heap.size ≤ k ∧ ¬ Z k) ∧ d.n = 2 + n + N ∧ (∃ V, Rs n N K (d.crash []).f V) ∧ d.wr ≤ K ∧ d.fl ≤ K
structure DkR (W : World) (Z : Nat → Prop) (D R n N K : Nat) (w : World) : Prop where
 ex : ∃ F d, Mine W (FZ F Z) D d w ∧ RD R d F w ∧ (∀ k, F k → W.heap.size ≤ k ∧ ¬ Z k) ∧ d.n = 2 + n + N ∧ (∃ V, Rs n N K d.f V) ∧ d.wr ≤ K ∧ d.fl ≤ K ∧ d.cs = [] ∧ d.fu = false
structure DkO (W : World) (Z : Nat → Prop) (P L D R n N K : Nat) (w : World) : Prop where
 ex : ∃ F d t b bc A oc V, Pg W (FZ F Z) P L D ⟨2 + n, N, [], false⟩ ⟨0, n, openT t oc, [], 0, false⟩ (run d (openS n t b oc)).2 w ∧ RD R d F w ∧ (∀ k, F k → W.heap.size ≤ k ∧ ¬ Z k) ∧ d.n = 2 + n + N ∧ Cn 0 n t b d.f A ∧ ((oc = none ∧ A = []) ∨ ∃ t0 ch, oc = some ch ∧ A = [(t0, record ch)] ∧ Ok N ch) ∧ b ≤ t ∧ t + 3 ≤ 700000 ∧ Calm n N (K + 2000) (openT t oc) bc (exec d (openS n t b oc)) V ∧ d.wr ≤ K ∧ d.fl ≤ K ∧ d.cs = [] ∧ d.fu = false
theorem RD.mono (h : RD R d F w) (hF : ∀ k, F k → F2 k) (hl : ∀ k, F2 k → k < w.heap.size) : RD R d F2 w := by
 obtain ⟨h1, h2, h3⟩ := h
 obtain ⟨lf, g, lc, wo, wc, hA, r⟩ := h1
 exact ⟨⟨lf, g, lc, wo, wc, ⟨hA.row, hA.part, hA.own, hA.ln, hA.lm, hF _ hA.tR, hF _ hA.tG, fun p hp => hF _ (hA.tW p hp), hl⟩, r⟩, h2, h3⟩
theorem RP.rd {v : DV} {g : DL} (h : RP X M R v g d F w) : RD R d F w := by
 obtain ⟨Fl, sl, hl, hb⟩ := h.beside
 obtain ⟨Td, sl2, h1, h2, h3, h4, h5⟩ := hl.ex
 exact h1.mono (fun k hk => (hb.off k (h4 k hk).1).1) h.lt
theorem Sim.guard {K B0 : Nat} (h : Sim W (fun _ => False) P L D X M R n N K w) (hb : Below w.heap.size w w') (h1 : w.heap.size ≤ B0) (h2 : B0 < w'.heap.size) : Sim W (fun k => k = B0) P L D X M R n N K w' := by
 obtain ⟨F, ch, t, b, bc, d, h3, h4, h5, h6⟩ := h.ex
 exact ⟨⟨F, ch, t, b, bc, d, (h3.guard hb).less (fun k hk => hk.elim (fun e => .inl (.inl e)) (fun e => .inr (by rw [e]; exact ⟨h1, h2⟩))), h4.later hb, fun k hk => ⟨(h5 k hk).1, fun e => by have := h4.lt k hk; omega⟩, h6⟩⟩
theorem Sim.drop {K : Nat} {Z : Nat → Prop} (h : Sim W Z P L D X M R n N K w) : Sim W (fun _ => False) P L D X M R n N K w := by
 obtain ⟨F, ch, t, b, bc, d, h3, h4, h5, h6⟩ := h.ex
 exact ⟨⟨F, ch, t, b, bc, d, h3.less (fun k hk => hk.elim (fun e => .inl e) (fun e => e.elim)), h4, fun k hk => ⟨(h5 k hk).1, fun e => e⟩, h6⟩⟩
theorem Sim.kept {K : Nat} {Z : Nat → Prop} (h : Sim W Z P L D X M R n N K w) (hb : Below w.heap.size w w') : KeepQ Z w w' := by
 obtain ⟨F, ch, t, b, bc, d, h3, _⟩ := h.ex
 exact fun k hk => h3.kept hb k (.inr hk)
theorem Sim.bel {K : Nat} (h : Sim W Z P L D X M R n N K w) : Below W.heap.size W w := by
 obtain ⟨F, ch, t, b, bc, d, h1, _⟩ := h.ex
 exact h1.bel
theorem Sim.later {K : Nat} (h : Sim W Z P L D X M R n N K w) (hb : Below w.heap.size w w') : Sim W Z P L D X M R n N K w' := by
 obtain ⟨F, ch, t, b, bc, d, h1, h2, h3⟩ := h.ex
 exact ⟨⟨F, ch, t, b, bc, d, h1.later hb, h2.later hb, h3⟩⟩
theorem Calm.more2 {K K' t b : Nat} {V : Nat → List UInt8} (h : Calm n N K t b d V) (hK : K ≤ K') : Calm n N K' t b d V := ⟨h.life, h.cs, h.bt, Nat.le_trans h.tT hK, h.pgs⟩
theorem Sim.more {K K' : Nat} (h : Sim W Z P L D X M R n N K w) (hK : K ≤ K') : Sim W Z P L D X M R n N K' w := by
 obtain ⟨F, ch, t, b, bc, d, h1, h2, h3, h4, h5, h6⟩ := h.ex
 exact ⟨⟨F, ch, t, b, bc, d, h1, h2, h3, h4.more2 hK, by omega, by omega⟩⟩
theorem Sim.dk {K : Nat} (h : Sim W Z P L D X M R n N K w) : Dk W Z D R n N K w := by
 obtain ⟨F, ch, t, b, bc, d, h1, h2, h3, h4, h5, h6⟩ := h.ex
 exact ⟨⟨F, d, mine_of h1, h2.rd, h3, h2.fit.symm, ⟨_, h4.rs []⟩, h5, h6⟩⟩
theorem Sim.dirty {K : Nat} (h : Sim W Z P L D X M R n N K w) : (Calls Tryz.prog 26 #[.pointer (some ⟨D, 0, none⟩)] w fun e w' => ∃ v, e = .returned v ∧ IntsAt w.heap.size [] v w' ∧ Below w.heap.size w w') ∧
   (Calls Tryz.prog 16 #[.pointer (some ⟨R, 0, none⟩)] w fun e w' => ∃ v, e = .returned v ∧ IntsAt w.heap.size [] v w' ∧ Below w.heap.size w w') := by
 obtain ⟨F, ch, t, b, bc, d, h1, h2, h3, h4, h5, h6⟩ := h.ex
 have e : d.dirty = [] := by unfold PD.dirty; rw [h4.cs]; rfl
 have a1 := Dsk.m_dirty (mine_of h1)
 have a2 := Dsk.rdirty_any w h2.rd.is
 rw [e] at a1 a2
 exact ⟨a1, a2⟩
structure Mid (W : World) (Z : Nat → Prop) (P L D X M R n N K : Nat) (x : Opv) (r : Ans) (w : World) : Prop where
 ex : ∃ F ch t b bc d, r = stepA n N ch t b d x ∧ (r.hal = false → Pg W (FZ F Z) P L D ⟨2 + n, N, r.ch, false⟩ ⟨0, n, r.t, [], 0, false⟩ r.d w) ∧ Mine W (FZ F Z) D r.d w ∧ RP X M R ⟨n, N, ch, false⟩ ⟨n, t, b, 0, [], false⟩ d F w ∧ (∀ k, F k → W.heap.size ≤ k ∧ ¬ Z k) ∧ Calm n N K t bc d (pg (2 + n) d.f) ∧ d.wr ≤ K ∧ d.fl ≤ K
structure Aft (W : World) (Z : Nat → Prop) (P L D X M R n N K : Nat) (r : Ans) (w : World) : Prop where
 on : r.hal = false → Sim W Z P L D X M R n N K w
 cut : r.hal = true → Dk W Z D R n N K w
 hal : w.cell? ⟨X, 4, none⟩ = some (.bool r.hal)
theorem Sim.do {K : Nat} (h : Sim W Z P L D X M R n N K w) (x : Opv) (hx : x.inn) (hn : n ≤ 998) (hK : K ≤ 600000) : ∃ r : Ans, Calls Tryz.prog 19 #[.pointer (some ⟨P, 0, none⟩), opV x] w fun e w' => e = .returned r.val ∧ Mid W Z P L D X M R n N K x r w' ∧ KeepQ Z w w' := by
 obtain ⟨F, ch, t, b, bc, d, h1, h2, h3, h4, h5, h6⟩ := h.ex
 refine ⟨stepA n N ch t b d x, (pa_do (b := b) x hx h1 hn (by have := h4.tT; omega) (by rw [h4.cs]; simp) (by omega) (by omega)).mono fun e w' ⟨he, hp⟩ => ⟨he, ⟨F, ch, t, b, bc, d, rfl, hp.on, hp.off, h2.keepQ (fun k hk => hp.keep k (.inl hk)) (fun k hk => hp.off.qlt k (.inl hk)), h3, h4, h5, h6⟩, fun k hk => hp.keep k (.inr hk)⟩⟩
theorem Mine.footed {Q : Nat → Prop} {T : Nat → Prop} (h : Mine W Q D d w) (ho : Only T w w') (hT : ∀ k, T k → Q k ∧ W.heap.size ≤ k) : Mine W (fun k => Q k ∨ (w.heap.size ≤ k ∧ k < w'.heap.size)) D d w' := by
 obtain ⟨⟨U, hU, hq⟩, hB, hl⟩ := h
 refine ⟨⟨U, hU.keepQ (fun k hk => ho.block k (hU.lt k hk) (fun e => (hq k hk).2 (hT k e).1)) (fun k hk => Nat.lt_of_lt_of_le (hU.lt k hk) ho.size), fun k hk => ⟨(hq k hk).1, fun e => e.elim (hq k hk).2 (fun e => by have := hU.lt k hk; omega)⟩⟩, hB.trans (ho.below (fun k hk => (hT k hk).2) hB.size), fun k hk => hk.elim (fun e => Nat.lt_of_lt_of_le (hl k e) ho.size) (fun e => e.2)⟩
theorem Mid.refer {K : Nat} {x : Opv} (h : Mid W Z P L D X M R n N K x r w) (hx : x.inn) (hn : 2 ≤ n ∧ n ≤ 998) (hN : N ≤ 127) (hK : K ≤ 600000) : Calls Tryz.prog 20 #[.pointer (some ⟨X, 0, none⟩), opV x] w fun e w' => e = .returned r.val ∧ Aft W Z P L D X M R n N (K + 3000) r w' ∧ KeepQ Z w w' := by
 obtain ⟨F, ch, t, b, bc, d, hr, h1, hm, h2, h3, h4, h5, h6⟩ := h.ex
 have hrl : (record ch).length ≤ 100000 := by have h9 : (record ch).length ≤ 1 + N * 131 := record_few h2.ok hN; have h10 : N * 131 ≤ 127 * 131 := Nat.mul_le_mul_right _ hN; omega
 have hT : t + 1 ≤ K + 3000 := by have := h4.tT; omega
 have hstep := step_cases n N ch t b d x
 rw [← hr] at hstep
 have hcn : ch.length ≤ N := h2.ok.count
 have U := ra_do x hx h2 hn.1 hrl (by have := h4.tT; omega) (by rw [h4.cs]; simp) (by omega) (by omega)
 rw [← hr] at U
 refine U.mono fun e w' ⟨he, hp⟩ => ?_
 obtain ⟨F', ht, ho, ⟨v9, g9, hv9, hrp⟩⟩ := hp.ex
 refine ⟨he, ?_, fun k hk => ht.keeps (hm.qlt k (.inr hk)) (fun e => (h3 k e).2 hk)⟩
 have hF' : ∀ k, F' k → W.heap.size ≤ k ∧ ¬ Z k := fun k hk => (ht.2.2 k hk).elim (h3 k) (fun e => ⟨by have := hm.bel.size; omega, fun z => by have := hm.qlt k (.inr z); omega⟩)
 have hFZ : ∀ k, FZ F' Z k → FZ F Z k ∨ (w.heap.size ≤ k ∧ k < w'.heap.size) := fun k hk => hk.elim (fun e => (ht.2.2 k e).elim (fun e => .inl (.inl e)) .inr) (fun e => .inl (.inr e))
 have hM : Mine W (FZ F' Z) D r.d w' := (Mine.footed hm ht.1 (fun k hk => ⟨.inl hk, (h3 k hk).1⟩)).less2 hFZ
 refine ⟨fun hh => ?_, fun hh => ?_, ?_⟩
 · have hpg := (Pg.guardO (h1 hh) ht.1 (fun k hk => ⟨.inl hk, (h3 k hk).1⟩)).less hFZ
   rcases hstep with ⟨hd, htt, _⟩ | ⟨hnp, hy, hd, htt, _⟩ | ⟨_, _, _, h9⟩
   · exact ⟨⟨F', r.ch, r.t, r.b, bc, r.d, hpg, ho hh, hF', by rw [hd, htt]; exact h4.more2 (by omega), by rw [hd]; omega, by rw [hd]; omega⟩⟩
   · have hrun : run d (commitS n t ch) = (true, r.d) := Prod.ext hy hd.symm
     have hex := run_fine hrun
     have hc := (commit_crash (h4.more2 (show K ≤ K + 3000 by omega)) (by omega : t + 1 ≤ K + 3000) (by omega) (by omega) h2.ok hnp).2
     rw [← hex] at hc
     have hfew := run_few (commitS n t ch) d
     rw [hrun, commitS_len] at hfew
     exact ⟨⟨F', r.ch, r.t, r.b, t + 1, r.d, hpg, ho hh, hF', by rw [htt]; exact hc.self, by have := hfew.2.2.1; simp only at this; omega, by have := hfew.2.2.2.1; simp only at this; omega⟩⟩
   · rw [hh] at h9; cases h9
 · rcases hstep with ⟨_, _, h9⟩ | ⟨_, _, _, _, h9⟩ | ⟨hnp, hy, hd, _⟩
   · rw [hh] at h9; cases h9
   · rw [hh] at h9; cases h9
   · have hrun : run d (commitS n t ch) = (false, r.d) := Prod.ext hy hd.symm
     have hfew := run_few (commitS n t ch) d
     rw [hrun, commitS_len] at hfew
     refine ⟨⟨F', r.d, hM, hrp.rd, hF', ?_, ?_, by have := hfew.2.2.1; simp only at this; omega, by have := hfew.2.2.2.1; simp only at this; omega⟩⟩
     · have := hfew.1; simp only at this; rw [this]; exact h2.fit.symm
     · rcases run_cases (commitS n t ch) d with h9 | ⟨p, q, hpq, _, h9⟩
       · rw [hrun] at h9; cases h9
       · have he9 : r.d = exec d p := by rw [hrun] at h9; exact congrArg Prod.snd h9
         rw [he9]
         rcases (commit_crash (h4.more2 (show K ≤ K + 3000 by omega)) (by omega : t + 1 ≤ K + 3000) (by omega) (by omega) h2.ok hnp).1 p q hpq [] with h10 | h10
         · exact ⟨_, h10⟩
         · exact ⟨_, h10⟩
 · have := hrp.c4
   rw [hv9] at this
   exact this
end
end Pgr
end Go.Proofs.YtkgbemkcnahkoaaGreatDoor
namespace Go.Proofs.YtkgbemkcnahkoaaGreatDoor
open Go.RowKit
namespace Pgr
open Wal (Pair PL np Cn tot)
open Dsk (PD Mine KeepQ RefIs Only Grow upd pad pad_len below_keeps zeros owns_later cell_later Opv BoolsAt IntsAt Come)
open Crc (S S_of S_size)
section
variable {X M R P L D n N K t b : Nat} {v : DV} {g : DL} {ch : Ch} {d : PD} {F F2 Z : Nat → Prop} {w w' u W : World} {r : Ans}
theorem fz_of (ht : To F F2 w w') : ∀ k, FZ F2 Z k → FZ F Z k ∨ (w.heap.size ≤ k ∧ k < w'.heap.size) := fun k hk => hk.elim (fun e => (ht.2.2 k e).elim (fun e => .inl (.inl e)) .inr) (fun e => .inl (.inr e))
theorem f_of (ht : To F F2 w w') (hF : ∀ k, F k → W.heap.size ≤ k ∧ ¬ Z k) (hW : W.heap.size ≤ w.heap.size) (hq : ∀ k, FZ F Z k → k < w.heap.size) : ∀ k, F2 k → W.heap.size ≤ k ∧ ¬ Z k := fun k hk => (ht.2.2 k hk).elim (hF k) (fun e => ⟨by omega, fun z => by have := hq k (.inr z); omega⟩)
theorem z_of (ht : To F F2 w w') (hF : ∀ k, F k → W.heap.size ≤ k ∧ ¬ Z k) (hq : ∀ k, FZ F Z k → k < w.heap.size) : KeepQ Z w w' := fun k hk => ht.keeps (hq k (.inr hk)) (fun e => (hF k e).2 hk)
theorem none_bools (so : Option Addr) (sc : Nat) (hs : sc ≤ 9223372036854775807) : BoolsAt [] so sc w := ⟨Nat.zero_le _, hs, fun h => absurd rfl h⟩
theorem Dk.crash (h : Dk W Z D R n N K w) (so : Option Addr) (sc : Nat) (hs : sc ≤ 9223372036854775807) : Calls Tryz.prog 17 #[.pointer (some ⟨D, 0, none⟩), .slice so 0 sc] w fun e w' => e = .returned (.int .i64 0) ∧ DkM W Z D R n N K w' ∧ KeepQ Z w w' := by
 obtain ⟨F, d, hm, hr, hF, hn, hV, hw, hf⟩ := h.ex
 refine (Dsk.m_crash [] so sc hm (Nat.zero_le _) (none_bools so sc hs) (fun e => absurd rfl e)).mono fun e w' ⟨he, hm2, hk⟩ => ⟨he, ⟨F, d, hm2, hr.keepQ (fun k h => hk k (.inl h)) (fun k h => hm2.qlt k (.inl h)), hF, hn, hV, hw, hf⟩, fun k h => hk k (.inr h)⟩
theorem DkM.crash (h : DkM W Z D R n N K w) (so : Option Addr) (sc : Nat) (hs : sc ≤ 9223372036854775807) : Calls Tryz.prog 18 #[.pointer (some ⟨R, 0, none⟩), .slice so 0 sc] w fun e w' => e = .returned (.int .i64 0) ∧ DkR W Z D R n N K w' ∧ KeepQ Z w w' := by
 obtain ⟨F, d, hm, hr, hF, hn, hV, hw, hf⟩ := h.ex
 refine (Dsk.rcrash_on [] so 0 sc w hr.is hr.good rfl (Nat.zero_le _) (none_bools so sc hs) (fun e => absurd rfl e)).mono fun e w' ⟨he, hi, ho⟩ => ?_
 have hm2 : Mine W (FZ F Z) D (d.crash []) w' := by
   have h1 := Mine.footed hm ho (fun k hk => ⟨.inl hk, (hF k hk).1⟩)
   exact h1.less2 (fun k hk => .inl hk)
 exact ⟨he, ⟨F, d.crash [], hm2, ⟨hi, Dsk.Good.crash d [], fun j => hm2.flen j⟩, hF, hn, hV, hw, hf, rfl, rfl⟩, z_of (.own ho) hF hm.qlt⟩
theorem DkR.open (h : DkR W Z D R n N K w) (hn : 2 ≤ n ∧ n ≤ 998) (hN : 1 ≤ N ∧ N ≤ 1024) (hK : K ≤ 500000) (lg : Nat) (hlg : lg = 2 + n) : Calls Tryz.prog 12 #[.pointer (some ⟨D, 0, none⟩), .int .i64 (lg : Int)] w fun e w' => ∃ P L, e = .returned (.tuple #[.pointer (some ⟨P, 0, none⟩), .int .i64 0]) ∧ DkO W Z P L D R n N K w' ∧ KeepQ Z w w' := by
 obtain ⟨F, d, hm, hr, hF, hdn, ⟨V, hV⟩, hw, hf, hcs, hfu⟩ := h.ex
 obtain ⟨t, b, A, oc, hcn, hbt, htK, hA⟩ := hV.oc
 have hA2 : (oc = none ∧ A = []) ∨ ∃ t0 ch, oc = some ch ∧ A = [(t0, record ch)] ∧ Ok N ch := by
   rcases hA with ⟨h1, h2, _⟩ | ⟨t0, ch, h1, h2, h3, _⟩
   · exact .inl ⟨h1, h2⟩
   · exact .inr ⟨t0, ch, h1, h2, h3⟩
 obtain ⟨bc, _, hcalm⟩ := (open_crash (T := K + 2000) hcn hcs hbt (by omega) (by omega) oc hA).2
 refine (popen_in hm hcn oc hA2 hdn hn hN (by omega) (by rw [hcs]; simp) (by omega) (by omega) lg hlg).mono fun e w' ho => ?_
 rcases ho with ⟨_, P, L, he, hp, hk⟩ | ⟨h1, _⟩
 · exact ⟨P, L, he, ⟨F, d, t, b, bc, A, oc, V, hp, hr.keepQ (fun k h => hk k (.inl h)) (fun k h => hp.qlt k (.inl h)), hF, hdn, hcn, hA2, hbt, by omega, hcalm, hw, hf, hcs, hfu⟩, fun k h => hk k (.inr h)⟩
 · rw [run_open _ d hfu] at h1; cases h1
theorem DkO.open (h : DkO W Z P L D R n N K w) (hn : 2 ≤ n ∧ n ≤ 998) (hN : 1 ≤ N ∧ N ≤ 1024) (hK : K ≤ 500000) (lg : Nat) (hlg : lg = 2 + n) : Calls Tryz.prog 13 #[.pointer (some ⟨R, 0, none⟩), .int .i64 (lg : Int)] w fun e w' => ∃ X, e = .returned (.tuple #[.pointer (some ⟨X, 0, none⟩), .int .i64 0]) ∧ (∃ M, Sim W Z P L D X M R n N (K + 2000) w') ∧ KeepQ Z w w' := by
 obtain ⟨F, d, t, b, bc, A, oc, V, hp, hr, hF, hdn, hcn, hA, hbt, ht, hcalm, hw, hf, hcs, hfu⟩ := h.ex
 refine (rpopen_in hr hcn oc hA hn hN hdn hbt (by omega) hfu (by rw [hcs]; simp) (by omega) (by omega) lg hlg).mono fun e w' ho => ?_
 obtain ⟨F', X, M, he, hrp, hto⟩ := ho
 have hrun := run_open (openS n t b oc) d hfu
 have hlen := openS_len n t b oc (N := N) (fun ch e => by
   rcases hA with ⟨h1, _⟩ | ⟨t0, ch2, h1, _, h3⟩
   · rw [h1] at e; cases e
   · rw [h1] at e; cases e; exact h3)
 have hfew := run_few (openS n t b oc) d
 have hpg := (Pg.guardO hp hto.1 (fun k hk => ⟨.inl hk, (hF k hk).1⟩)).less (fz_of hto)
 have hF' := f_of hto hF hp.bel.size hp.qlt
 refine ⟨X, he, ⟨M, ⟨F', [], openT t oc, _, bc, (run d (openS n t b oc)).2, hpg, hrp, hF', ?_, by have := hfew.2.2.1; omega, by have := hfew.2.2.2.1; omega⟩⟩, z_of hto hF hp.qlt⟩
 rw [hrun]
 exact hcalm.self
theorem RL.fuse (h : RL M R g d F w) (k : Int) (hk : k ≤ 9223372036854775807) : Calls Tryz.prog 15 #[.pointer (some ⟨R, 0, none⟩), .int .i64 k] w fun e w' => Got fun F' => e = .returned (.tuple #[]) ∧ RL M R g (fused d k) F' w' ∧ To F F' w w' := by
 obtain ⟨Td, sl, h1, h2, h3, h4, h5⟩ := h.ex
 refine (Dsk.rfuse_any k hk w h1.is).mono fun e w' ⟨he, hi, ho⟩ => ?_
 have hg : Dsk.Good (fused d k) := ⟨h1.good.full, h1.good.pos⟩
 obtain ⟨F', hl, hto⟩ := RL.ofD (d' := fused d k) h2 h3 h4 h5 h.fM h.lt h.ok h.fit ⟨hi, hg, h1.flen⟩ (.own ho)
 exact ⟨⟨F', he, hl, hto⟩⟩
theorem RP.fuse (h : RP X M R v g d F w) (k : Int) (hk : k ≤ 9223372036854775807) : Calls Tryz.prog 15 #[.pointer (some ⟨R, 0, none⟩), .int .i64 k] w fun e w' => Got fun F' => e = .returned (.tuple #[]) ∧ RP X M R v g (fused d k) F' w' ∧ To F F' w w' := by
 obtain ⟨Fl, sl, hl, hb⟩ := h.beside
 refine (hl.fuse k hk).mono fun e w' ⟨⟨F', he, hl2, ht⟩⟩ => ?_
 obtain ⟨hb2, hto⟩ := hb.step ht hl2.lt
 exact ⟨⟨_, he, hb2.rp hl2 h.ok h.sz h.fit, hto⟩⟩
structure SimF (W : World) (Z : Nat → Prop) (P L D X M R n N K : Nat) (k : Int) (w : World) : Prop where
 ex : ∃ F ch t b bc d, Pg W (FZ F Z) P L D ⟨2 + n, N, ch, false⟩ ⟨0, n, t, [], 0, false⟩ (fused d k) w ∧ RP X M R ⟨n, N, ch, false⟩ ⟨n, t, b, 0, [], false⟩ d F w ∧ (∀ k, F k → W.heap.size ≤ k ∧ ¬ Z k) ∧ Calm n N K t bc d (pg (2 + n) d.f) ∧ d.wr ≤ K ∧ d.fl ≤ K
theorem Sim.fuse (h : Sim W Z P L D X M R n N K w) (k : Int) (hk : k ≤ 9223372036854775807) : Calls Tryz.prog 14 #[.pointer (some ⟨D, 0, none⟩), .int .i64 k] w fun e w' => e = .returned (.tuple #[]) ∧ SimF W Z P L D X M R n N K k w' ∧ KeepQ Z w w' := by
 obtain ⟨F, ch, t, b, bc, d, h1, h2, h3, h4, h5, h6⟩ := h.ex
 exact (h1.fuse k hk).mono fun e w' ⟨he, hp, hq⟩ => ⟨he, ⟨F, ch, t, b, bc, d, hp, h2.keepQ (fun k h => hq k (.inl h)) (fun k h => hp.qlt k (.inl h)), h3, h4, h5, h6⟩, fun k h => hq k (.inr h)⟩
theorem SimF.fuse {k : Int} (h : SimF W Z P L D X M R n N K k w) (hk : k ≤ 9223372036854775807) : Calls Tryz.prog 15 #[.pointer (some ⟨R, 0, none⟩), .int .i64 k] w fun e w' => e = .returned (.tuple #[]) ∧ Sim W Z P L D X M R n N K w' ∧ KeepQ Z w w' := by
 obtain ⟨F, ch, t, b, bc, d, h1, h2, h3, h4, h5, h6⟩ := h.ex
 refine (h2.fuse k hk).mono fun e w' ⟨⟨F', he, hp, ht⟩⟩ => ?_
 have hpg := (Pg.guardO h1 ht.1 (fun k hk => ⟨.inl hk, (h3 k hk).1⟩)).less (fz_of ht)
 exact ⟨he, ⟨F', ch, t, b, bc, fused d k, hpg, hp, f_of ht h3 h1.bel.size h1.qlt, h4.fuse k, h5, h6⟩, z_of ht h3 h1.qlt⟩
theorem DkR.new (m : Nat) (hm : Mine W (fun _ => False) D (PD.new m) w) (h9 : m ≤ 4096) (hnN : m = 2 + n + N) : Calls Tryz.prog 11 #[.int .i64 (m : Int)] w fun e w' => ∃ R, e = .returned (.tuple #[.pointer (some ⟨R, 0, none⟩), .int .i64 0]) ∧ DkR W (fun _ => False) D R n N 0 w' := by
 refine (Dsk.rnew_any m (by omega) h9 w).mono fun e w' ⟨he, hi, hb⟩ => ?_
 refine ⟨w.heap.size, he, ⟨Come w w', PD.new m, (hm.guard hb).less2 (fun k hk => hk.elim (fun e => .inr e) (fun e => e.elim)), ⟨hi, Dsk.Good.new m, fun j => ?_⟩, fun k hk => ⟨Nat.le_trans hm.bel.size hk.1, fun e => e⟩, hnN, ⟨fun _ => zeros, ?_⟩, Nat.le_refl _, Nat.le_refl _, rfl, rfl⟩⟩
 · exact Dsk.zeros_len
 · exact ⟨0, 0, [], Cn.new 0 n m, Nat.le_refl _, Nat.le_refl _, .inl ⟨rfl, fun _ _ => rfl⟩⟩
theorem DkR.bel (h : DkR W Z D R n N K w) : Below W.heap.size W w := by
 obtain ⟨F, d, hm, _⟩ := h.ex
 exact hm.bel
theorem DkR.later (h : DkR W Z D R n N K w) (hb : Below w.heap.size w w') : DkR W Z D R n N K w' := by
 obtain ⟨F, d, hm, hr, h3⟩ := h.ex
 exact ⟨⟨F, d, (hm.refl_keep hb).1, hr.later hb, h3⟩⟩
theorem Sim.sectors (h : Sim W Z P L D X M R n N K w) (dn : Nat) (hdn : dn = 2 + n + N) (h9 : dn ≤ 4096) : Calls Tryz.prog 31 #[.pointer (some ⟨D, 0, none⟩), .pointer (some ⟨R, 0, none⟩), .int .i64 (dn : Int)] w fun e w' => e = .returned (.bool true) ∧ Below w.heap.size w w' := by
 obtain ⟨F, ch, t, b, bc, d, h1, h2, h3⟩ := h.ex
 exact sectors_any (mine_of h1) h2.rd dn (hdn.trans h2.fit) h9
theorem DkR.sectors (h : DkR W Z D R n N K w) (dn : Nat) (hdn : dn = 2 + n + N) (h9 : dn ≤ 4096) : Calls Tryz.prog 31 #[.pointer (some ⟨D, 0, none⟩), .pointer (some ⟨R, 0, none⟩), .int .i64 (dn : Int)] w fun e w' => e = .returned (.bool true) ∧ Below w.heap.size w w' := by
 obtain ⟨F, d, hm, hr, _, hn, _⟩ := h.ex
 exact sectors_any hm hr dn (hdn.trans hn.symm) h9
end
end Pgr
end Go.Proofs.YtkgbemkcnahkoaaGreatDoor
namespace Go.Proofs.YtkgbemkcnahkoaaGreatDoor
open Go.RowKit
namespace Pgr
open Wal (Pair PL np Cn tot)
open Dsk (PD Mine KeepQ RefIs Only Grow upd pad pad_len below_keeps zeros owns_later cell_later Opv BoolsAt IntsAt Come)
open Crc (S S_of S_size)
section
variable {X M R P L D n N K : Nat} {Z : Nat → Prop} {w W : World}
structure Views (P D X R : Nat) (k : Int) (l : List Nat) (fr nn : Int) (bf : Bool) (w : World) : Prop where
 a1 : ∀ u, Below w.heap.size w u → Calls Tryz.prog 22 #[.pointer (some ⟨P, 0, none⟩)] u fun e w' => ∃ x, e = .returned x ∧ IntsAt 0 l x w' ∧ Below u.heap.size u w'
 a2 : ∀ u, Below w.heap.size w u → Calls Tryz.prog 23 #[.pointer (some ⟨X, 0, none⟩)] u fun e w' => ∃ x, e = .returned x ∧ IntsAt 0 l x w' ∧ Below u.heap.size u w'
 f1 : ∀ u, Below w.heap.size w u → Calls Tryz.prog 24 #[.pointer (some ⟨P, 0, none⟩)] u fun e w' => e = .returned (.int .i64 fr) ∧ Below u.heap.size u w'
 f2 : ∀ u, Below w.heap.size w u → Calls Tryz.prog 25 #[.pointer (some ⟨X, 0, none⟩)] u fun e w' => e = .returned (.int .i64 fr) ∧ Below u.heap.size u w'
 d1 : ∀ u, Below w.heap.size w u → Calls Tryz.prog 26 #[.pointer (some ⟨D, 0, none⟩)] u fun e w' => ∃ x, e = .returned x ∧ IntsAt 0 [] x w' ∧ Below u.heap.size u w'
 d2 : ∀ u, Below w.heap.size w u → Calls Tryz.prog 16 #[.pointer (some ⟨R, 0, none⟩)] u fun e w' => ∃ x, e = .returned x ∧ IntsAt 0 [] x w' ∧ Below u.heap.size u w'
 n1 : ∀ u, Below w.heap.size w u → Calls Tryz.prog 27 #[.pointer (some ⟨P, 0, none⟩)] u fun e w' => e = .returned (.int .i64 nn) ∧ Below u.heap.size u w'
 n2 : ∀ u, Below w.heap.size w u → Calls Tryz.prog 28 #[.pointer (some ⟨X, 0, none⟩)] u fun e w' => e = .returned (.int .i64 nn) ∧ Below u.heap.size u w'
 i1 : ∀ u, Below w.heap.size w u → Calls Tryz.prog 29 #[.pointer (some ⟨P, 0, none⟩), .int .i64 k] u fun e w' => e = .returned (.bool bf) ∧ Below u.heap.size u w'
 i2 : ∀ u, Below w.heap.size w u → Calls Tryz.prog 30 #[.pointer (some ⟨X, 0, none⟩), .int .i64 k] u fun e w' => e = .returned (.bool bf) ∧ Below u.heap.size u w'
theorem ints_low {b : Nat} {l : List Nat} {x : Value} (h : IntsAt b l x w) : IntsAt 0 l x w := by
 refine ⟨h.1, ?_⟩
 rcases h.2 with h0 | ⟨g, cap, cur, hv, _, rest⟩
 · exact .inl h0
 · exact .inr ⟨g, cap, cur, hv, Nat.zero_le _, rest⟩
theorem ints_same (l : List Nat) (v1 v2 : Value) (h1 : IntsAt 0 l v1 w) (h2 : IntsAt 0 l v2 w) : Calls Tryz.prog 21 #[v1, v2] w fun e w' => e = .returned (.bool true) ∧ Below w.heap.size w w' := by
 have h := Dsk.rints_any 0 0 l l v1 v2 w h1 h2
 rw [show (l == l) = true from by simp] at h
 exact h
theorem eq_below {w' : World} (h : w = w') : Below w.heap.size w w' := h ▸ Below.refl _ _
theorem Sim.views (h : Sim W Z P L D X M R n N K w) (k : Int) : ∃ l fr nn bf, Views P D X R k l fr nn bf w := by
 obtain ⟨F, ch, t, b, bc, d, h1, h2, h3, h4, h5, h6⟩ := h.ex
 have e : d.dirty = [] := by unfold PD.dirty; rw [h4.cs]; rfl
 have low : ∀ (l : List Nat) (u : World) (e : Ending) (w' : World), (∃ x, e = .returned x ∧ IntsAt u.heap.size l x w' ∧ Below u.heap.size u w') → ∃ x, e = .returned x ∧ IntsAt 0 l x w' ∧ Below u.heap.size u w' := fun l u e w' ⟨x, a, b, c⟩ => ⟨x, a, ints_low b, c⟩
 have hi : ∃ bf : Bool, (∀ u, Below w.heap.size w u → Calls Tryz.prog 29 #[.pointer (some ⟨P, 0, none⟩), .int .i64 k] u fun e w' => e = .returned (.bool bf) ∧ Below u.heap.size u w') ∧ (∀ u, Below w.heap.size w u → Calls Tryz.prog 30 #[.pointer (some ⟨X, 0, none⟩), .int .i64 k] u fun e w' => e = .returned (.bool bf) ∧ Below u.heap.size u w') := by
   by_cases ho : off N k
   · exact ⟨false, fun u hb => (isfree_off k (h1.later hb) ho).mono fun e w' ⟨a, c⟩ => ⟨a, eq_below c⟩, fun u hb => rpisfree_off (h2.later hb) k ho⟩
   · obtain ⟨j, hj, hjN⟩ : ∃ j : Nat, k = (j : Int) ∧ j < N := ⟨k.toNat, by unfold off at ho; omega, by unfold off at ho; omega⟩
     subst hj
     exact ⟨_, fun u hb => isfree_in j (h1.later hb) hjN, fun u hb => rpisfree_in (h2.later hb) j hjN⟩
 obtain ⟨bf, hi1, hi2⟩ := hi
 refine ⟨nums ch, _, _, bf, fun u hb => (dirty_in (h1.later hb)).mono fun e w' hh => low _ u e w' hh, fun u hb => (rpdirty_any (h2.later hb)).mono fun e w' hh => low _ u e w' hh, fun u hb => frees_in (h1.later hb), fun u hb => rfrees_any (h2.later hb), fun u hb => ?_, fun u hb => ?_, fun u hb => (plen_any (h1.later hb)).mono fun e w' ⟨a, c⟩ => ⟨a, eq_below c⟩, fun u hb => rplen_any (h2.later hb), hi1, hi2⟩
 · have a1 := Dsk.m_dirty (mine_of (h1.later hb))
   rw [e] at a1
   exact a1.mono fun e w' hh => low _ u e w' hh
 · have a2 := Dsk.rdirty_any u (h2.later hb).rd.is
   rw [e] at a2
   exact a2.mono fun e w' hh => low _ u e w' hh
theorem DkR.badP (h : DkR W Z D R n N K w) (lg : Nat) (hl : lg ≤ 100000) (hbad : 2 + n + N < lg + 1) : Calls Tryz.prog 12 #[.pointer (some ⟨D, 0, none⟩), .int .i64 (lg : Int)] w fun e w' => e = .returned (.tuple #[.pointer none, .int .i64 1]) ∧ w = w' := by
 obtain ⟨F, d, hm, hr, _, hn, _⟩ := h.ex
 exact popen_arg hm lg hl (.inl (by omega))
theorem DkR.badR (h : DkR W Z D R n N K w) (lg : Nat) (h9 : 2 + n + N ≤ 4096) (hbad : 2 + n + N < lg + 1) : Calls Tryz.prog 13 #[.pointer (some ⟨R, 0, none⟩), .int .i64 (lg : Int)] w fun e w' => OpenA w e w' := by
 obtain ⟨F, d, hm, hr, _, hn, _⟩ := h.ex
 exact rpopen_arg hr lg (by omega) (.inl (by omega))
end
end Pgr
end Go.Proofs.YtkgbemkcnahkoaaGreatDoor
