import Derived.Test.YtkgbemkcnahkoaaGreatDoorZUdto
import Derived.Test.YtkgbemkcnahkoaaGreatDoorZUa
import Derived.Test.YtkgbemkcnahkoaaGreatDoorZPxto
namespace Go.Proofs.YtkgbemkcnahkoaaGreatDoor
open Go.RowKit
namespace Pgr
open Wal (Pair PL np)
open Dsk (PD Mine KeepQ RefIs Only Grow upd pad pad_len below_keeps zeros owns_later cell_later Opv)
open Crc (S S_of S_size)
section
variable {X M R P L D : Nat} {v : DV} {g : DL} {d d' : PD} {F T : Nat → Prop} {w w' W : World}
theorem RD.keepQ (h : RD R d T w) (hk : KeepQ T w w') (hl : ∀ k, T k → k < w'.heap.size) : RD R d T w' := ⟨h.is.keepQ hk hl, h.good, h.flen⟩
theorem RL.keepQ (h : RL M R g d F w) (hk : KeepQ F w w') (hl : ∀ k, F k → k < w'.heap.size) : RL M R g d F w' := by
 obtain ⟨Td, sl, h1, h2, h3, h4, h5⟩ := h.ex
 exact ⟨⟨Td, sl, h1.keepQ (fun k e => hk k (h4 k e).1) (fun k e => hl k (h4 k e).1), (hk M h.fM).trans h2, Dsk.ownsRow_of h3 (fun b e => hk b (h5 b e)), h4, h5⟩, h.fM, hl, h.ok, h.fit⟩
theorem RP.keepQ (h : RP X M R v g d F w) (hk : KeepQ F w w') (hl : ∀ k, F k → k < w'.heap.size) : RP X M R v g d F w' := by
 obtain ⟨Fl, sl, h1, h2, h3, h4, h5⟩ := h.ex
 exact ⟨⟨Fl, sl, h1.keepQ (fun k e => hk k (h4 k e).1) (fun k e => hl k (h4 k e).1), (hk X h.fX).trans h2, h3.of (fun b e => hk b (h5 b e)), h4, h5⟩, h.fX, hl, h.ok, h.sz, h.fit⟩
structure Ans where
 a : Int
 s : ByteArray
 c : Int
 ch : Ch
 d : PD
 t : Nat
 b : Nat
 hal : Bool
def Ans.val (r : Ans) : Value := .tuple #[.int .i64 r.a, .string r.s, .int .i64 r.c]
def least (m : List UInt8) (N : Nat) : Option Nat := (List.range N).find? (fun k => !useB m k)
theorem least_some {m : List UInt8} {N k : Nat} (hk : k < N) (hu : useB m k = false) (hl : ∀ j, j < k → useB m j = true) : least m N = some k := by
 unfold least
 rw [List.find?_range_eq_some]
 refine ⟨by rw [hu]; rfl, List.mem_range.2 hk, fun j hj => ?_⟩
 rw [hl j hj]; rfl
theorem least_none {m : List UInt8} {N : Nat} (hl : ∀ j, j < N → useB m j = true) : least m N = none := by
 unfold least
 rw [List.find?_eq_none]
 intro j hj
 rw [hl j (List.mem_range.1 hj)]; simp
def emp : ByteArray := ⟨#[]⟩
open Classical in
noncomputable def stepA (n N : Nat) (ch : Ch) (t b : Nat) (d : PD) (x : Opv) : Ans :=
 let V := over ch (pg (2 + n) d.f)
 let same (a : Int) (s : ByteArray) (c : Int) : Ans := ⟨a, s, c, ch, d, t, b, false⟩
 let chg (a : Int) (ch' : Ch) : Ans := ⟨a, emp, 0, ch', d, t, b, false⟩
 if x.kind = 0 then
   if off N x.pos then same 0 emp 2 else if x.pos = 0 then same 0 emp 1 else if 128 < x.s.size then same 0 emp 19 else chg 0 (put ch x.pos.toNat (pad x.s.data.toList))
 else if x.kind = 1 then
   match least (V 0) N with
   | some k => chg (k : Int) (allocCh ch (V 0) k)
   | none => same 0 emp 3
 else if x.kind = 2 then
   if off N x.pos then same 0 emp 2 else if x.pos = 0 then same 0 emp 1 else if useB (V 0) x.pos.toNat = false then same 0 emp 6 else chg 0 (put ch 0 (giveB (V 0) x.pos.toNat))
 else if x.kind = 3 then
   if ch = [] then same 0 emp 0 else if ¬ np (record ch) ≤ n then same 0 emp 3
   else if (run d (commitS n t ch)).1 = true then ⟨0, emp, 0, [], (run d (commitS n t ch)).2, t + 1, t + 1, false⟩ else ⟨0, emp, 6, ch, (run d (commitS n t ch)).2, t, b, true⟩
 else if x.kind = 4 then chg 0 []
 else if off N x.pos then same 0 emp 2 else same 0 (S (V x.pos.toNat)) 0
structure PA (W : World) (Q : Nat → Prop) (P L D n N : Nat) (r : Ans) (w w' : World) : Prop where
 on : r.hal = false → Pg W Q P L D ⟨2 + n, N, r.ch, false⟩ ⟨0, n, r.t, [], 0, false⟩ r.d w'
 off : Mine W Q D r.d w'
 keep : KeepQ Q w w'
structure RA (X M R n N : Nat) (r : Ans) (F : Nat → Prop) (w w' : World) : Prop where
 ex : ∃ F', To F F' w w' ∧ (r.hal = false → RP X M R ⟨n, N, r.ch, false⟩ ⟨n, r.t, r.b, 0, [], false⟩ r.d F' w') ∧ (∃ v g, v.halted = r.hal ∧ RP X M R v g r.d F' w')
theorem PA.of {n N : Nat} {r : Ans} (h : Pg W F P L D ⟨2 + n, N, r.ch, false⟩ ⟨0, n, r.t, [], 0, false⟩ r.d w') (hk : KeepQ F w w') : PA W F P L D n N r w w' := ⟨fun _ => h, mine_of h, hk⟩
theorem RA.of {n N : Nat} {r : Ans} {F' : Nat → Prop} (h0 : r.hal = false) (h : RP X M R ⟨n, N, r.ch, false⟩ ⟨n, r.t, r.b, 0, [], false⟩ r.d F' w') (ht : To F F' w w') : RA X M R n N r F w w' := ⟨⟨F', ht, fun _ => h, ⟨_, _, h0.symm, h⟩⟩⟩
end
theorem pos_cases (N : Nat) (p : Int) : off N p ∨ (¬ off N p ∧ p = 0) ∨ ∃ k : Nat, p = (k : Int) ∧ k < N ∧ k ≠ 0 ∧ ¬ off N p ∧ p ≠ 0 := by
 by_cases h : off N p
 · exact .inl h
 · by_cases h0 : p = 0
   · exact .inr (.inl ⟨h, h0⟩)
   · refine .inr (.inr ⟨p.toNat, ?_, ?_, ?_, h, h0⟩) <;> (unfold off at h; omega)
end Pgr
end Go.Proofs.YtkgbemkcnahkoaaGreatDoor
namespace Go.Proofs.YtkgbemkcnahkoaaGreatDoor
open Go.RowKit
namespace Pgr
open Wal (Pair PL np)
open Dsk (PD Mine KeepQ RefIs Only Grow upd pad pad_len below_keeps zeros owns_later cell_later Opv)
open Crc (S S_of S_size)
theorem not_not {p : Prop} : ¬ ¬ p ↔ p := ⟨fun h => Classical.byContradiction h, fun h k => k h⟩
section
variable {X M R P L D n N t b : Nat} {ch : Ch} {d : PD} {F : Nat → Prop} {w W : World}
theorem pa_write (h : Pg W F P L D ⟨2 + n, N, ch, false⟩ ⟨0, n, t, [], 0, false⟩ d w) (x : Opv) (hk : x.kind = 0) : Calls Tryz.prog 41 #[.pointer (some ⟨P, 0, none⟩), .int .i64 x.pos, .string x.s] w fun e w' => (e = .returned (.int .i64 (stepA n N ch t b d x).c) ∧ (stepA n N ch t b d x).a = 0 ∧ (stepA n N ch t b d x).s = emp) ∧ PA W F P L D n N (stepA n N ch t b d x) w w' := by
 rcases pos_cases N x.pos with ho | ⟨ho, h0⟩ | ⟨k, hp, hkN, hk0, ho, h0⟩
 · have e : stepA n N ch t b d x = ⟨0, emp, 2, ch, d, t, b, false⟩ := by
     unfold stepA
     dsimp only
     rw [if_pos hk, if_pos ho]
   rw [e]
   refine (write_off x.pos x.s h ho).mono fun en w' ⟨he, hw⟩ => ?_
   subst hw
   exact ⟨⟨he, rfl, rfl⟩, .of h (fun _ _ => rfl)⟩
 · have e : stepA n N ch t b d x = ⟨0, emp, 1, ch, d, t, b, false⟩ := by
     unfold stepA
     dsimp only
     rw [if_pos hk, if_neg ho, if_pos h0]
   rw [e]
   rw [h0]
   refine (write_zero x.s h).mono fun en w' ⟨he, hw⟩ => ?_
   subst hw
   exact ⟨⟨he, rfl, rfl⟩, .of h (fun _ _ => rfl)⟩
 · by_cases hs : 128 < x.s.size
   · have e : stepA n N ch t b d x = ⟨0, emp, 19, ch, d, t, b, false⟩ := by
       unfold stepA
       dsimp only
       rw [if_pos hk, if_neg ho, if_neg h0, if_pos hs]
     rw [e]
     rw [hp]
     refine (write_big k x.s hs h hkN hk0).mono fun en w' ⟨he, hw⟩ => ?_
     subst hw
     exact ⟨⟨he, rfl, rfl⟩, .of h (fun _ _ => rfl)⟩
   · have e : stepA n N ch t b d x = ⟨0, emp, 0, put ch k (pad x.s.data.toList), d, t, b, false⟩ := by
       unfold stepA
       dsimp only
       rw [if_pos hk, if_neg ho, if_neg h0, if_neg hs, hp, Int.toNat_natCast]
     rw [e]
     rw [hp]
     refine (write_in k x.s (by omega) h hkN hk0).mono fun en w' ⟨he, hp, hq⟩ => ?_
     exact ⟨⟨he, rfl, rfl⟩, .of hp hq⟩
theorem pa_alloc (h : Pg W F P L D ⟨2 + n, N, ch, false⟩ ⟨0, n, t, [], 0, false⟩ d w) (x : Opv) (hk : x.kind = 1) : Calls Tryz.prog 38 #[.pointer (some ⟨P, 0, none⟩)] w fun e w' => (e = .returned (.tuple #[.int .i64 (stepA n N ch t b d x).a, .int .i64 (stepA n N ch t b d x).c]) ∧ (stepA n N ch t b d x).s = emp) ∧ PA W F P L D n N (stepA n N ch t b d x) w w' := by
 have k0 : ¬ x.kind = 0 := by omega
 refine (alloc_in h).mono fun en w' hA => ?_
 rcases hA with ⟨k, hkN, hk0, hu, hl, he, hp, hq⟩ | ⟨hl, he, hb⟩
 · have e : stepA n N ch t b d x = ⟨(k : Int), emp, 0, allocCh ch (over ch (pg (2 + n) d.f) 0) k, d, t, b, false⟩ := by
     unfold stepA
     dsimp only
     rw [if_neg k0, if_pos hk, show least (over ch (pg (2 + n) d.f) 0) N = some k from least_some hkN hu hl]
   rw [e]
   exact ⟨⟨he, rfl⟩, .of hp hq⟩
 · have e : stepA n N ch t b d x = ⟨0, emp, 3, ch, d, t, b, false⟩ := by
     unfold stepA
     dsimp only
     rw [if_neg k0, if_pos hk, show least (over ch (pg (2 + n) d.f) 0) N = none from least_none hl]
   rw [e]
   exact ⟨⟨he, rfl⟩, .of (h.later hb) (h.kept hb)⟩
theorem pa_free (h : Pg W F P L D ⟨2 + n, N, ch, false⟩ ⟨0, n, t, [], 0, false⟩ d w) (x : Opv) (hk : x.kind = 2) : Calls Tryz.prog 42 #[.pointer (some ⟨P, 0, none⟩), .int .i64 x.pos] w fun e w' => (e = .returned (.int .i64 (stepA n N ch t b d x).c) ∧ (stepA n N ch t b d x).a = 0 ∧ (stepA n N ch t b d x).s = emp) ∧ PA W F P L D n N (stepA n N ch t b d x) w w' := by
 have k0 : ¬ x.kind = 0 := by omega
 have k1 : ¬ x.kind = 1 := by omega
 rcases pos_cases N x.pos with ho | ⟨ho, h0⟩ | ⟨k, hp, hkN, hk0, ho, h0⟩
 · have e : stepA n N ch t b d x = ⟨0, emp, 2, ch, d, t, b, false⟩ := by
     unfold stepA
     dsimp only
     rw [if_neg k0, if_neg k1, if_pos hk, if_pos ho]
   rw [e]
   refine (free_off x.pos h ho).mono fun en w' ⟨he, hw⟩ => ?_
   subst hw
   exact ⟨⟨he, rfl, rfl⟩, .of h (fun _ _ => rfl)⟩
 · have e : stepA n N ch t b d x = ⟨0, emp, 1, ch, d, t, b, false⟩ := by
     unfold stepA
     dsimp only
     rw [if_neg k0, if_neg k1, if_pos hk, if_neg ho, if_pos h0]
   rw [e]
   rw [h0]
   refine (free_zero h).mono fun en w' ⟨he, hw⟩ => ?_
   subst hw
   exact ⟨⟨he, rfl, rfl⟩, .of h (fun _ _ => rfl)⟩
 · rcases hu : useB (over ch (pg (2 + n) d.f) 0) k with _ | _
   · have e : stepA n N ch t b d x = ⟨0, emp, 6, ch, d, t, b, false⟩ := by
       unfold stepA
       dsimp only
       rw [if_neg k0, if_neg k1, if_pos hk, if_neg ho, if_neg h0, hp, Int.toNat_natCast, if_pos hu]
     rw [e]
     rw [hp]
     refine (free_idle k h hkN hk0 hu).mono fun en w' ⟨he, hb⟩ => ?_
     exact ⟨⟨he, rfl, rfl⟩, .of (h.later hb) (h.kept hb)⟩
   · have e : stepA n N ch t b d x = ⟨0, emp, 0, put ch 0 (giveB (over ch (pg (2 + n) d.f) 0) k), d, t, b, false⟩ := by
       unfold stepA
       dsimp only
       rw [if_neg k0, if_neg k1, if_pos hk, if_neg ho, if_neg h0, hp, Int.toNat_natCast, if_neg (by rw [hu]; decide)]
     rw [e]
     rw [hp]
     refine (free_in k h hkN hk0 hu).mono fun en w' ⟨he, hp, hq⟩ => ?_
     exact ⟨⟨he, rfl, rfl⟩, .of hp hq⟩
theorem pa_commit (h : Pg W F P L D ⟨2 + n, N, ch, false⟩ ⟨0, n, t, [], 0, false⟩ d w) (x : Opv) (hk : x.kind = 3) (hn9 : n ≤ 998) (ht : t + 1 < 1099511627776) (hc : d.cs.length ≤ 700000) (hw : d.wr ≤ 700000) (hf : d.fl ≤ 700000) : Calls Tryz.prog 35 #[.pointer (some ⟨P, 0, none⟩)] w fun e w' => (e = .returned (.int .i64 (stepA n N ch t b d x).c) ∧ (stepA n N ch t b d x).a = 0 ∧ (stepA n N ch t b d x).s = emp) ∧ PA W F P L D n N (stepA n N ch t b d x) w w' := by
 have k0 : ¬ x.kind = 0 := by omega
 have k1 : ¬ x.kind = 1 := by omega
 have k2 : ¬ x.kind = 2 := by omega
 by_cases hch : ch = []
 · have e : stepA n N ch t b d x = ⟨0, emp, 0, ch, d, t, b, false⟩ := by
     unfold stepA
     dsimp only
     rw [if_neg k0, if_neg k1, if_neg k2, if_pos hk, if_pos hch]
   rw [e]
   subst hch
   refine (pcommit_idle h rfl rfl).mono fun en w' ⟨he, hw⟩ => ?_
   subst hw
   exact ⟨⟨he, rfl, rfl⟩, .of h (fun _ _ => rfl)⟩
 · by_cases hr : np (record ch) ≤ n
   · refine (pcommit_in h rfl hch rfl (by omega) (by omega) hr (by omega) (by omega) (by omega)).mono fun en w' hC => ?_
     rcases hC with ⟨he, hy, hp, hq⟩ | ⟨he, hy, ⟨g', hp⟩, hq⟩
     · have e : stepA n N ch t b d x = ⟨0, emp, 0, [], (run d (commitS n t ch)).2, t + 1, t + 1, false⟩ := by
         unfold stepA
         dsimp only
         rw [if_neg k0, if_neg k1, if_neg k2, if_pos hk, if_neg hch, if_neg (not_not.2 hr), if_pos hy]
       rw [e]
       exact ⟨⟨he, rfl, rfl⟩, .of hp hq⟩
     · have e : stepA n N ch t b d x = ⟨0, emp, 6, ch, (run d (commitS n t ch)).2, t, b, true⟩ := by
         unfold stepA
         dsimp only
         rw [if_neg k0, if_neg k1, if_neg k2, if_pos hk, if_neg hch, if_neg (not_not.2 hr), if_neg (by rw [hy]; decide)]
       rw [e]
       exact ⟨⟨he, rfl, rfl⟩, ⟨fun e => (by cases e), mine_of hp, hq⟩⟩
   · have e : stepA n N ch t b d x = ⟨0, emp, 3, ch, d, t, b, false⟩ := by
       unfold stepA
       dsimp only
       rw [if_neg k0, if_neg k1, if_neg k2, if_pos hk, if_neg hch, if_pos hr]
     rw [e]
     refine (pcommit_full h rfl hch hr).mono fun en w' ⟨he, hb⟩ => ?_
     exact ⟨⟨he, rfl, rfl⟩, .of (h.later hb) (h.kept hb)⟩
theorem pa_read (h : Pg W F P L D ⟨2 + n, N, ch, false⟩ ⟨0, n, t, [], 0, false⟩ d w) (x : Opv) (k0 : ¬ x.kind = 0) (k1 : ¬ x.kind = 1) (k2 : ¬ x.kind = 2) (k3 : ¬ x.kind = 3) (k4 : ¬ x.kind = 4) : Calls Tryz.prog 39 #[.pointer (some ⟨P, 0, none⟩), .int .i64 x.pos] w fun e w' => (e = .returned (.tuple #[.string (stepA n N ch t b d x).s, .int .i64 (stepA n N ch t b d x).c]) ∧ (stepA n N ch t b d x).a = 0) ∧ PA W F P L D n N (stepA n N ch t b d x) w w' := by
 by_cases ho : off N x.pos
 · have e : stepA n N ch t b d x = ⟨0, emp, 2, ch, d, t, b, false⟩ := by
     unfold stepA
     dsimp only
     rw [if_neg k0, if_neg k1, if_neg k2, if_neg k3, if_neg k4, if_pos ho]
   rw [e]
   refine (read_off x.pos h ho).mono fun en w' ⟨he, hw⟩ => ?_
   subst hw
   exact ⟨⟨he, rfl⟩, .of h (fun _ _ => rfl)⟩
 · obtain ⟨k, hp, hk⟩ : ∃ k : Nat, x.pos = (k : Int) ∧ k < N := ⟨x.pos.toNat, by unfold off at ho; omega, by unfold off at ho; omega⟩
   have e : stepA n N ch t b d x = ⟨0, S (over ch (pg (2 + n) d.f) k), 0, ch, d, t, b, false⟩ := by
     unfold stepA
     dsimp only
     rw [if_neg k0, if_neg k1, if_neg k2, if_neg k3, if_neg k4, if_neg ho, hp, Int.toNat_natCast]
   rw [e]
   rw [hp]
   refine (read_in k h hk).mono fun en w' ⟨he, hb⟩ => ?_
   exact ⟨⟨he, rfl⟩, .of (h.later hb) (h.kept hb)⟩
theorem ra_write (h : RP X M R ⟨n, N, ch, false⟩ ⟨n, t, b, 0, [], false⟩ d F w) (x : Opv) (hk : x.kind = 0) : Calls Tryz.prog 54 #[.pointer (some ⟨X, 0, none⟩), .int .i64 x.pos, .string x.s] w fun e w' => (e = .returned (.int .i64 (stepA n N ch t b d x).c) ∧ (stepA n N ch t b d x).a = 0 ∧ (stepA n N ch t b d x).s = emp) ∧ RA X M R n N (stepA n N ch t b d x) F w w' := by
 rcases pos_cases N x.pos with ho | ⟨ho, h0⟩ | ⟨k, hp, hkN, hk0, ho, h0⟩
 · have e : stepA n N ch t b d x = ⟨0, emp, 2, ch, d, t, b, false⟩ := by
     unfold stepA
     dsimp only
     rw [if_pos hk, if_pos ho]
   rw [e]
   refine (rwrite_out h x.pos x.s ho).mono fun en w' ⟨he, hb⟩ => ?_
   exact ⟨⟨he, rfl, rfl⟩, .of rfl (h.later hb) (.below hb)⟩
 · have e : stepA n N ch t b d x = ⟨0, emp, 1, ch, d, t, b, false⟩ := by
     unfold stepA
     dsimp only
     rw [if_pos hk, if_neg ho, if_pos h0]
   rw [e]
   rw [h0]
   refine (rwrite_zero h x.s).mono fun en w' ⟨he, hb⟩ => ?_
   exact ⟨⟨he, rfl, rfl⟩, .of rfl (h.later hb) (.below hb)⟩
 · by_cases hs : 128 < x.s.size
   · have e : stepA n N ch t b d x = ⟨0, emp, 19, ch, d, t, b, false⟩ := by
       unfold stepA
       dsimp only
       rw [if_pos hk, if_neg ho, if_neg h0, if_pos hs]
     rw [e]
     rw [hp]
     refine (rwrite_big h k x.s hs hkN hk0).mono fun en w' ⟨he, hb⟩ => ?_
     exact ⟨⟨he, rfl, rfl⟩, .of rfl (h.later hb) (.below hb)⟩
   · have e : stepA n N ch t b d x = ⟨0, emp, 0, put ch k (pad x.s.data.toList), d, t, b, false⟩ := by
       unfold stepA
       dsimp only
       rw [if_pos hk, if_neg ho, if_neg h0, if_neg hs, hp, Int.toNat_natCast]
     rw [e]
     rw [hp]
     refine (rwrite_in h k x.s (by omega) hkN hk0).mono fun en w' ⟨⟨F', he, hp, ht⟩⟩ => ?_
     exact ⟨⟨he, rfl, rfl⟩, .of rfl hp ht⟩
theorem ra_alloc (h : RP X M R ⟨n, N, ch, false⟩ ⟨n, t, b, 0, [], false⟩ d F w) (x : Opv) (hk : x.kind = 1) : Calls Tryz.prog 55 #[.pointer (some ⟨X, 0, none⟩)] w fun e w' => (e = .returned (.tuple #[.int .i64 (stepA n N ch t b d x).a, .int .i64 (stepA n N ch t b d x).c]) ∧ (stepA n N ch t b d x).s = emp) ∧ RA X M R n N (stepA n N ch t b d x) F w w' := by
 have k0 : ¬ x.kind = 0 := by omega
 refine (ralloc_any h).mono fun en w' hA => ?_
 rcases hA with ⟨k, hkN, hk0, hu, hl, he, F', hp, ht⟩ | ⟨hl, he, hb⟩
 · have e : stepA n N ch t b d x = ⟨(k : Int), emp, 0, allocCh ch (over ch (pg (2 + n) d.f) 0) k, d, t, b, false⟩ := by
     unfold stepA
     dsimp only
     rw [if_neg k0, if_pos hk, show least (over ch (pg (2 + n) d.f) 0) N = some k from least_some hkN hu hl]
   rw [e]
   exact ⟨⟨he, rfl⟩, .of rfl hp ht⟩
 · have e : stepA n N ch t b d x = ⟨0, emp, 3, ch, d, t, b, false⟩ := by
     unfold stepA
     dsimp only
     rw [if_neg k0, if_pos hk, show least (over ch (pg (2 + n) d.f) 0) N = none from least_none hl]
   rw [e]
   exact ⟨⟨he, rfl⟩, .of rfl (h.later hb) (.below hb)⟩
theorem ra_free (h : RP X M R ⟨n, N, ch, false⟩ ⟨n, t, b, 0, [], false⟩ d F w) (x : Opv) (hk : x.kind = 2) : Calls Tryz.prog 56 #[.pointer (some ⟨X, 0, none⟩), .int .i64 x.pos] w fun e w' => (e = .returned (.int .i64 (stepA n N ch t b d x).c) ∧ (stepA n N ch t b d x).a = 0 ∧ (stepA n N ch t b d x).s = emp) ∧ RA X M R n N (stepA n N ch t b d x) F w w' := by
 have k0 : ¬ x.kind = 0 := by omega
 have k1 : ¬ x.kind = 1 := by omega
 rcases pos_cases N x.pos with ho | ⟨ho, h0⟩ | ⟨k, hp, hkN, hk0, ho, h0⟩
 · have e : stepA n N ch t b d x = ⟨0, emp, 2, ch, d, t, b, false⟩ := by
     unfold stepA
     dsimp only
     rw [if_neg k0, if_neg k1, if_pos hk, if_pos ho]
   rw [e]
   refine (rfree_out h x.pos ho).mono fun en w' ⟨he, hb⟩ => ?_
   exact ⟨⟨he, rfl, rfl⟩, .of rfl (h.later hb) (.below hb)⟩
 · have e : stepA n N ch t b d x = ⟨0, emp, 1, ch, d, t, b, false⟩ := by
     unfold stepA
     dsimp only
     rw [if_neg k0, if_neg k1, if_pos hk, if_neg ho, if_pos h0]
   rw [e]
   rw [h0]
   refine (rfree_zero h).mono fun en w' ⟨he, hb⟩ => ?_
   exact ⟨⟨he, rfl, rfl⟩, .of rfl (h.later hb) (.below hb)⟩
 · rcases hu : useB (over ch (pg (2 + n) d.f) 0) k with _ | _
   · have e : stepA n N ch t b d x = ⟨0, emp, 6, ch, d, t, b, false⟩ := by
       unfold stepA
       dsimp only
       rw [if_neg k0, if_neg k1, if_pos hk, if_neg ho, if_neg h0, hp, Int.toNat_natCast, if_pos hu]
     rw [e]
     rw [hp]
     refine (rfree_idle h k hkN hk0 hu).mono fun en w' ⟨he, hb⟩ => ?_
     exact ⟨⟨he, rfl, rfl⟩, .of rfl (h.later hb) (.below hb)⟩
   · have e : stepA n N ch t b d x = ⟨0, emp, 0, put ch 0 (giveB (over ch (pg (2 + n) d.f) 0) k), d, t, b, false⟩ := by
       unfold stepA
       dsimp only
       rw [if_neg k0, if_neg k1, if_pos hk, if_neg ho, if_neg h0, hp, Int.toNat_natCast, if_neg (by rw [hu]; decide)]
     rw [e]
     rw [hp]
     refine (rfree_in h k hkN hk0 hu).mono fun en w' ⟨⟨F', he, hp, ht⟩⟩ => ?_
     exact ⟨⟨he, rfl, rfl⟩, .of rfl hp ht⟩
theorem ra_commit (h : RP X M R ⟨n, N, ch, false⟩ ⟨n, t, b, 0, [], false⟩ d F w) (x : Opv) (hk : x.kind = 3) (hn2 : 2 ≤ n) (hrl : (record ch).length ≤ 100000) (ht : t + 1 < 1099511627776) (hc : d.cs.length ≤ 700000) (hw : d.wr ≤ 700000) (hf : d.fl ≤ 700000) : Calls Tryz.prog 57 #[.pointer (some ⟨X, 0, none⟩)] w fun e w' => (e = .returned (.int .i64 (stepA n N ch t b d x).c) ∧ (stepA n N ch t b d x).a = 0 ∧ (stepA n N ch t b d x).s = emp) ∧ RA X M R n N (stepA n N ch t b d x) F w w' := by
 have k0 : ¬ x.kind = 0 := by omega
 have k1 : ¬ x.kind = 1 := by omega
 have k2 : ¬ x.kind = 2 := by omega
 by_cases hch : ch = []
 · have e : stepA n N ch t b d x = ⟨0, emp, 0, ch, d, t, b, false⟩ := by
     unfold stepA
     dsimp only
     rw [if_neg k0, if_neg k1, if_neg k2, if_pos hk, if_pos hch]
   rw [e]
   subst hch
   refine (rpcommit_idle h).mono fun en w' ⟨he, hw⟩ => ?_
   subst hw
   exact ⟨⟨he, rfl, rfl⟩, .of rfl h .refl⟩
 · by_cases hr : np (record ch) ≤ n
   · refine (rpcommit_in h hch hr hn2 hrl (by omega) (by omega) (by omega) (by omega)).mono fun en w' hC => ?_
     rcases hC with ⟨he, hy, F', hp, ht⟩ | ⟨he, hy, F', g', hp, ht⟩
     · have e : stepA n N ch t b d x = ⟨0, emp, 0, [], (run d (commitS n t ch)).2, t + 1, t + 1, false⟩ := by
         unfold stepA
         dsimp only
         rw [if_neg k0, if_neg k1, if_neg k2, if_pos hk, if_neg hch, if_neg (not_not.2 hr), if_pos hy]
       rw [e]
       exact ⟨⟨he, rfl, rfl⟩, .of rfl hp ht⟩
     · have e : stepA n N ch t b d x = ⟨0, emp, 6, ch, (run d (commitS n t ch)).2, t, b, true⟩ := by
         unfold stepA
         dsimp only
         rw [if_neg k0, if_neg k1, if_neg k2, if_pos hk, if_neg hch, if_neg (not_not.2 hr), if_neg (by rw [hy]; decide)]
       rw [e]
       exact ⟨⟨he, rfl, rfl⟩, ⟨F', ht, fun e => (by cases e), _, _, rfl, hp⟩⟩
   · have e : stepA n N ch t b d x = ⟨0, emp, 3, ch, d, t, b, false⟩ := by
       unfold stepA
       dsimp only
       rw [if_neg k0, if_neg k1, if_neg k2, if_pos hk, if_neg hch, if_pos hr]
     rw [e]
     refine (rpcommit_full h hch hr hrl).mono fun en w' ⟨he, hb⟩ => ?_
     exact ⟨⟨he, rfl, rfl⟩, .of rfl (h.later hb) (.below hb)⟩
theorem ra_read (h : RP X M R ⟨n, N, ch, false⟩ ⟨n, t, b, 0, [], false⟩ d F w) (x : Opv) (k0 : ¬ x.kind = 0) (k1 : ¬ x.kind = 1) (k2 : ¬ x.kind = 2) (k3 : ¬ x.kind = 3) (k4 : ¬ x.kind = 4) : Calls Tryz.prog 58 #[.pointer (some ⟨X, 0, none⟩), .int .i64 x.pos] w fun e w' => (e = .returned (.tuple #[.string (stepA n N ch t b d x).s, .int .i64 (stepA n N ch t b d x).c]) ∧ (stepA n N ch t b d x).a = 0) ∧ RA X M R n N (stepA n N ch t b d x) F w w' := by
 by_cases ho : off N x.pos
 · have e : stepA n N ch t b d x = ⟨0, emp, 2, ch, d, t, b, false⟩ := by
     unfold stepA
     dsimp only
     rw [if_neg k0, if_neg k1, if_neg k2, if_neg k3, if_neg k4, if_pos ho]
   rw [e]
   refine (rpread_off h x.pos ho).mono fun en w' ⟨he, hb⟩ => ?_
   exact ⟨⟨he, rfl⟩, .of rfl (h.later hb) (.below hb)⟩
 · obtain ⟨k, hp, hk⟩ : ∃ k : Nat, x.pos = (k : Int) ∧ k < N := ⟨x.pos.toNat, by unfold off at ho; omega, by unfold off at ho; omega⟩
   have e : stepA n N ch t b d x = ⟨0, S (over ch (pg (2 + n) d.f) k), 0, ch, d, t, b, false⟩ := by
     unfold stepA
     dsimp only
     rw [if_neg k0, if_neg k1, if_neg k2, if_neg k3, if_neg k4, if_neg ho, hp, Int.toNat_natCast]
   rw [e]
   rw [hp]
   refine (rpread_in h k hk).mono fun en w' ⟨he, hb⟩ => ?_
   exact ⟨⟨he, rfl⟩, .of rfl (h.later hb) (.below hb)⟩
end
end Pgr
end Go.Proofs.YtkgbemkcnahkoaaGreatDoor
namespace Go.Proofs.YtkgbemkcnahkoaaGreatDoor
open Go.RowKit
namespace Pgr
open Wal (Pair PL np)
open Dsk (PD Mine KeepQ RefIs Only Grow upd pad pad_len below_keeps zeros owns_later cell_later Opv)
open Crc (S S_of S_size)
section
variable {X M R P L D n N t b : Nat} {ch : Ch} {d : PD} {F F2 : Nat → Prop} {w w' u W : World} {r : Ans}
theorem PA.back (h : PA W F P L D n N r u w') (hk : KeepQ F w u) : PA W F P L D n N r w w' := ⟨h.on, h.off, hk.trans h.keep⟩
theorem RA.back (h : RA X M R n N r F u w') (hb : Below w.heap.size w u) : RA X M R n N r F w w' := by
 obtain ⟨F', ht, h1, h2⟩ := h.ex
 exact ⟨⟨F', (To.below hb).trans ht, h1, h2⟩⟩
set_option maxHeartbeats 4000000 in
set_option maxRecDepth 100000 in
theorem pa_do (x : Opv) (hx : x.inn) (h : Pg W F P L D ⟨2 + n, N, ch, false⟩ ⟨0, n, t, [], 0, false⟩ d w) (hn9 : n ≤ 998) (ht : t + 1 < 1099511627776) (hc : d.cs.length ≤ 700000) (hw : d.wr ≤ 700000) (hf : d.fl ≤ 700000) : Calls Tryz.prog 19 #[.pointer (some ⟨P, 0, none⟩), opV x] w fun e w' => e = .returned (stepA n N ch t b d x).val ∧ PA W F P L D n N (stepA n N ch t b d x) w w' := by
 have HP := hidm h
 have HX := hidm hx
 have hba := fun o : Obj => (Below.refl w.heap.size w).alloc (Nat.le_refl _) o
 have HBA := hidm hba
 clear hba hx
 obtain ⟨k, p, s, ks, ko, kc⟩ := x
 obtain ⟨r, hr⟩ : ∃ r, r = stepA n N ch t b d ⟨k, p, s, ks, ko, kc⟩ := ⟨_, rfl⟩
 rw [← hr]
 unfold opV
 dsimp only
 by_cases hk0 : k = 0
 · subst hk0
   have U := hidm (fun o => pa_write (b := b) (HP.out.later (HBA.out o)) ⟨0, p, s, ks, ko, kc⟩ rfl)
   rw [← hr] at U
   clear ht hc hw hf hn9 hr h
   go_enter Tryz.func19, Tryz.ntmps19
   go_wp2_with fail
   refine (U.out _).mono ?_
   rintro e w2 ⟨⟨rfl, ha, hs⟩, hp⟩
   have HP2 := hidm (hp.back ((HP.out.kept (HBA.out _))))
   clear hp
   go_wp2_with fail
   go_ret3
   exact ⟨by unfold Ans.val; rw [ha, hs]; rfl, HP2.out⟩
 · have g0 : (k == 0) = false := by simpa using hk0
   by_cases hk1 : k = 1
   · subst hk1
     have U := hidm (fun o => pa_alloc (b := b) (HP.out.later (HBA.out o)) ⟨1, p, s, ks, ko, kc⟩ rfl)
     rw [← hr] at U
     clear ht hc hw hf hn9 hk0 g0 hr h
     go_enter Tryz.func19, Tryz.ntmps19
     go_wp2_with fail
     refine (U.out _).mono ?_
     rintro e w2 ⟨⟨rfl, hs⟩, hp⟩
     have HP2 := hidm (hp.back ((HP.out.kept (HBA.out _))))
     clear hp
     go_wp2_with fail
     go_ret3
     exact ⟨by unfold Ans.val; rw [hs]; rfl, HP2.out⟩
   · have g1 : (k == 1) = false := by simpa using hk1
     by_cases hk2 : k = 2
     · subst hk2
       have U := hidm (fun o => pa_free (b := b) (HP.out.later (HBA.out o)) ⟨2, p, s, ks, ko, kc⟩ rfl)
       rw [← hr] at U
       clear ht hc hw hf hn9 hk0 g0 hk1 g1 hr h
       go_enter Tryz.func19, Tryz.ntmps19
       go_wp2_with fail
       refine (U.out _).mono ?_
       rintro e w2 ⟨⟨rfl, ha, hs⟩, hp⟩
       have HP2 := hidm (hp.back ((HP.out.kept (HBA.out _))))
       clear hp
       go_wp2_with fail
       go_ret3
       exact ⟨by unfold Ans.val; rw [ha, hs]; rfl, HP2.out⟩
     · have g2 : (k == 2) = false := by simpa using hk2
       by_cases hk3 : k = 3
       · subst hk3
         have U := hidm (fun o => pa_commit (b := b) (HP.out.later (HBA.out o)) ⟨3, p, s, ks, ko, kc⟩ rfl hn9 ht hc hw hf)
         rw [← hr] at U
         clear ht hc hw hf hn9 hk0 g0 hk1 g1 hk2 g2 hr h
         go_enter Tryz.func19, Tryz.ntmps19
         go_wp2_with fail
         refine (U.out _).mono ?_
         rintro e w2 ⟨⟨rfl, ha, hs⟩, hp⟩
         have HP2 := hidm (hp.back ((HP.out.kept (HBA.out _))))
         clear hp
         go_wp2_with fail
         go_ret3
         exact ⟨by unfold Ans.val; rw [ha, hs]; rfl, HP2.out⟩
       · have g3 : (k == 3) = false := by simpa using hk3
         by_cases hk4 : k = 4
         · subst hk4
           have HR4 := hidm (show r = ⟨0, emp, 0, [], d, t, b, false⟩ from by
             rw [hr]
             unfold stepA
             dsimp only
             rw [if_neg (by decide), if_neg (by decide), if_neg (by decide), if_neg (by decide), if_pos rfl])
           clear ht hc hw hf hn9 hk0 g0 hk1 g1 hk2 g2 hk3 g3 hr h
           go_enter Tryz.func19, Tryz.ntmps19
           go_wp2_with fail
           refine (abort_in (HP.out.later (HBA.out _))).mono ?_
           rintro e w2 ⟨rfl, hp, hq⟩
           have HP2 := hidm hp
           have HQ2 := hidm ((HP.out.kept (HBA.out _)).trans hq)
           clear hp hq
           go_wp2_with fail
           go_ret3
           rw [HR4.out]
           exact ⟨rfl, .of HP2.out HQ2.out⟩
         · have g4 : (k == 4) = false := by simpa using hk4
           have U := hidm (fun o => pa_read (b := b) (HP.out.later (HBA.out o)) ⟨k, p, s, ks, ko, kc⟩ hk0 hk1 hk2 hk3 hk4)
           rw [← hr] at U
           clear ht hc hw hf hn9 hr h
           go_enter Tryz.func19, Tryz.ntmps19
           go_wp2_with fail
           refine (U.out _).mono ?_
           rintro e w2 ⟨⟨rfl, ha⟩, hp⟩
           have HP2 := hidm (hp.back ((HP.out.kept (HBA.out _))))
           clear hp
           go_wp2_with fail
           go_ret3
           exact ⟨by unfold Ans.val; rw [ha]; rfl, HP2.out⟩
set_option maxHeartbeats 4000000 in
set_option maxRecDepth 100000 in
theorem ra_do (x : Opv) (hx : x.inn) (h : RP X M R ⟨n, N, ch, false⟩ ⟨n, t, b, 0, [], false⟩ d F w) (hn2 : 2 ≤ n) (hrl : (record ch).length ≤ 100000) (ht : t + 1 < 1099511627776) (hc : d.cs.length ≤ 700000) (hw : d.wr ≤ 700000) (hf : d.fl ≤ 700000) : Calls Tryz.prog 20 #[.pointer (some ⟨X, 0, none⟩), opV x] w fun e w' => e = .returned (stepA n N ch t b d x).val ∧ RA X M R n N (stepA n N ch t b d x) F w w' := by
 have HP := hidm h
 have HX := hidm hx
 have hba := fun o : Obj => (Below.refl w.heap.size w).alloc (Nat.le_refl _) o
 have HBA := hidm hba
 clear hba hx
 obtain ⟨k, p, s, ks, ko, kc⟩ := x
 obtain ⟨r, hr⟩ : ∃ r, r = stepA n N ch t b d ⟨k, p, s, ks, ko, kc⟩ := ⟨_, rfl⟩
 rw [← hr]
 unfold opV
 dsimp only
 by_cases hk0 : k = 0
 · subst hk0
   have U := hidm (fun o => ra_write (b := b) (HP.out.later (HBA.out o)) ⟨0, p, s, ks, ko, kc⟩ rfl)
   rw [← hr] at U
   clear ht hc hw hf hn2 hrl hr h
   go_enter Tryz.func20, Tryz.ntmps20
   go_wp2_with fail
   refine (U.out _).mono ?_
   rintro e w2 ⟨⟨rfl, ha, hs⟩, hp⟩
   have HP2 := hidm (hp.back (HBA.out _))
   clear hp
   go_wp2_with fail
   go_ret3
   exact ⟨by unfold Ans.val; rw [ha, hs]; rfl, HP2.out⟩
 · have g0 : (k == 0) = false := by simpa using hk0
   by_cases hk1 : k = 1
   · subst hk1
     have U := hidm (fun o => ra_alloc (b := b) (HP.out.later (HBA.out o)) ⟨1, p, s, ks, ko, kc⟩ rfl)
     rw [← hr] at U
     clear ht hc hw hf hn2 hrl hk0 g0 hr h
     go_enter Tryz.func20, Tryz.ntmps20
     go_wp2_with fail
     refine (U.out _).mono ?_
     rintro e w2 ⟨⟨rfl, hs⟩, hp⟩
     have HP2 := hidm (hp.back (HBA.out _))
     clear hp
     go_wp2_with fail
     go_ret3
     exact ⟨by unfold Ans.val; rw [hs]; rfl, HP2.out⟩
   · have g1 : (k == 1) = false := by simpa using hk1
     by_cases hk2 : k = 2
     · subst hk2
       have U := hidm (fun o => ra_free (b := b) (HP.out.later (HBA.out o)) ⟨2, p, s, ks, ko, kc⟩ rfl)
       rw [← hr] at U
       clear ht hc hw hf hn2 hrl hk0 g0 hk1 g1 hr h
       go_enter Tryz.func20, Tryz.ntmps20
       go_wp2_with fail
       refine (U.out _).mono ?_
       rintro e w2 ⟨⟨rfl, ha, hs⟩, hp⟩
       have HP2 := hidm (hp.back (HBA.out _))
       clear hp
       go_wp2_with fail
       go_ret3
       exact ⟨by unfold Ans.val; rw [ha, hs]; rfl, HP2.out⟩
     · have g2 : (k == 2) = false := by simpa using hk2
       by_cases hk3 : k = 3
       · subst hk3
         have U := hidm (fun o => ra_commit (b := b) (HP.out.later (HBA.out o)) ⟨3, p, s, ks, ko, kc⟩ rfl hn2 hrl ht hc hw hf)
         rw [← hr] at U
         clear ht hc hw hf hn2 hrl hk0 g0 hk1 g1 hk2 g2 hr h
         go_enter Tryz.func20, Tryz.ntmps20
         go_wp2_with fail
         refine (U.out _).mono ?_
         rintro e w2 ⟨⟨rfl, ha, hs⟩, hp⟩
         have HP2 := hidm (hp.back (HBA.out _))
         clear hp
         go_wp2_with fail
         go_ret3
         exact ⟨by unfold Ans.val; rw [ha, hs]; rfl, HP2.out⟩
       · have g3 : (k == 3) = false := by simpa using hk3
         by_cases hk4 : k = 4
         · subst hk4
           have HR4 := hidm (show r = ⟨0, emp, 0, [], d, t, b, false⟩ from by
             rw [hr]
             unfold stepA
             dsimp only
             rw [if_neg (by decide), if_neg (by decide), if_neg (by decide), if_neg (by decide), if_pos rfl])
           clear ht hc hw hf hn2 hrl hk0 g0 hk1 g1 hk2 g2 hk3 g3 hr h
           go_enter Tryz.func20, Tryz.ntmps20
           go_upto_region 12 with fail
           obtain ⟨w1, hw1⟩ : ∃ x, x = w.alloc (.cells #[.int .i64 4, .int .i64 p, .string s, .slice ko ks.length kc] 39) := ⟨_, rfl⟩
           have H1 := hidm (show RP X M R ⟨n, N, ch, false⟩ ⟨n, t, b, 0, [], false⟩ d F w1 from by rw [hw1]; exact HP.out.later (HBA.out _))
           have HB1 := hidm (show Below w.heap.size w w1 from by rw [hw1]; exact HBA.out _)
           rw [← hw1]
           clear hw1
           obtain ⟨F4, h4, ht4⟩ := RP.setW (ch' := []) H1.out (Below.refl _ _) (Pages.nil _ _) (Ok.nil _)
           have H4 := hidm h4
           have HT4 := hidm ((To.below HB1.out).trans ht4)
           have z3 := H1.out.z 3
           obtain ⟨ao3, cap3, c3, -⟩ := H1.out.c3
           clear h4 ht4
           go_wp2_with fail
           go_ret3
           rw [HR4.out]
           exact ⟨rfl, .of rfl H4.out HT4.out⟩
         · have g4 : (k == 4) = false := by simpa using hk4
           have U := hidm (fun o => ra_read (b := b) (HP.out.later (HBA.out o)) ⟨k, p, s, ks, ko, kc⟩ hk0 hk1 hk2 hk3 hk4)
           rw [← hr] at U
           clear ht hc hw hf hn2 hrl hr h
           go_enter Tryz.func20, Tryz.ntmps20
           go_wp2_with fail
           refine (U.out _).mono ?_
           rintro e w2 ⟨⟨rfl, ha⟩, hp⟩
           have HP2 := hidm (hp.back (HBA.out _))
           clear hp
           go_wp2_with fail
           go_ret3
           exact ⟨by unfold Ans.val; rw [ha]; rfl, HP2.out⟩
set_option maxHeartbeats 4000000 in
set_option maxRecDepth 100000 in
theorem sectors_any (h1 : Mine W F D d w) (h2 : RD R d F2 w) (dn : Nat) (hdn : dn = d.n) (h9 : dn ≤ 4096) : Calls Tryz.prog 31 #[.pointer (some ⟨D, 0, none⟩), .pointer (some ⟨R, 0, none⟩), .int .i64 (dn : Int)] w fun e w' => e = .returned (.bool true) ∧ Below w.heap.size w w' := by
 have HA := hidm (fun (u : World) (hb : Below w.heap.size w u) (k : Nat) (hk : k < dn) => Dsk.m_read k (h1.refl_keep hb).1 (by rw [← hdn]; exact hk))
 have HB := hidm (fun (u : World) (hb : Below w.heap.size w u) (k : Nat) (hk : k < dn) => rd_read (h2.later hb) k (by rw [← hdn]; exact hk))
 have H9 := hidm h9
 clear h1 h2 hdn h9
 go_enter Tryz.func31, Tryz.ntmps31
 go_wp2_with fail
 go_loopw [7, 8, 9, 10, 11] (fun kk _ _ _ _ wr => ∃ k : Nat, kk = .int .i64 (k : Int) ∧ k ≤ dn ∧ Hid (Below w.heap.size w wr)) (fun kk _ _ _ _ _ => (dn - (intOf kk).toNat))
 case atStart => exact ⟨0, rfl, Nat.zero_le _, hidm (Below.refl _ _)⟩
 case round =>
   rename World => wr
   obtain ⟨k, rfl, hk, HW⟩ := hrel
   rcases Nat.lt_or_ge k dn with hlt | hge
   · have f1 : (k : Int) < (dn : Int) := by omega
     have HLT := hidm hlt
     obtain ⟨j, hj⟩ : ∃ j, j = k + 1 := ⟨_, rfl⟩
     have i1 : (k : Int) + 1 = (j : Int) := by omega
     have i1w : IntKind.i64.wrap (j : Int) = (j : Int) := by have := H9.out; simp only [IntKind.wrap_i64]; omega
     have HJ := hidm (show j = k + 1 ∧ j ≤ dn from by omega)
     have UA := hidm (fun u hb => HA.out u hb k hlt)
     have UB := hidm (fun u hb => HB.out u hb k hlt)
     obtain ⟨a, ha⟩ : ∃ a, a = S (d.f k) := ⟨_, rfl⟩
     have UA2 : Hid (∀ u, Below w.heap.size w u → Calls Tryz.prog 65 #[.pointer (some ⟨D, 0, none⟩), .int .i64 (k : Int)] u fun e w' => e = .returned (.tuple #[.string a, .int .i64 0]) ∧ Below u.heap.size u w') := hidm (by rw [ha]; exact UA.out)
     rw [← ha] at UB
     have hself : (a.toList == a.toList) = true := by simp
     clear hj ha UA hlt hk
     go_wp2_with fail
     refine (UA2.out wr HW.out).mono ?_
     rintro e w1 ⟨rfl, hb⟩
     have HB1 := hidm (HW.out.trans (hb.mono HW.out.size))
     clear hb
     go_wp2_with fail
     refine (UB.out w1 HB1.out).mono ?_
     rintro e w2 ⟨rfl, hb⟩
     have HB2 := hidm (HB1.out.trans (hb.mono HB1.out.size))
     clear hb
     go_wp2_with fail
     go_roundw
     case rel => exact ⟨j, rfl, HJ.out.2, HB2⟩
     case measure => have := HJ.out; simp [intOf]; omega
   · obtain rfl : k = dn := by omega
     have f1 : ¬ (k : Int) < (k : Int) := by omega
     go_wp2_with fail
     go_ret
     exact ⟨rfl, HW.out⟩
end
end Pgr
end Go.Proofs.YtkgbemkcnahkoaaGreatDoor
