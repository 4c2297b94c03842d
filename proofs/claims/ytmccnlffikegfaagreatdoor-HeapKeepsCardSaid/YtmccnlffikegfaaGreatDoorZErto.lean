/- A pager's Open of a disk that is too small, a crash that keeps nothing, how long a record of few changes is. Conditions: as each says. -/
import Derived.Test.YtmccnlffikegfaaGreatDoorZPpto
import Derived.Test.YtmccnlffikegfaaGreatDoorZEbto
import Derived.Test.YtmccnlffikegfaaGreatDoorZE0to
namespace Go.Proofs.YtmccnlffikegfaaGreatDoor
open Go.RowKit
namespace Pgr
open Wal (Pair PL R np)
open Dsk (PD Mine KeepQ Only below_keeps cell_later sec vals pad zeros upd IntsAt ints BoolsAt)
open Crc (S S_of S_size)
section
variable {W : World} {Q : Nat → Prop} {P L D n N K : Nat} {u : Bool} {ch : Ch} {V : Nat → List UInt8} {w w' : World}
theorem Lv.arg (h : Lv W Q P L D n N K u ch V w) (lg : Nat) (hlg : lg = 2 + n + N) : Calls Tryz.prog 18 #[.pointer (some ⟨D, 0, none⟩), .int .i64 (lg : Int)] w fun e w' => e = .returned (.tuple #[.pointer none, .int .i64 1]) ∧ w = w' := by
  obtain ⟨d, t, b, hp, _⟩ := h.ex
  have := hp.fit
  have h2 := hp.dok.1
  have h3 : 2 + n + N = d.n := this
  exact popen_arg (mine_of hp) lg (by omega) (.inl (by omega))
theorem H2.lost {V' : Nat → List UInt8} (h : H2 W Q D n N K V V' w) (so : Option Addr) (sc : Nat) (hs : sc ≤ 9223372036854775807) : Calls Tryz.prog 21 #[.pointer (some ⟨D, 0, none⟩), .slice so 0 sc] w fun e w' => e = .returned (.int .i64 0) ∧ (Re W Q D n N K V w' ∨ Re W Q D n N K V' w') ∧ KeepQ Q w w' := by
  obtain ⟨d, hm, hdn, hrs, hw, hf, hc⟩ := h.ex
  refine (Dsk.m_crash [] so sc hm (Nat.zero_le _) ⟨Nat.zero_le _, hs, fun e => absurd rfl e⟩ (fun e => absurd rfl e)).mono fun e w' h1 => ?_
  obtain ⟨he, hm', hkq⟩ := h1
  exact ⟨he, (hrs []).imp (fun x => ⟨_, hm', hdn, x, rfl, hw, hf, rfl⟩) (fun x => ⟨_, hm', hdn, x, rfl, hw, hf, rfl⟩), hkq⟩
theorem Lv.lost (h : Lv W Q P L D n N K u ch V w) : Calls Tryz.prog 21 #[.pointer (some ⟨D, 0, none⟩), .slice none 0 0] w fun e w' => e = .returned (.int .i64 0) ∧ Re W Q D n N K V w' ∧ KeepQ Q w w' :=
  (h.h2.lost none 0 (by omega)).mono fun e w' h1 => ⟨h1.1, h1.2.1.elim id id, h1.2.2⟩
end
theorem record_few2 {N : Nat} {ch : Ch} (h : Ok N ch) (hN : N ≤ 127) : (record ch).length ≤ 1 + ch.length * 131 := by
  have h0 := h.count
  have h1 := flat_len (ch := ch) (m := 131) (fun p hp => (rec1_len (h.len p hp) (by have := h.lt p hp; omega)).2 (by have := h.lt p hp; omega))
  unfold record
  rw [List.length_append, Cod.uB_lt (show ch.length < 128 by omega), List.length_singleton]; omega
theorem np_few {N c : Nat} {ch : Ch} (h : Ok N ch) (hN : N ≤ 127) (hc : ch.length ≤ c) {n : Nat} (hn : c * 131 / 100 + 1 ≤ n) : np (record ch) ≤ n := by
  have h1 := record_few2 h hN
  have h2 : ch.length * 131 ≤ c * 131 := Nat.mul_le_mul_right _ hc
  unfold np
  omega
end Pgr
end Go.Proofs.YtmccnlffikegfaaGreatDoor
/- The program's pager as a heap has it: it has the pages G; its calls, told by G alone; committed, lost in a crash, opened. Conditions: as each says. -/
namespace Go.Proofs.YtmccnlffikegfaaGreatDoor
open Go.RowKit
namespace Hep
open Pgr
open Dsk (zeros pad pad_len KeepQ BoolsAt)
open Crc (S S_of S_size)
section
variable {W w w' : World} {Q : Nat → Prop} {P L D n N K : Nat} {u : Bool} {c : Nat} {V G : Pages}
/-- The program's pager has the pages G, in blocks of Q; c pages at most are changed. -/
structure PvG (W : World) (Q : Nat → Prop) (P L D n N K : Nat) (u : Bool) (V : Pages) (c : Nat) (G : Pages) (w : World) : Prop where
  ex : ∃ ch, Lv W Q P L D n N K u ch V w ∧ over ch V = G ∧ ch.length ≤ c
theorem put_count {ch : Ch} {k : Nat} {s : List UInt8} : (put ch k s).length ≤ ch.length + 1 := by
  induction ch with
  | nil => exact Nat.le_refl _
  | cons x ch ih =>
    unfold put
    split
    · exact Nat.le_refl _
    · split
      · simp
      · simpa using ih
theorem PvG.wide {c' : Nat} (h : PvG W Q P L D n N K u V c G w) (hc : c ≤ c') : PvG W Q P L D n N K u V c' G w := by
  obtain ⟨ch, h1, h2, h9⟩ := h.ex
  exact ⟨ch, h1, h2, Nat.le_trans h9 hc⟩
/-- No more pages are changed than there are. -/
theorem PvG.any (h : PvG W Q P L D n N K u V c G w) : PvG W Q P L D n N K u V N G w := by
  obtain ⟨ch, h1, h2, h9⟩ := h.ex
  exact ⟨ch, h1, h2, h1.ok.2.2.count⟩
theorem PvG.later (h : PvG W Q P L D n N K u V c G w) (hb : Below w.heap.size w w') : PvG W Q P L D n N K u V c G w' := by
  obtain ⟨ch, h1, h2, h9⟩ := h.ex
  exact ⟨ch, h1.later hb, h2, h9⟩
theorem PvG.kept (h : PvG W Q P L D n N K u V c G w) (hb : Below w.heap.size w w') : KeepQ Q w w' := by
  obtain ⟨ch, h1, h2, h9⟩ := h.ex
  exact h1.kept hb
theorem PvG.bel (h : PvG W Q P L D n N K u V c G w) : Below W.heap.size W w := by
  obtain ⟨ch, h1, h2, h9⟩ := h.ex
  exact h1.bel
theorem PvG.qlt (h : PvG W Q P L D n N K u V c G w) : ∀ k, Q k → k < w.heap.size := by
  obtain ⟨ch, h1, h2, h9⟩ := h.ex
  exact h1.qlt
theorem PvG.sz (h : PvG W Q P L D n N K u V c G w) : 1 ≤ N ∧ N ≤ 1024 := by
  obtain ⟨ch, h1, h2, h9⟩ := h.ex
  exact ⟨h1.ok.1, h1.ok.2.1⟩
theorem PvG.len (h : PvG W Q P L D n N K u V c G w) {k : Nat} (hk : k < N) : (G k).length = 128 := by
  obtain ⟨ch, h1, h2, h9⟩ := h.ex
  rw [← h2]; exact h1.len hk
theorem PvG.more {K' : Nat} (h : PvG W Q P L D n N K u V c G w) (hK : K ≤ K') : PvG W Q P L D n N K' u V c G w := by
  obtain ⟨ch, h1, h2, h9⟩ := h.ex
  exact ⟨ch, h1.more hK, h2, h9⟩
theorem PvG.plen (h : PvG W Q P L D n N K u V c G w) : Calls Tryz.prog 39 #[.pointer (some ⟨P, 0, none⟩)] w fun e w' => e = .returned (.int .i64 (N : Int)) ∧ w = w' := by
  obtain ⟨ch, h1, h2, h9⟩ := h.ex
  exact h1.plen
theorem PvG.read (h : PvG W Q P L D n N K u V c G w) (k : Nat) (hk : k < N) : Calls Tryz.prog 42 #[.pointer (some ⟨P, 0, none⟩), .int .i64 (k : Int)] w fun e w' => e = .returned (.tuple #[.string (S (G k)), .int .i64 0]) ∧ Below w.heap.size w w' := by
  obtain ⟨ch, h1, h2, h9⟩ := h.ex
  have := h1.read k hk
  rw [h2] at this
  exact this
theorem PvG.isfree (h : PvG W Q P L D n N K u V c G w) (k : Nat) (hk : k < N) : Calls Tryz.prog 40 #[.pointer (some ⟨P, 0, none⟩), .int .i64 (k : Int)] w fun e w' => e = .returned (.bool (!inU G k)) ∧ Below w.heap.size w w' := by
  obtain ⟨ch, h1, h2, h9⟩ := h.ex
  have := h1.isfree k hk
  rw [h2] at this
  exact this
theorem PvG.isfree_off (h : PvG W Q P L D n N K u V c G w) (k : Int) (hk : off N k) : Calls Tryz.prog 40 #[.pointer (some ⟨P, 0, none⟩), .int .i64 k] w fun e w' => e = .returned (.bool false) ∧ w = w' := by
  obtain ⟨ch, h1, h2, h9⟩ := h.ex
  obtain ⟨d, t, b, hp, _⟩ := h1.ex
  exact Pgr.isfree_off k hp hk
theorem PvG.read_off (h : PvG W Q P L D n N K u V c G w) (k : Int) (hk : off N k) : Calls Tryz.prog 42 #[.pointer (some ⟨P, 0, none⟩), .int .i64 k] w fun e w' => e = .returned (.tuple #[.string ⟨#[]⟩, .int .i64 2]) ∧ w = w' := by
  obtain ⟨ch, h1, h2, h9⟩ := h.ex
  obtain ⟨d, t, b, hp, _⟩ := h1.ex
  exact Pgr.read_off k hp hk
theorem PvG.frees (h : PvG W Q P L D n N K u V c G w) : Calls Tryz.prog 14 #[.pointer (some ⟨P, 0, none⟩)] w fun e w' => e = .returned (.int .i64 (freeN (G 0) N : Int)) ∧ Below w.heap.size w w' := by
  obtain ⟨ch, h1, h2, h9⟩ := h.ex
  have := h1.frees
  rw [h2] at this
  exact this
/-- What a Write leaves. -/
noncomputable def wrG (N : Nat) (G : Pages) (k : Int) (s : ByteArray) : Pages := open Classical in if off N k ∨ k = 0 ∨ 128 < s.size then G else upG G k.toNat (pad s.data.toList)
theorem wrG_in {k : Nat} {s : ByteArray} (hk : k < N) (h0 : k ≠ 0) (hs : s.size ≤ 128) : wrG N G (k : Int) s = upG G k (pad s.data.toList) := by
  unfold wrG
  rw [if_neg (by unfold off; omega)]
  rfl
theorem wrG_no {k : Int} {s : ByteArray} (h : off N k ∨ k = 0 ∨ 128 < s.size) : wrG N G k s = G := by
  unfold wrG
  rw [if_pos h]
theorem PvG.write_in (h : PvG W Q P L D n N K u V c G w) (k : Nat) (s : ByteArray) (hs : s.size ≤ 128) (hk : k < N) (h0 : k ≠ 0) : Calls Tryz.prog 51 #[.pointer (some ⟨P, 0, none⟩), .int .i64 (k : Int), .string s] w fun e w' => e = .returned (.int .i64 0) ∧ PvG W Q P L D n N K u V (c + 1) (upG G k (pad s.data.toList)) w' ∧ KeepQ Q w w' := by
  obtain ⟨ch, h1, h2, h9⟩ := h.ex
  refine (h1.write k s hs hk h0).mono fun e w' ⟨he, hp, hq⟩ => ⟨he, ⟨_, hp, by rw [over_up, h2], Nat.le_trans put_count (Nat.succ_le_succ h9)⟩, hq⟩
theorem PvG.write (h : PvG W Q P L D n N K u V c G w) (k : Int) (s : ByteArray) : Calls Tryz.prog 51 #[.pointer (some ⟨P, 0, none⟩), .int .i64 k, .string s] w fun e w' => (∃ c : Int, e = .returned (.int .i64 c)) ∧ PvG W Q P L D n N K u V (c + 1) (wrG N G k s) w' ∧ KeepQ Q w w' := by
  by_cases h1 : off N k
  · rw [wrG_no (.inl h1)]
    obtain ⟨ch, a1, a2, _⟩ := h.ex
    exact (a1.write_off k s h1).mono fun e w' ⟨he, hw⟩ => ⟨⟨_, he⟩, hw ▸ h.wide (Nat.le_succ c), hw ▸ fun _ _ => rfl⟩
  · by_cases h2 : k = 0
    · rw [wrG_no (.inr (.inl h2))]
      obtain ⟨ch, a1, a2, _⟩ := h.ex
      subst h2
      exact (a1.write_zero s).mono fun e w' ⟨he, hw⟩ => ⟨⟨_, he⟩, hw ▸ h.wide (Nat.le_succ c), hw ▸ fun _ _ => rfl⟩
    · obtain ⟨j, rfl⟩ : ∃ j : Nat, k = (j : Int) := ⟨k.toNat, by unfold off at h1; omega⟩
      have hj : j < N := by unfold off at h1; omega
      by_cases h3 : 128 < s.size
      · rw [wrG_no (.inr (.inr h3))]
        obtain ⟨ch, a1, a2, _⟩ := h.ex
        exact (a1.write_big j s h3 hj (by omega)).mono fun e w' ⟨he, hw⟩ => ⟨⟨_, he⟩, hw ▸ h.wide (Nat.le_succ c), hw ▸ fun _ _ => rfl⟩
      · rw [wrG_in hj (by omega) (by omega)]
        exact (h.write_in j s (by omega) hj (by omega)).mono fun e w' ⟨he, hp, hq⟩ => ⟨⟨_, he⟩, hp, hq⟩
theorem PvG.alloc (h : PvG W Q P L D n N K u V c G w) : Calls Tryz.prog 41 #[.pointer (some ⟨P, 0, none⟩)] w fun e w' =>
    (∃ k : Nat, Takes N G [k] (takeG G k) ∧ e = .returned (.tuple #[.int .i64 (k : Int), .int .i64 0]) ∧ PvG W Q P L D n N K u V (c + 2) (takeG G k) w' ∧ KeepQ Q w w') ∨
      (freeN (G 0) N = 0 ∧ e = .returned (.tuple #[.int .i64 0, .int .i64 3]) ∧ Below w.heap.size w w') := by
  obtain ⟨ch, h1, h2, h9⟩ := h.ex
  refine (h1.alloc).mono fun e w' hh => ?_
  rcases hh with ⟨k, a1, a2, a3, a4, a5, a6, a7⟩ | ⟨a1, a2, a3⟩
  · refine .inl ⟨k, ⟨a1, a2, ?_, fun j hj => ?_, rfl⟩, a5, ⟨_, a6, ?_, Nat.le_trans put_count (Nat.succ_le_succ (Nat.le_trans put_count (Nat.succ_le_succ h9)))⟩, a7⟩
    · unfold inU; rw [← h2]; exact a3
    · unfold inU; rw [← h2]; exact a4 j hj
    · rw [over_take, h2]
  · exact .inr ⟨free_none N (fun j hj => by rw [← h2]; exact a1 j hj), a2, a3⟩
/-- While a page is free an Alloc takes the least. -/
theorem PvG.alloc_in (h : PvG W Q P L D n N K u V c G w) (hf : 0 < freeN (G 0) N) : Calls Tryz.prog 41 #[.pointer (some ⟨P, 0, none⟩)] w fun e w' =>
    ∃ k : Nat, Takes N G [k] (takeG G k) ∧ e = .returned (.tuple #[.int .i64 (k : Int), .int .i64 0]) ∧ PvG W Q P L D n N K u V (c + 2) (takeG G k) w' ∧ KeepQ Q w w' :=
  h.alloc.mono fun e w' hh => hh.elim id (fun hh => by have := hh.1; omega)
theorem PvG.free (h : PvG W Q P L D n N K u V c G w) (k : Nat) (hk : k < N) (h0 : k ≠ 0) (hu : inU G k = true) : Calls Tryz.prog 57 #[.pointer (some ⟨P, 0, none⟩), .int .i64 (k : Int)] w fun e w' => e = .returned (.int .i64 0) ∧ PvG W Q P L D n N K u V (c + 1) (giveG G k) w' ∧ KeepQ Q w w' := by
  obtain ⟨ch, h1, h2, h9⟩ := h.ex
  refine (h1.free k hk h0 (by rw [h2]; exact hu)).mono fun e w' ⟨he, hp, hq⟩ => ⟨he, ⟨_, hp, by rw [over_give, h2], Nat.le_trans put_count (Nat.succ_le_succ h9)⟩, hq⟩
theorem PvG.guardO {T : Nat → Prop} (h : PvG W Q P L D n N K u V c G w) (ho : Dsk.Only T w w') (hT : ∀ k, T k → Q k ∧ W.heap.size ≤ k) : PvG W (fun k => Q k ∨ (w.heap.size ≤ k ∧ k < w'.heap.size)) P L D n N K u V c G w' := by
  obtain ⟨ch, h1, h2, h9⟩ := h.ex
  exact ⟨ch, h1.guardO ho hT, h2, h9⟩
theorem PvG.guard (h : PvG W Q P L D n N K u V c G w) (hb : Below w.heap.size w w') : PvG W (fun k => Q k ∨ (w.heap.size ≤ k ∧ k < w'.heap.size)) P L D n N K u V c G w' := by
  obtain ⟨ch, h1, h2, h9⟩ := h.ex
  exact ⟨ch, h1.guard hb, h2, h9⟩
theorem PvG.less {Q' : Nat → Prop} (h : PvG W Q P L D n N K u V c G w) (hQ : ∀ k, Q' k → Q k) : PvG W Q' P L D n N K u V c G w := by
  obtain ⟨ch, h1, h2, h9⟩ := h.ex
  exact ⟨ch, h1.less hQ, h2, h9⟩
/-- A commit of few pages goes through; behind it nothing is changed. -/
theorem PvG.commit (h : PvG W Q P L D n N K true V c G w) (hN : N ≤ 127) (hc : c * 131 / 100 + 1 ≤ n) (hn : n ≤ 998) (hK : K ≤ 700000) : Calls Tryz.prog 20 #[.pointer (some ⟨P, 0, none⟩)] w fun e w' => e = .returned (.int .i64 0) ∧ PvG W Q P L D n N (K + 3000) true G 0 G w' ∧ KeepQ Q w w' := by
  obtain ⟨ch, h1, h2, h3⟩ := h.ex
  refine (h1.commit hn (np_few h1.ok.2.2 hN h3 hc) hK).mono fun e w' hh => ?_
  rcases hh with ⟨he, hp, hq⟩ | ⟨hu, _⟩
  · rw [h2] at hp
    exact ⟨he, ⟨[], hp, rfl, Nat.le_refl _⟩, hq⟩
  · cases hu
/-- A crash that keeps nothing leaves the pages as they were committed. -/
theorem PvG.crash (h : PvG W Q P L D n N K u V c G w) (so : Option Addr) (sc : Nat) (hs : sc ≤ 9223372036854775807) : Calls Tryz.prog 21 #[.pointer (some ⟨D, 0, none⟩), .slice so 0 sc] w fun e w' => e = .returned (.int .i64 0) ∧ Re W Q D n N K V w' ∧ KeepQ Q w w' := by
  obtain ⟨ch, h1, h2, h3⟩ := h.ex
  exact (h1.h2.lost so sc hs).mono fun e w' ⟨he, hr, hq⟩ => ⟨he, hr.elim id id, hq⟩
/-- It is opened anew. -/
theorem open_g (h : Re W Q D n N K V w) (hn : 2 ≤ n ∧ n ≤ 998) (hN : 1 ≤ N ∧ N ≤ 1024) (hK : K ≤ 600000) (lg : Nat) (hlg : lg = 2 + n) : Calls Tryz.prog 18 #[.pointer (some ⟨D, 0, none⟩), .int .i64 (lg : Int)] w fun e w' => ∃ P L, e = .returned (.tuple #[.pointer (some ⟨P, 0, none⟩), .int .i64 0]) ∧ PvG W Q P L D n N (K + 2000) true V 0 V w' ∧ KeepQ Q w w' :=
  (h.open hn hN hK lg hlg).mono fun _ _ ⟨P, L, he, hp, hq⟩ => ⟨P, L, he, ⟨[], hp, rfl, Nat.le_refl _⟩, hq⟩
end
end Hep
end Go.Proofs.YtmccnlffikegfaaGreatDoor
/- The program's heap in memory, over its pager: given, holds, Need, the bytes of a number. Conditions: as each says. -/
namespace Go.Proofs.YtmccnlffikegfaaGreatDoor
open Go.RowKit
namespace Hep
open Pgr
open Dsk (zeros pad pad_len KeepQ cell_later below_keeps)
open Crc (S S_of S_size)
/-- Block B is a heap over the pager P, that has the pages G; B is one of Q. -/
structure HG (W : World) (Q : Nat → Prop) (B P L D n N K : Nat) (u : Bool) (V : Pages) (c : Nat) (G : Pages) (w : World) : Prop where
  pg : PvG W Q P L D n N K u V c G w
  inq : Q B
  lo : W.heap.size ≤ B
  row : w.heap[B]? = some (.cells #[.pointer (some ⟨B, 0, none⟩), .pointer (some ⟨P, 0, none⟩)] 56 (0, 0))
section
variable {W w w' : World} {Q Q' : Nat → Prop} {B P L D n N K : Nat} {u : Bool} {c c' : Nat} {V G G' : Pages}
theorem HG.later (h : HG W Q B P L D n N K u V c G w) (hb : Below w.heap.size w w') : HG W Q B P L D n N K u V c G w' := ⟨h.pg.later hb, h.inq, h.lo, below_keeps hb h.row⟩
theorem HG.kept (h : HG W Q B P L D n N K u V c G w) (hb : Below w.heap.size w w') : KeepQ Q w w' := h.pg.kept hb
theorem HG.bel (h : HG W Q B P L D n N K u V c G w) : Below W.heap.size W w := h.pg.bel
theorem HG.qlt (h : HG W Q B P L D n N K u V c G w) : ∀ k, Q k → k < w.heap.size := h.pg.qlt
theorem HG.sz (h : HG W Q B P L D n N K u V c G w) : 1 ≤ N ∧ N ≤ 1024 := h.pg.sz
theorem HG.len (h : HG W Q B P L D n N K u V c G w) {k : Nat} (hk : k < N) : (G k).length = 128 := h.pg.len hk
theorem HG.c0 (h : HG W Q B P L D n N K u V c G w) : w.cell? ⟨B, 0, none⟩ = some (.pointer (some ⟨B, 0, none⟩)) := cell_of_row w B 0 _ _ (0, 0) h.row
theorem HG.c1 (h : HG W Q B P L D n N K u V c G w) : w.cell? ⟨B, 1, none⟩ = some (.pointer (some ⟨P, 0, none⟩)) := cell_of_row w B 1 _ _ (0, 0) h.row
/-- Behind a call of the pager's. -/
theorem HG.turn (h : HG W Q B P L D n N K u V c G w) (hp : PvG W Q P L D n N K u V c' G' w') (hk : KeepQ Q w w') : HG W Q B P L D n N K u V c' G' w' := ⟨hp, h.inq, h.lo, (hk B h.inq).trans h.row⟩
theorem HG.wide (h : HG W Q B P L D n N K u V c G w) (hc : c ≤ c') : HG W Q B P L D n N K u V c' G w := ⟨h.pg.wide hc, h.inq, h.lo, h.row⟩
theorem HG.any (h : HG W Q B P L D n N K u V c G w) : HG W Q B P L D n N K u V N G w := ⟨h.pg.any, h.inq, h.lo, h.row⟩
theorem HG.more {K' : Nat} (h : HG W Q B P L D n N K u V c G w) (hK : K ≤ K') : HG W Q B P L D n N K' u V c G w := ⟨h.pg.more hK, h.inq, h.lo, h.row⟩
theorem HG.less (h : HG W Q B P L D n N K u V c G w) (hQ : ∀ k, Q' k → Q k) (hB : Q' B) : HG W Q' B P L D n N K u V c G w := ⟨h.pg.less hQ, hB, h.lo, h.row⟩
theorem HG.guardO {T : Nat → Prop} (h : HG W Q B P L D n N K u V c G w) (ho : Dsk.Only T w w') (hT : ∀ k, T k → Q k ∧ W.heap.size ≤ k) (hB : ¬ T B) : HG W (fun k => Q k ∨ (w.heap.size ≤ k ∧ k < w'.heap.size)) B P L D n N K u V c G w' :=
  ⟨h.pg.guardO ho hT, .inl h.inq, h.lo, (ho.block B (h.qlt B h.inq) hB).trans h.row⟩
theorem HG.guard (h : HG W Q B P L D n N K u V c G w) (hb : Below w.heap.size w w') : HG W (fun k => Q k ∨ (w.heap.size ≤ k ∧ k < w'.heap.size)) B P L D n N K u V c G w' := ⟨h.pg.guard hb, .inl h.inq, h.lo, below_keeps hb h.row⟩
end
/-- What is no heap that was given. -/
def NotHeap (p : Option Addr) (w : World) : Prop := p = none ∨ ∃ Z, p = some ⟨Z, 0, none⟩ ∧ w.cell? ⟨Z, 0, none⟩ = some (.pointer none)
theorem NotHeap.later {p : Option Addr} {w w' : World} (h : NotHeap p w) (hb : Below w.heap.size w w') : NotHeap p w' := by
  rcases h with h | ⟨Z, h1, h2⟩
  · exact .inl h
  · exact .inr ⟨Z, h1, cell_later hb h2⟩
theorem eqhIn_nil (w : World) (d : Nat) (a : Addr) : (Op.equalIn (d + 1) 24 (.pointer none) (.pointer (some a))).run Tryz.prog w = .ok false w := by
  simp [Op.equalIn, run_underlying Tryz.underlying24]
theorem eqh_nil (w : World) (a : Addr) : (binOp .eql 24 (.pointer none) (.pointer (some a))).run Tryz.prog w = .ok (.bool false) w := by
  simp only [binOp, Sem.run_bind]
  rw [show Op.equal 24 (.pointer none) (.pointer (some a)) = Op.equalIn (9999 + 1) 24 (.pointer none) (.pointer (some a)) from rfl, eqhIn_nil]
  rfl
theorem eqhIn_same (w : World) (d : Nat) (a : Addr) : (Op.equalIn (d + 1) 24 (.pointer (some a)) (.pointer (some a))).run Tryz.prog w = .ok true w := by
  have hs : (sizeOf 56).run Tryz.prog w = .ok 2 w := by simp [go_sem]
  simp [Op.equalIn, run_underlying Tryz.underlying24, hs, run_sameAddr_same]
theorem eqh_same (w : World) (a : Addr) : (binOp .eql 24 (.pointer (some a)) (.pointer (some a))).run Tryz.prog w = .ok (.bool true) w := by
  simp only [binOp, Sem.run_bind]
  rw [show Op.equal 24 (.pointer (some a)) (.pointer (some a)) = Op.equalIn (9999 + 1) 24 (.pointer (some a)) (.pointer (some a)) from rfl, eqhIn_same]
  rfl
set_option maxHeartbeats 1000000 in
theorem hgvn_no (p : Option Addr) (w : World) (h : NotHeap p w) : Calls Tryz.prog 23 #[.pointer p] w fun e w' => e = .returned (.bool false) ∧ w = w' := by
  rcases h with rfl | ⟨Z, rfl, hz⟩
  · go_enter Tryz.func23, Tryz.ntmps23
    go_wp2_with fail
    go_ret
    exact ⟨rfl, rfl⟩
  · have he := fun w => eqh_nil w ⟨Z, 0, none⟩
    go_enter Tryz.func23, Tryz.ntmps23
    go_wp2_with fail
    go_ret
    exact ⟨rfl, rfl⟩
set_option maxHeartbeats 1000000 in
theorem hgvn_yes (B : Nat) (w : World) (h : w.cell? ⟨B, 0, none⟩ = some (.pointer (some ⟨B, 0, none⟩))) : Calls Tryz.prog 23 #[.pointer (some ⟨B, 0, none⟩)] w fun e w' => e = .returned (.bool true) ∧ w = w' := by
  have he := fun w => eqh_same w ⟨B, 0, none⟩
  go_enter Tryz.func23, Tryz.ntmps23
  go_wp2_with fail
  go_ret
  exact ⟨rfl, rfl⟩
section
variable {W w w' : World} {Q Q' : Nat → Prop} {B P L D n N K : Nat} {u : Bool} {c c' : Nat} {V G G' : Pages}
/-- May a record have this page? -/
def holdsB (N : Nat) (G : Pages) (k : Int) : Bool := decide (2 ≤ k) && decide (k < (N : Int)) && inU G k.toNat
set_option maxHeartbeats 2000000 in
theorem holds_any (h : HG W Q B P L D n N K u V c G w) (k : Int) : Calls Tryz.prog 53 #[.pointer (some ⟨B, 0, none⟩), .int .i64 k] w fun e w' => e = .returned (.bool (holdsB N G k)) ∧ Below w.heap.size w w' := by
  have c1 := h.c1
  have C1 := hidm h.pg.plen
  by_cases h1 : 2 ≤ k
  · have g1 : 1 < k := by omega
    by_cases h2 : k < (N : Int)
    · obtain ⟨j, rfl⟩ : ∃ j : Nat, k = (j : Int) := ⟨k.toNat, by omega⟩
      have C2 := hidm (h.pg.isfree j (by omega))
      have e : holdsB N G (j : Int) = inU G j := by unfold holdsB; rw [decide_eq_true h1, decide_eq_true h2, Int.toNat_natCast]; simp
      rw [e]
      obtain ⟨b, hb⟩ : ∃ b, b = inU G j := ⟨_, rfl⟩
      rw [← hb] at C2 ⊢
      clear hb e h1 h
      cases b with
      | true =>
        go_enter Tryz.func53, Tryz.ntmps53
        go_wp2_with fail
        refine C1.out.mono ?_
        rintro e w1 ⟨rfl, rfl⟩
        go_wp2_with fail
        refine C2.out.mono ?_
        rintro e w2 ⟨rfl, hb2⟩
        have HB2 := hidm hb2
        clear hb2 c1
        go_wp2_with fail
        go_ret
        exact ⟨rfl, HB2.out⟩
      | false =>
        go_enter Tryz.func53, Tryz.ntmps53
        go_wp2_with fail
        refine C1.out.mono ?_
        rintro e w1 ⟨rfl, rfl⟩
        go_wp2_with fail
        refine C2.out.mono ?_
        rintro e w2 ⟨rfl, hb2⟩
        have HB2 := hidm hb2
        clear hb2 c1
        go_wp2_with fail
        go_ret
        exact ⟨rfl, HB2.out⟩
    · have e : holdsB N G k = false := by unfold holdsB; rw [decide_eq_false h2]; simp
      rw [e]
      clear e h
      go_enter Tryz.func53, Tryz.ntmps53
      go_wp2_with fail
      refine C1.out.mono ?_
      rintro e w1 ⟨rfl, rfl⟩
      go_wp2_with fail
      go_ret
      exact ⟨rfl, Below.refl _ _⟩
  · have e : holdsB N G k = false := by unfold holdsB; rw [decide_eq_false h1]; simp
    have g1 : ¬ 1 < k := by omega
    rw [e]
    clear e h
    go_enter Tryz.func53, Tryz.ntmps53
    go_wp2_with fail
    go_ret
    exact ⟨rfl, Below.refl _ _⟩
theorem holds_yes {k : Nat} (h2 : 2 ≤ k) (hN : k < N) (hu : inU G k = true) : holdsB N G (k : Int) = true := by
  unfold holdsB; rw [decide_eq_true (by omega), decide_eq_true (by omega), Int.toNat_natCast, hu]; rfl
end
end Hep
end Go.Proofs.YtmccnlffikegfaaGreatDoor
/- The program's heap over its pager: number, numberOf, Need, root, setRoot. Conditions: as each says. -/
namespace Go.Proofs.YtmccnlffikegfaaGreatDoor
open Go.RowKit
namespace Hep
open Pgr
open Dsk (zeros pad pad_len KeepQ cell_later below_keeps)
open Crc (S S_of S_size)
section
variable {W w w' : World} {Q Q' : Nat → Prop} {B P L D n N K : Nat} {u : Bool} {c c' : Nat} {V G G' : Pages}
set_option maxHeartbeats 2000000 in
set_option maxRecDepth 100000 in
theorem hneed_any (h : HG W Q B P L D n N K u V c G w) (k : Nat) (hk : k ≤ 100000) :
    Calls Tryz.prog 12 #[.pointer (some ⟨B, 0, none⟩), .int .i64 (k : Int)] w fun e w' => e = .returned (.int .i64 (need k : Int)) ∧ w = w' := by
  have C1 := hidm (hgvn_yes B w h.c0)
  obtain ⟨m, hm⟩ : ∃ m, m = k - 1 := ⟨_, rfl⟩
  obtain ⟨d, hd⟩ : ∃ d, d = m / 125 := ⟨_, rfl⟩
  obtain ⟨z, hz⟩ : ∃ z, z = need k := ⟨_, rfl⟩
  rw [← hz]
  have f1 : max ((k : Int) - 1) 0 = (m : Int) := by omega
  have f0 : IntKind.i64.wrap ((k : Int) - 1) = (k : Int) - 1 := by simp only [IntKind.wrap_i64]; omega
  have f2 : IntKind.i64.wrap (m : Int) = (m : Int) := by simp only [IntKind.wrap_i64]; omega
  have f3 : (m : Int).tdiv 125 = (d : Int) := by rw [hd]; exact tdiv_nat m 125
  have f4 : IntKind.i64.wrap (d : Int) = (d : Int) := by simp only [IntKind.wrap_i64]; omega
  have f5 : (d : Int) + 1 = (z : Int) := by rw [hz]; unfold need; omega
  have f6 : IntKind.i64.wrap (z : Int) = (z : Int) := by simp only [IntKind.wrap_i64]; omega
  have g1 : ¬ (k : Int) < 0 := by omega
  have g2 : ¬ 100000 < (k : Int) := by omega
  clear hm hd hz h
  go_enter Tryz.func12, Tryz.ntmps12
  go_wp2_with fail
  refine C1.out.mono ?_
  rintro e w1 ⟨rfl, rfl⟩
  go_wp2_with fail
  go_ret
  exact ⟨rfl, rfl⟩
set_option maxHeartbeats 2000000 in
set_option maxRecDepth 100000 in
theorem hneed_neg (h : HG W Q B P L D n N K u V c G w) :
    Calls Tryz.prog 12 #[.pointer (some ⟨B, 0, none⟩), .int .i64 (-1)] w fun e w' => e = .returned (.int .i64 0) ∧ w = w' := by
  have C1 := hidm (hgvn_yes B w h.c0)
  clear h
  go_enter Tryz.func12, Tryz.ntmps12
  go_wp2_with fail
  refine C1.out.mono ?_
  rintro e w1 ⟨rfl, rfl⟩
  go_wp2_with fail
  go_ret
  exact ⟨rfl, rfl⟩
set_option maxHeartbeats 4000000 in
set_option maxRecDepth 100000 in
theorem hroot_any (h : HG W Q B P L D n N K u V c G w) (hN : 2 ≤ N) :
    Calls Tryz.prog 29 #[.pointer (some ⟨B, 0, none⟩)] w fun e w' => e = .returned (.int .i64 (rootOf (G 1) : Int)) ∧ Below w.heap.size w w' := by
  have c1 := h.c1
  obtain ⟨T, hT⟩ : ∃ T, T = S (G 1) := ⟨_, rfl⟩
  have C1 := h.pg.read 1 (by omega)
  rw [← hT] at C1
  have C1' := hidm (show Calls Tryz.prog 42 #[.pointer (some ⟨P, 0, none⟩), .int .i64 1] w fun e w' => e = .returned (.tuple #[.string T, .int .i64 0]) ∧ Below w.heap.size w w' from C1)
  have hl1 := h.len (k := 1) (by omega)
  have hTs : T.size = 128 := by rw [hT, S_size]; exact hl1
  obtain ⟨q, hq⟩ : ∃ q, q = T.extract 1 T.size := ⟨_, rfl⟩
  have hql : q.data.toList = (G 1).drop 1 := by
    rw [hq]
    simp only [ByteArray.data_extract, Array.toList_extract, List.extract_eq_take_drop]
    rw [show T.data.toList = G 1 by rw [hT], List.take_of_length_le]
    rw [List.length_drop, hl1]; omega
  have hqs : q.size = 127 := by rw [hq, ByteArray.size_extract]; omega
  obtain ⟨x, hx⟩ : ∃ x, x = (byteAt (G 1) 1).toNat := ⟨_, rfl⟩
  obtain ⟨y, hy⟩ : ∃ y, y = (byteAt (G 1) 2).toNat := ⟨_, rfl⟩
  have hx9 : x < 256 := by rw [hx]; exact byte_lt _ _
  have hy9 : y < 256 := by rw [hy]; exact byte_lt _ _
  have e0 : byteAt q.data.toList 0 = byteAt (G 1) 1 := by rw [hql, byteAt_drop]
  have e1 : byteAt q.data.toList 1 = byteAt (G 1) 2 := by rw [hql, byteAt_drop]
  have hr : rootOf (G 1) = 256 * x + y := by unfold rootOf; rw [hx, hy]
  rw [hr]
  have HE := hidm (show (byteAt q.data.toList 0).toNat = x ∧ (byteAt q.data.toList 1).toNat = y from ⟨by rw [e0, hx], by rw [e1, hy]⟩)
  have HX := hidm (show x < 256 ∧ y < 256 from ⟨hx9, hy9⟩)
  have hq2 := hq.symm
  have HQS := hidm hqs
  have HQ9 := hidm (show q.size ≤ 1000000 from by omega)
  have g1 : ¬ (T.size : Int) < 1 := by omega
  have g2 : (T.size : Int) ≤ 1000 := by omega
  clear hq hql hr hT C1 hN h hqs hx hy hx9 hy9 e0 e1 hl1 hTs
  go_enter Tryz.func29, Tryz.ntmps29
  go_wp2_with fail
  refine C1'.out.mono ?_
  rintro e w1 ⟨rfl, hb1⟩
  have HB1 := hidm hb1
  clear hb1 c1
  obtain ⟨cap, w2, hcv, _, _, hcl, hb2, hs2⟩ := conv_bytes q HQ9.out w1
  have N2 := hidm (numberOf_any w1.heap.size q.size cap x y HX.out.1 HX.out.2 (by rw [HQS.out]; decide) w2 (by rw [hcl 0 (by rw [HQS.out]; decide), HE.out.1]) (by rw [hcl 1 (by rw [HQS.out]; decide), HE.out.2]))
  have HB2 := hidm (HB1.out.trans (hb2.mono HB1.out.size))
  have HSZ := hidm hb2.size
  clear hcl hb2 hs2
  go_wp2_with fail
  refine N2.out.mono ?_
  rintro e w3 ⟨rfl, hb3⟩
  have HB3 := hidm (HB2.out.trans (hb3.mono HB2.out.size))
  clear hb3
  go_wp2_with fail
  go_ret
  exact ⟨rfl, HB3.out⟩
theorem root_lt (t : List UInt8) : rootOf t < 65536 := by
  unfold rootOf
  have a1 := UInt8.toNat_lt (byteAt t 1)
  have a2 := UInt8.toNat_lt (byteAt t 2)
  omega
set_option maxHeartbeats 4000000 in
set_option maxRecDepth 100000 in
theorem hsetroot_any (h : HG W Q B P L D n N K u V c G w) (hN : 2 ≤ N) (x : Nat) :
    Calls Tryz.prog 30 #[.pointer (some ⟨B, 0, none⟩), .int .i64 (x : Int)] w fun e w' => e = .returned (.tuple #[]) ∧ HG W Q B P L D n N K u V (c + 1) (upG G 1 (rootP x)) w' ∧ KeepQ Q w w' := by
  have HH := hidm h
  have C1 := hidm (fun (z : World) => number_any x z)
  have HSM := hidm (show (⟨#[82]⟩ : ByteArray) ++ S (two x) = S (82 :: two x) from by
    apply ByteArray.ext
    apply Array.toList_inj.1
    simp [two])
  have HWR := hidm (show ∀ (z : World) (hz : HG W Q B P L D n N K u V c G z), Calls Tryz.prog 51 #[.pointer (some ⟨P, 0, none⟩), .int .i64 1, .string (S (82 :: two x))] z fun e w' => e = .returned (.int .i64 0) ∧ PvG W Q P L D n N K u V (c + 1) (upG G 1 (pad (S (82 :: two x)).data.toList)) w' ∧ KeepQ Q z w' from fun z hz => hz.pg.write_in 1 (S (82 :: two x)) (by rw [S_size]; simp [two]) (by omega) (by decide))
  have HRP := hidm (show pad (S (82 :: two x)).data.toList = rootP x from rfl)
  obtain ⟨T2, hT2⟩ : ∃ T2, T2 = S (two x) := ⟨_, rfl⟩
  obtain ⟨T3, hT3⟩ : ∃ T3, T3 = S (82 :: two x) := ⟨_, rfl⟩
  rw [← hT2] at C1 HSM
  rw [← hT3] at HSM HWR HRP
  have hTs : T2.size = 2 := by rw [hT2, S_size]; rfl
  have k5 : ¬ 9223372036854775807 < (⟨#[82]⟩ : ByteArray).size + T2.size := by rw [hTs]; decide
  have hsm := HSM.out
  clear hT2 hT3 h
  go_enter Tryz.func30, Tryz.ntmps30
  have HHd := hidm (HH.out.later ((Below.refl w.heap.size w).drew))
  have HBD := hidm ((Below.refl w.heap.size w).drew)
  have HS9 := hidm (show ∀ z, HG W Q B P L D n N K u V c G z → z.cell? ⟨B, 1, none⟩ = some (.pointer (some ⟨P, 0, none⟩)) from fun z hz => hz.c1)
  refine wp_region_held_drew (S := fun z => z.cell? ⟨B, 1, none⟩ = some (.pointer (some ⟨P, 0, none⟩))) (by kernel_rfl) (HS9.out _ HHd.out) (fun hHeld => ?_)
  refine Man.t1 0 hHeld ?_
  (try simp only [Act.put, Mqa, Mqb, Mqc])
  refine Man.t1 1 hHeld ?_
  (try simp only [Act.put, Mqa, Mqb, Mqc])
  refine Man.t1 2 hHeld ?_
  (try simp only [Act.put, Mqa, Mqb, Mqc])
  refine Man.t1 3 hHeld ?_
  (try simp only [Act.put, Mqa, Mqb, Mqc])
  refine Man.t1 4 hHeld ?_
  (try simp only [Act.put, Mqa, Mqb, Mqc])
  refine Man.one (i := 5) rfl (by kernel_rfl) (fun K hK => ?_)
  go_simp
  with_reducible refine (C1.out _).mono ?_
  rintro e w5 ⟨rfl, hb5⟩
  have H5 := hidm (HHd.out.later hb5)
  have HK5 := hidm (fun k hk => (HHd.out.kept hb5 k hk))
  clear hb5
  refine hK.out _ _ (HS9.out _ H5.out) (fun hNew => ?_)
  clear hK K hHeld
  have hHeld := hNew
  clear hNew
  (try simp only [Act.put, Mqa, Mqb, Mqc])
  refine Man.t1 6 hHeld ?_
  (try simp only [Act.put, Mqa, Mqb, Mqc])
  refine Man.one (i := 7) rfl (by kernel_rfl) (fun K hK => ?_)
  go_simp
  (try rw [HSM.out])
  with_reducible refine (HWR.out _ H5.out).mono ?_
  rintro e w6 ⟨rfl, hp6, hk6⟩
  have ht6 := H5.out.turn hp6 hk6
  rw [HRP.out] at ht6
  have HFIN := hidm (And.intro ht6 (show KeepQ Q w w6 from fun k hk => (hk6 k hk).trans ((HK5.out k hk).trans (HH.out.kept HBD.out k hk))))
  clear ht6
  clear hp6 hk6
  refine hK.out _ _ (HFIN.out.1.c1) (fun hNew => ?_)
  clear hK K hHeld
  have hHeld := hNew
  clear hNew
  skip
  refine wpAnyH_done (by kernel_rfl) ?_ _
  go_wp2_with fail
  go_end0
  exact ⟨rfl, HFIN.out.1, HFIN.out.2⟩
end
end Hep
end Go.Proofs.YtmccnlffikegfaaGreatDoor
