/- A log in memory beside its disk: given, state, checked, sector, lay, flush, Gen, Used, Fits. Conditions: as each says. -/
import Derived.Test.YtmccnlffikegfaaGreatDoorZWbto
import Derived.Test.YtmccnlffikegfaaGreatDoorZWgto
import Derived.Test.YtmccnlffikegfaaGreatDoorZDlto
namespace Go.Proofs.YtmccnlffikegfaaGreatDoor
open Go.RowKit
namespace Wal
open Dsk (PD Mine KeepQ DiskIs Only Grow upd pad)
open Crc (S S_of S_size S_append S_add hidm)
/-- A plain log. -/
structure PL where
  F : Nat
  n : Nat
  turn : Nat
  recs : List (List UInt8)
  used : Nat
  halted : Bool
def PL.ok (g : PL) : Prop := g.F ≤ 4096 ∧ g.n ≤ 1000 ∧ g.turn ≤ 1099511627776 ∧ g.used ≤ g.n ∧ g.recs.length ≤ g.used + 1
def strs (l : List (List UInt8)) : List Value := l.map fun x => .string (S x)
def lcells (L D : Nat) (g : PL) (sl : Value) : Array Value :=
  #[.pointer (some ⟨L, 0, none⟩), .pointer (some ⟨D, 0, none⟩), .int .i64 (g.F : Int), .int .i64 (g.n : Int), .int .u64 (g.turn : Int), sl, .int .i64 (g.used : Int), .bool g.halted]
structure LogAt (L D : Nat) (g : PL) (sl : Value) (U : Nat → Prop) (w : World) : Prop where
  row : w.heap[L]? = some (.cells (lcells L D g sl) 116 (0, 0))
  own : w.ownsRow 0 9 1 sl g.recs.length (strs g.recs)
  uL : U L
  uR : ∀ b, sl.ownBlock = some b → U b
  ok : g.ok
/-- Log L is g, on the disk D, which is d; both have come since W, and have nothing of Q. -/
structure Pair (W : World) (Q : Nat → Prop) (L D : Nat) (g : PL) (d : PD) (w : World) : Prop where
  ex : ∃ U sl, Mine W (fun k => Q k ∨ U k) D d w ∧ LogAt L D g sl U w ∧ ∀ k, U k → W.heap.size ≤ k ∧ ¬ Q k
theorem ownsRow_of {B : Nat} {e : TypeId} {sz : Nat} {v : Value} {n : Nat} {xs : List Value} {w w' : World} (h : w.ownsRow B e sz v n xs) (hk : ∀ g, v.ownBlock = some g → w'.heap[g]? = w.heap[g]?) : w'.ownsRow B e sz v n xs := Dsk.ownsRow_of h hk
theorem mine_set {W : World} {Q : Nat → Prop} {D : Nat} {d : PD} {w : World} (h : Mine W Q D d w) (p : Addr) (hp : Q p.block) (hW : W.heap.size ≤ p.block) (v : Value) : Mine W Q D d (w.setCell p v) := by
  obtain ⟨⟨T, hT, hq⟩, hB, hl⟩ := h
  refine ⟨⟨T, hT.keep (T' := fun k => k = p.block) ((Only.refl (fun k => k = p.block) w).set (.inl rfl) v) (fun k hk e => (hq k hk).2 (by rw [e]; exact hp)), hq⟩, hB.setCell hW v, fun k hk => by simpa using hl k hk⟩
section
variable {W : World} {Q : Nat → Prop} {L D : Nat} {g : PL} {d : PD} {sl : Value} {U : Nat → Prop} {w w' : World}
theorem LogAt.keep (h : LogAt L D g sl U w) (hk : ∀ k, U k → w'.heap[k]? = w.heap[k]?) : LogAt L D g sl U w' :=
  ⟨(hk L h.uL).trans h.row, ownsRow_of h.own (fun b hb => hk b (h.uR b hb)), h.uL, h.uR, h.ok⟩
theorem LogAt.cellAt (h : LogAt L D g sl U w) (j : Nat) : w.cell? ⟨L, j, none⟩ = (lcells L D g sl)[j]? := cell_of_row w L j _ _ (0, 0) h.row
theorem Pair.ok (h : Pair W Q L D g d w) : g.ok := by
  obtain ⟨U, sl, _, hl, _⟩ := h.ex
  exact hl.ok
theorem Pair.dok (h : Pair W Q L D g d w) : d.ok := by
  obtain ⟨U, sl, hm, _, _⟩ := h.ex
  exact hm.ok
theorem Pair.bel (h : Pair W Q L D g d w) : Below W.heap.size W w := by
  obtain ⟨U, sl, hm, _, _⟩ := h.ex
  exact hm.bel
theorem Pair.qlt (h : Pair W Q L D g d w) : ∀ k, Q k → k < w.heap.size := by
  obtain ⟨U, sl, hm, _, _⟩ := h.ex
  exact fun k hk => hm.qlt k (.inl hk)
theorem Pair.cells (h : Pair W Q L D g d w) : w.cell? ⟨L, 0, none⟩ = some (.pointer (some ⟨L, 0, none⟩)) ∧ w.cell? ⟨L, 1, none⟩ = some (.pointer (some ⟨D, 0, none⟩)) ∧ w.cell? ⟨L, 2, none⟩ = some (.int .i64 (g.F : Int)) ∧ w.cell? ⟨L, 3, none⟩ = some (.int .i64 (g.n : Int)) ∧ w.cell? ⟨L, 4, none⟩ = some (.int .u64 (g.turn : Int)) ∧ w.cell? ⟨L, 6, none⟩ = some (.int .i64 (g.used : Int)) ∧ w.cell? ⟨L, 7, none⟩ = some (.bool g.halted) := by
  obtain ⟨U, sl, hm, hl, _⟩ := h.ex
  exact ⟨hl.cellAt 0, hl.cellAt 1, hl.cellAt 2, hl.cellAt 3, hl.cellAt 4, hl.cellAt 6, hl.cellAt 7⟩
theorem Pair.z (h : Pair W Q L D g d w) (j : Nat) : w.frozen? ⟨L, j, none⟩ = false := by
  obtain ⟨U, sl, hm, hl, _⟩ := h.ex
  exact frozen_of_row w L j _ _ hl.row
theorem Pair.later (h : Pair W Q L D g d w) (hb : Below w.heap.size w w') : Pair W Q L D g d w' := by
  obtain ⟨U, sl, hm, hl, hu⟩ := h.ex
  exact ⟨U, sl, hm.later hb, hl.keep (fun k hk => hb.block k (hm.qlt k (.inr hk))), hu⟩
theorem Pair.kept (h : Pair W Q L D g d w) (hb : Below w.heap.size w w') : KeepQ Q w w' := fun k hk => hb.block k (h.qlt k hk)
/-- What has come by a quiet call is kept, too. -/
theorem Pair.guard (h : Pair W Q L D g d w) (hb : Below w.heap.size w w') : Pair W (fun k => Q k ∨ (w.heap.size ≤ k ∧ k < w'.heap.size)) L D g d w' := by
  obtain ⟨U, sl, hm, hl, hu⟩ := h.ex
  have hg := hm.guard hb
  obtain ⟨⟨T, hT, hq⟩, hB, hql⟩ := hg
  refine ⟨U, sl, ⟨⟨T, hT, fun k hk => ⟨(hq k hk).1, fun e => (hq k hk).2 ?_⟩⟩, hB, fun k hk => hql k ?_⟩, hl.keep (fun k hk => hb.block k (hm.qlt k (.inr hk))), fun k hk => ⟨(hu k hk).1, fun e => ?_⟩⟩
  · rcases e with (e | e) | e
    · exact .inl (.inl e)
    · exact .inr e
    · exact .inl (.inr e)
  · rcases hk with (e | e) | e
    · exact .inl (.inl e)
    · exact .inr e
    · exact .inl (.inr e)
  · rcases e with e | e
    · exact (hu k hk).2 e
    · have := hm.qlt k (.inr hk); omega
/-- Less is kept. -/
theorem Pair.less {Q' : Nat → Prop} (h : Pair W Q L D g d w) (hQ : ∀ k, Q' k → Q k) : Pair W Q' L D g d w := by
  obtain ⟨U, sl, ⟨⟨T, hT, hq⟩, hB, hql⟩, hl, hu⟩ := h.ex
  exact ⟨U, sl, ⟨⟨T, hT, fun k hk => ⟨(hq k hk).1, fun e => (hq k hk).2 (e.imp (hQ k) id)⟩⟩, hB, fun k hk => hql k (hk.imp (hQ k) id)⟩, hl, fun k hk => ⟨(hu k hk).1, fun e => (hu k hk).2 (hQ k e)⟩⟩
/-- The disk alone changes. -/
theorem Pair.disk {d' : PD} (hl : LogAt L D g sl U w) (hu : ∀ k, U k → W.heap.size ≤ k ∧ ¬ Q k) (hm : Mine W (fun k => Q k ∨ U k) D d' w') (hk : KeepQ (fun k => Q k ∨ U k) w w') : Pair W Q L D g d' w' ∧ KeepQ Q w w' :=
  ⟨⟨U, sl, hm, hl.keep (fun k hU => hk k (.inr hU)), hu⟩, fun k hQ => hk k (.inl hQ)⟩
theorem own_row {B : Nat} {v : Value} {n : Nat} {xs : List Value} {cs : Array Value} (hL : w.heap[L]? = some (.cells cs 116 (0, 0))) (h : w.ownsRow B 9 1 v n xs) (i : Nat) (u : Value) : (w.setCell ⟨L, i, none⟩ u).ownsRow B 9 1 v n xs := by
  refine ⟨h.1, ?_⟩
  rcases h.2 with h2 | ⟨b, c, cur, hv, hg, hh, rest⟩
  · exact .inl h2
  · have hne : b ≠ L := fun e => by rw [e, hL] at hh; simp at hh
    exact .inr ⟨b, c, cur, hv, hg, (heap_setCell_other w _ b u hne).trans hh, rest⟩
/-- One field of the log's block is written, but that of the records. -/
theorem Pair.put (h : Pair W Q L D g d w) (i : Nat) (v : Value) (g' : PL) (hc : ∀ sl, (lcells L D g sl).setIfInBounds i v = lcells L D g' sl) (hr : g'.recs = g.recs) (hok : g'.ok) : Pair W Q L D g' d (w.setCell ⟨L, i, none⟩ v) ∧ KeepQ Q w (w.setCell ⟨L, i, none⟩ v) := by
  obtain ⟨U, sl, hm, hl, hu⟩ := h.ex
  refine ⟨⟨U, sl, mine_set hm _ (.inr hl.uL) (hu L hl.uL).1 v, ⟨?_, ?_, hl.uL, hl.uR, hok⟩, hu⟩, fun k hk => heap_setCell_other w _ k v (fun e => (hu L hl.uL).2 (by rw [← show k = L from e]; exact hk))⟩
  · rw [heap_setCell_same w L i _ _ v hl.row, hc]
  · rw [hr]; exact own_row hl.row hl.own i v
/-- The records are taken away. -/
theorem Pair.clear (h : Pair W Q L D g d w) (g' : PL) (hg : g' = { g with recs := [] }) : Pair W Q L D g' d (w.setCell ⟨L, 5, none⟩ (.slice none 0 0)) ∧ KeepQ Q w (w.setCell ⟨L, 5, none⟩ (.slice none 0 0)) := by
  obtain ⟨U, sl, hm, hl, hu⟩ := h.ex
  subst hg
  refine ⟨⟨U, .slice none 0 0, mine_set hm _ (.inr hl.uL) (hu L hl.uL).1 _, ⟨?_, World.ownsRow_nil _ _ _ _, hl.uL, fun b hb => (by cases hb), ?_⟩, hu⟩, fun k hk => heap_setCell_other w _ k _ (fun e => (hu L hl.uL).2 (by rw [← show k = L from e]; exact hk))⟩
  · rw [heap_setCell_same w L 5 _ _ _ hl.row]; rfl
  · obtain ⟨h1, h2, h3, h4, h5⟩ := hl.ok
    exact ⟨h1, h2, h3, h4, Nat.zero_le _⟩
end
theorem KeepQ.refl (Q : Nat → Prop) (w : World) : KeepQ Q w w := fun _ _ => rfl
/-- What is no log that was given. -/
def NotLog (p : Option Addr) (w : World) : Prop := p = none ∨ ∃ Z, p = some ⟨Z, 0, none⟩ ∧ w.cell? ⟨Z, 0, none⟩ = some (.pointer none)
theorem NotLog.later {p : Option Addr} {w w' : World} (h : NotLog p w) (hb : Below w.heap.size w w') : NotLog p w' := by
  rcases h with h | ⟨Z, h1, h2⟩
  · exact .inl h
  · exact .inr ⟨Z, h1, cell_later hb h2⟩
theorem eqlIn_nil (w : World) (d : Nat) (a : Addr) : (Op.equalIn (d + 1) 82 (.pointer none) (.pointer (some a))).run Tryz.prog w = .ok false w := by
  simp [Op.equalIn, run_underlying Tryz.underlying82]
theorem eql_nil (w : World) (a : Addr) : (binOp .eql 82 (.pointer none) (.pointer (some a))).run Tryz.prog w = .ok (.bool false) w := by
  simp only [binOp, Sem.run_bind]
  rw [show Op.equal 82 (.pointer none) (.pointer (some a)) = Op.equalIn (9999 + 1) 82 (.pointer none) (.pointer (some a)) from rfl, eqlIn_nil]
  rfl
theorem eqlIn_same (w : World) (d : Nat) (a : Addr) : (Op.equalIn (d + 1) 82 (.pointer (some a)) (.pointer (some a))).run Tryz.prog w = .ok true w := by
  have hs : (sizeOf 116).run Tryz.prog w = .ok 8 w := by simp [go_sem]
  simp [Op.equalIn, run_underlying Tryz.underlying82, hs, run_sameAddr_same]
theorem eql_same (w : World) (a : Addr) : (binOp .eql 82 (.pointer (some a)) (.pointer (some a))).run Tryz.prog w = .ok (.bool true) w := by
  simp only [binOp, Sem.run_bind]
  rw [show Op.equal 82 (.pointer (some a)) (.pointer (some a)) = Op.equalIn (9999 + 1) 82 (.pointer (some a)) (.pointer (some a)) from rfl, eqlIn_same]
  rfl
set_option maxHeartbeats 1000000 in
theorem lgiven_no (p : Option Addr) (w : World) (h : NotLog p w) : Calls Tryz.prog 77 #[.pointer p] w fun e w' => e = .returned (.bool false) ∧ w = w' := by
  rcases h with rfl | ⟨Z, rfl, hz⟩
  · go_enter Tryz.func77, Tryz.ntmps77
    go_wp2_with fail
    go_ret
    exact ⟨rfl, rfl⟩
  · have he := fun w => eql_nil w ⟨Z, 0, none⟩
    go_enter Tryz.func77, Tryz.ntmps77
    go_wp2_with fail
    go_ret
    exact ⟨rfl, rfl⟩
set_option maxHeartbeats 1000000 in
theorem lgiven_yes (L : Nat) (w : World) (h : w.cell? ⟨L, 0, none⟩ = some (.pointer (some ⟨L, 0, none⟩))) : Calls Tryz.prog 77 #[.pointer (some ⟨L, 0, none⟩)] w fun e w' => e = .returned (.bool true) ∧ w = w' := by
  have he := fun w => eql_same w ⟨L, 0, none⟩
  go_enter Tryz.func77, Tryz.ntmps77
  go_wp2_with fail
  go_ret
  exact ⟨rfl, rfl⟩
set_option maxHeartbeats 1000000 in
theorem state_no (p : Option Addr) (w : World) (h : NotLog p w) : Calls Tryz.prog 108 #[.pointer p] w fun e w' => e = .returned (.int .i64 13) ∧ w = w' := by
  have G := hidm (lgiven_no p w h)
  go_enter Tryz.func108, Tryz.ntmps108
  go_wp2_with fail
  refine G.out.mono ?_
  rintro e w1 ⟨rfl, rfl⟩
  go_wp2_with fail
  go_ret
  exact ⟨rfl, rfl⟩
/-- The error of a halted log. -/
def PL.err (g : PL) : Int := if g.halted then 6 else 0
section
variable {W : World} {Q : Nat → Prop} {L D : Nat} {g : PL} {d : PD} {w : World}
set_option maxHeartbeats 1000000 in
theorem state_any (h : Pair W Q L D g d w) : Calls Tryz.prog 108 #[.pointer (some ⟨L, 0, none⟩)] w fun e w' => e = .returned (.int .i64 g.err) ∧ w = w' := by
  obtain ⟨c0, _, _, _, _, _, c7⟩ := h.cells
  have G := hidm (lgiven_yes L w c0)
  unfold PL.err
  obtain ⟨b, hb⟩ : ∃ b, b = g.halted := ⟨_, rfl⟩
  rw [← hb] at c7 ⊢
  clear h hb
  cases b with
  | false =>
    go_enter Tryz.func108, Tryz.ntmps108
    go_wp2_with fail
    refine G.out.mono ?_
    rintro e w1 ⟨rfl, rfl⟩
    go_wp2_with fail
    go_ret
    exact ⟨rfl, rfl⟩
  | true =>
    go_enter Tryz.func108, Tryz.ntmps108
    go_wp2_with fail
    refine G.out.mono ?_
    rintro e w1 ⟨rfl, rfl⟩
    go_wp2_with fail
    go_ret
    exact ⟨rfl, rfl⟩
def PL.halt (g : PL) : PL := { g with halted := true }
theorem Pair.halt (h : Pair W Q L D g d w) : Pair W Q L D g.halt d (w.setCell ⟨L, 7, none⟩ (.bool true)) ∧ KeepQ Q w (w.setCell ⟨L, 7, none⟩ (.bool true)) := h.put 7 _ g.halt (fun _ => rfl) rfl h.ok
set_option maxHeartbeats 1000000 in
theorem checked_ok (L : Nat) (w : World) : Calls Tryz.prog 115 #[.pointer (some ⟨L, 0, none⟩), .int .i64 0] w fun e w' => e = .returned (.int .i64 0) ∧ w = w' := by
  go_enter Tryz.func115, Tryz.ntmps115
  go_wp2_with fail
  go_ret
  exact ⟨rfl, rfl⟩
set_option maxHeartbeats 1000000 in
theorem checked_off (h : Pair W Q L D g d w) : Calls Tryz.prog 115 #[.pointer (some ⟨L, 0, none⟩), .int .i64 6] w fun e w' => e = .returned (.int .i64 6) ∧ Pair W Q L D g.halt d w' ∧ KeepQ Q w w' := by
  obtain ⟨_, _, _, _, _, _, c7⟩ := h.cells
  have z := h.z 7
  have HH := hidm h.halt
  clear h
  go_enter Tryz.func115, Tryz.ntmps115
  go_wp2_with fail
  go_ret
  exact ⟨rfl, HH.out.1, HH.out.2⟩
set_option maxHeartbeats 4000000 in
set_option maxRecDepth 100000 in
theorem fits_any (m : Nat) (hm : m ≤ 9223372036854775807) (h : Pair W Q L D g d w) : Calls Tryz.prog 45 #[.pointer (some ⟨L, 0, none⟩), .int .i64 (m : Int)] w fun e w' => e = .returned (.bool (decide ((m - 1) / 100 + 1 ≤ g.n - g.used))) ∧ Below w.heap.size w w' := by
  obtain ⟨c0, _, _, c3, _, c6, _⟩ := h.cells
  have C0 := hidm c0
  have C3 := hidm c3
  have C6 := hidm c6
  have P := hidm (fun w => parts_any m hm w)
  obtain ⟨_, hb1, _, hb2, _⟩ := h.ok
  obtain ⟨k, hk⟩ : ∃ k, k = (m - 1) / 100 + 1 := ⟨_, rfl⟩
  rw [← hk] at P ⊢
  obtain ⟨r, hr⟩ : ∃ r, r = g.n - g.used := ⟨_, rfl⟩
  have hsub : (g.n : Int) - (g.used : Int) = (r : Int) := by omega
  have hwr : IntKind.i64.wrap (r : Int) = (r : Int) := by simp only [IntKind.wrap_i64]; omega
  have hm0 : (0 : Int) ≤ (m : Int) := by omega
  rw [← hr]
  clear h hk hr c0 c3 c6
  by_cases hkr : k ≤ r
  · have f1 : (k : Int) ≤ (r : Int) := by omega
    go_enter Tryz.func45, Tryz.ntmps45
    go_wp2_with fail
    refine wp_region_held_drew (S := fun u => u.cell? ⟨L, 0, none⟩ = some (.pointer (some ⟨L, 0, none⟩)) ∧ u.cell? ⟨L, 3, none⟩ = some (.int .i64 (g.n : Int)) ∧ u.cell? ⟨L, 6, none⟩ = some (.int .i64 (g.used : Int)) ∧ Below w.heap.size w u) (by kernel_rfl) (⟨C0.out, C3.out, C6.out, (Below.refl _ _).drew⟩) (fun hHeld => ?_)
    refine Man.take1 (i := 0) (v := ?_) rfl (by kernel_rfl) (by kernel_rfl) (by kernel_rfl) (fun _ _ _ h => h) (by rfl) ?_ (by assumption) ?_
    rotate_left
    · (intro u hSu; (try dsimp only at hSu); go_simp; (try with_reducible rfl))
    (try simp only [Act.put, List.setIfInBounds_toArray, List.set_cons_zero, List.set_cons_succ])
    refine Man.one (i := 1) rfl (by kernel_rfl) (fun K hK => ?_)
    go_simp
    refine (lgiven_yes L _ hHeld.1).mono ?_
    rintro e w5 ⟨rfl, rfl⟩
    refine hK.out _ _ (hHeld) (fun hNew => ?_)
    clear hK K hHeld
    have hHeld := hNew
    clear hNew
    (try simp only [Act.put, List.setIfInBounds_toArray, List.set_cons_zero, List.set_cons_succ])
    refine Man.take1 (i := 2) (v := ?_) rfl (by kernel_rfl) (by kernel_rfl) (by kernel_rfl) (fun _ _ _ h => h) (by rfl) ?_ (by assumption) ?_
    rotate_left
    · (intro u hSu; (try dsimp only at hSu); go_simp; (try with_reducible rfl))
    (try simp only [Act.put, List.setIfInBounds_toArray, List.set_cons_zero, List.set_cons_succ])
    refine Man.take1 (i := 3) (v := ?_) rfl (by kernel_rfl) (by kernel_rfl) (by kernel_rfl) (fun _ _ _ h => h) (by rfl) ?_ (by assumption) ?_
    rotate_left
    · (intro u hSu; (try dsimp only at hSu); go_simp; (try with_reducible rfl))
    (try simp only [Act.put, List.setIfInBounds_toArray, List.set_cons_zero, List.set_cons_succ])
    refine Man.take1 (i := 4) (v := ?_) rfl (by kernel_rfl) (by kernel_rfl) (by kernel_rfl) (fun _ _ _ h => h) (by rfl) ?_ (by assumption) ?_
    rotate_left
    · (intro u hSu; (try dsimp only at hSu); go_simp; (try with_reducible rfl))
    (try simp only [Act.put, List.setIfInBounds_toArray, List.set_cons_zero, List.set_cons_succ])
    refine Man.take1 (i := 5) (v := ?_) rfl (by kernel_rfl) (by kernel_rfl) (by kernel_rfl) (fun _ _ _ h => h) (by rfl) ?_ (by assumption) ?_
    rotate_left
    · (intro u hSu; (try dsimp only at hSu); go_simp; (try with_reducible rfl))
    (try simp only [Act.put, List.setIfInBounds_toArray, List.set_cons_zero, List.set_cons_succ])
    refine Man.take1 (i := 6) (v := ?_) rfl (by kernel_rfl) (by kernel_rfl) (by kernel_rfl) (fun _ _ _ h => h) (by rfl) ?_ (by assumption) ?_
    rotate_left
    · (intro u hSu; (try dsimp only at hSu); go_simp; (try with_reducible rfl))
    (try simp only [Act.put, List.setIfInBounds_toArray, List.set_cons_zero, List.set_cons_succ])
    refine Man.take1 (i := 7) (v := ?_) rfl (by kernel_rfl) (by kernel_rfl) (by kernel_rfl) (fun _ _ _ h => h) (by rfl) ?_ (by assumption) ?_
    rotate_left
    · (intro u hSu; (try dsimp only at hSu); go_simp; (try with_reducible rfl))
    (try simp only [Act.put, List.setIfInBounds_toArray, List.set_cons_zero, List.set_cons_succ])
    refine Man.take1 (i := 9) (v := ?_) rfl (by kernel_rfl) (by kernel_rfl) (by kernel_rfl) (fun _ _ _ h => h) (by rfl) ?_ (by assumption) ?_
    rotate_left
    · (intro u hSu; (try dsimp only at hSu); go_simp; (try with_reducible rfl))
    (try simp only [Act.put, List.setIfInBounds_toArray, List.set_cons_zero, List.set_cons_succ])
    refine Man.take1 (i := 10) (v := ?_) rfl (by kernel_rfl) (by kernel_rfl) (by kernel_rfl) (fun _ _ _ h => h) (by rfl) ?_ (by assumption) ?_
    rotate_left
    · (intro u hSu; (try dsimp only at hSu); go_simp; (try with_reducible rfl))
    (try simp only [Act.put, List.setIfInBounds_toArray, List.set_cons_zero, List.set_cons_succ])
    refine Man.take1 (i := 11) (v := ?_) rfl (by kernel_rfl) (by kernel_rfl) (by kernel_rfl) (fun _ _ _ h => h) (by rfl) ?_ (by assumption) ?_
    rotate_left
    · (intro u hSu; (try dsimp only at hSu); go_simp; (try with_reducible rfl))
    (try simp only [Act.put, List.setIfInBounds_toArray, List.set_cons_zero, List.set_cons_succ])
    refine Man.take1 (i := 12) (v := ?_) rfl (by kernel_rfl) (by kernel_rfl) (by kernel_rfl) (fun _ _ _ h => h) (by rfl) ?_ (by assumption) ?_
    rotate_left
    · (intro u hSu; (try dsimp only at hSu); go_simp; (try with_reducible rfl))
    (try simp only [Act.put, List.setIfInBounds_toArray, List.set_cons_zero, List.set_cons_succ])
    refine Man.take1 (i := 13) (v := ?_) rfl (by kernel_rfl) (by kernel_rfl) (by kernel_rfl) (fun _ _ _ h => h) (by rfl) ?_ (by assumption) ?_
    rotate_left
    · (intro u hSu; (try dsimp only at hSu); go_simp; (try with_reducible rfl))
    (try simp only [Act.put, List.setIfInBounds_toArray, List.set_cons_zero, List.set_cons_succ])
    refine Man.take1 (i := 14) (v := ?_) rfl (by kernel_rfl) (by kernel_rfl) (by kernel_rfl) (fun _ _ _ h => h) (by rfl) ?_ (by assumption) ?_
    rotate_left
    · (intro u hSu; (try dsimp only at hSu); go_simp; (try with_reducible rfl))
    (try simp only [Act.put, List.setIfInBounds_toArray, List.set_cons_zero, List.set_cons_succ])
    refine Man.take1 (i := 15) (v := ?_) rfl (by kernel_rfl) (by kernel_rfl) (by kernel_rfl) (fun _ _ _ h => h) (by rfl) ?_ (by assumption) ?_
    rotate_left
    · (intro u hSu; (try dsimp only at hSu); go_simp; (try with_reducible rfl))
    (try simp only [Act.put, List.setIfInBounds_toArray, List.set_cons_zero, List.set_cons_succ])
    refine Man.take1 (i := 16) (v := ?_) rfl (by kernel_rfl) (by kernel_rfl) (by kernel_rfl) (fun _ _ _ h => h) (by rfl) ?_ (by assumption) ?_
    rotate_left
    · (intro u hSu; (try dsimp only at hSu); go_simp; (try with_reducible rfl))
    (try simp only [Act.put, List.setIfInBounds_toArray, List.set_cons_zero, List.set_cons_succ])
    refine Man.take1 (i := 17) (v := ?_) rfl (by kernel_rfl) (by kernel_rfl) (by kernel_rfl) (fun _ _ _ h => h) (by rfl) ?_ (by assumption) ?_
    rotate_left
    · (intro u hSu; (try dsimp only at hSu); go_simp; (try with_reducible rfl))
    (try simp only [Act.put, List.setIfInBounds_toArray, List.set_cons_zero, List.set_cons_succ])
    refine Man.one (i := 8) rfl (by kernel_rfl) (fun K hK => ?_)
    go_simp
    refine (P.out _).mono ?_
    rintro e w5 ⟨rfl, rfl⟩
    refine hK.out _ _ (hHeld) (fun hNew => ?_)
    clear hK K hHeld
    have hHeld := hNew
    clear hNew
    (try simp only [Act.put, List.setIfInBounds_toArray, List.set_cons_zero, List.set_cons_succ])
    refine Man.take1 (i := 18) (v := ?_) rfl (by kernel_rfl) (by kernel_rfl) (by kernel_rfl) (fun _ _ _ h => h) (by rfl) ?_ (by assumption) ?_
    rotate_left
    · (intro u hSu; (try dsimp only at hSu); go_simp; (try with_reducible rfl))
    (try simp only [Act.put, List.setIfInBounds_toArray, List.set_cons_zero, List.set_cons_succ])
    refine Man.take1 (i := 19) (v := ?_) rfl (by kernel_rfl) (by kernel_rfl) (by kernel_rfl) (fun _ _ _ h => h) (by rfl) ?_ (by assumption) ?_
    rotate_left
    · (intro u hSu; (try dsimp only at hSu); go_simp; (try with_reducible rfl))
    (try simp only [Act.put, List.setIfInBounds_toArray, List.set_cons_zero, List.set_cons_succ])
    refine Man.take1 (i := 20) (v := ?_) rfl (by kernel_rfl) (by kernel_rfl) (by kernel_rfl) (fun _ _ _ h => h) (by rfl) ?_ (by assumption) ?_
    rotate_left
    · (intro u hSu; (try dsimp only at hSu); go_simp; (try with_reducible rfl))
    (try simp only [Act.put, List.setIfInBounds_toArray, List.set_cons_zero, List.set_cons_succ])
    refine wpAnyH_done (by kernel_rfl) ?_ _
    go_wp2_with fail
    go_ret
    exact ⟨by simp [hkr], hHeld.2.2.2⟩
  · have f1 : decide ((k : Int) ≤ (r : Int)) = false := by simp; omega
    go_enter Tryz.func45, Tryz.ntmps45
    go_wp2_with fail
    refine wp_region_held_drew (S := fun u => u.cell? ⟨L, 0, none⟩ = some (.pointer (some ⟨L, 0, none⟩)) ∧ u.cell? ⟨L, 3, none⟩ = some (.int .i64 (g.n : Int)) ∧ u.cell? ⟨L, 6, none⟩ = some (.int .i64 (g.used : Int)) ∧ Below w.heap.size w u) (by kernel_rfl) (⟨C0.out, C3.out, C6.out, (Below.refl _ _).drew⟩) (fun hHeld => ?_)
    refine Man.take1 (i := 0) (v := ?_) rfl (by kernel_rfl) (by kernel_rfl) (by kernel_rfl) (fun _ _ _ h => h) (by rfl) ?_ (by assumption) ?_
    rotate_left
    · (intro u hSu; (try dsimp only at hSu); go_simp; (try with_reducible rfl))
    (try simp only [Act.put, List.setIfInBounds_toArray, List.set_cons_zero, List.set_cons_succ])
    refine Man.one (i := 1) rfl (by kernel_rfl) (fun K hK => ?_)
    go_simp
    refine (lgiven_yes L _ hHeld.1).mono ?_
    rintro e w5 ⟨rfl, rfl⟩
    refine hK.out _ _ (hHeld) (fun hNew => ?_)
    clear hK K hHeld
    have hHeld := hNew
    clear hNew
    (try simp only [Act.put, List.setIfInBounds_toArray, List.set_cons_zero, List.set_cons_succ])
    refine Man.take1 (i := 2) (v := ?_) rfl (by kernel_rfl) (by kernel_rfl) (by kernel_rfl) (fun _ _ _ h => h) (by rfl) ?_ (by assumption) ?_
    rotate_left
    · (intro u hSu; (try dsimp only at hSu); go_simp; (try with_reducible rfl))
    (try simp only [Act.put, List.setIfInBounds_toArray, List.set_cons_zero, List.set_cons_succ])
    refine Man.take1 (i := 3) (v := ?_) rfl (by kernel_rfl) (by kernel_rfl) (by kernel_rfl) (fun _ _ _ h => h) (by rfl) ?_ (by assumption) ?_
    rotate_left
    · (intro u hSu; (try dsimp only at hSu); go_simp; (try with_reducible rfl))
    (try simp only [Act.put, List.setIfInBounds_toArray, List.set_cons_zero, List.set_cons_succ])
    refine Man.take1 (i := 4) (v := ?_) rfl (by kernel_rfl) (by kernel_rfl) (by kernel_rfl) (fun _ _ _ h => h) (by rfl) ?_ (by assumption) ?_
    rotate_left
    · (intro u hSu; (try dsimp only at hSu); go_simp; (try with_reducible rfl))
    (try simp only [Act.put, List.setIfInBounds_toArray, List.set_cons_zero, List.set_cons_succ])
    refine Man.take1 (i := 5) (v := ?_) rfl (by kernel_rfl) (by kernel_rfl) (by kernel_rfl) (fun _ _ _ h => h) (by rfl) ?_ (by assumption) ?_
    rotate_left
    · (intro u hSu; (try dsimp only at hSu); go_simp; (try with_reducible rfl))
    (try simp only [Act.put, List.setIfInBounds_toArray, List.set_cons_zero, List.set_cons_succ])
    refine Man.take1 (i := 6) (v := ?_) rfl (by kernel_rfl) (by kernel_rfl) (by kernel_rfl) (fun _ _ _ h => h) (by rfl) ?_ (by assumption) ?_
    rotate_left
    · (intro u hSu; (try dsimp only at hSu); go_simp; (try with_reducible rfl))
    (try simp only [Act.put, List.setIfInBounds_toArray, List.set_cons_zero, List.set_cons_succ])
    refine Man.take1 (i := 7) (v := ?_) rfl (by kernel_rfl) (by kernel_rfl) (by kernel_rfl) (fun _ _ _ h => h) (by rfl) ?_ (by assumption) ?_
    rotate_left
    · (intro u hSu; (try dsimp only at hSu); go_simp; (try with_reducible rfl))
    (try simp only [Act.put, List.setIfInBounds_toArray, List.set_cons_zero, List.set_cons_succ])
    refine Man.take1 (i := 9) (v := ?_) rfl (by kernel_rfl) (by kernel_rfl) (by kernel_rfl) (fun _ _ _ h => h) (by rfl) ?_ (by assumption) ?_
    rotate_left
    · (intro u hSu; (try dsimp only at hSu); go_simp; (try with_reducible rfl))
    (try simp only [Act.put, List.setIfInBounds_toArray, List.set_cons_zero, List.set_cons_succ])
    refine Man.take1 (i := 10) (v := ?_) rfl (by kernel_rfl) (by kernel_rfl) (by kernel_rfl) (fun _ _ _ h => h) (by rfl) ?_ (by assumption) ?_
    rotate_left
    · (intro u hSu; (try dsimp only at hSu); go_simp; (try with_reducible rfl))
    (try simp only [Act.put, List.setIfInBounds_toArray, List.set_cons_zero, List.set_cons_succ])
    refine Man.take1 (i := 11) (v := ?_) rfl (by kernel_rfl) (by kernel_rfl) (by kernel_rfl) (fun _ _ _ h => h) (by rfl) ?_ (by assumption) ?_
    rotate_left
    · (intro u hSu; (try dsimp only at hSu); go_simp; (try with_reducible rfl))
    (try simp only [Act.put, List.setIfInBounds_toArray, List.set_cons_zero, List.set_cons_succ])
    refine Man.take1 (i := 12) (v := ?_) rfl (by kernel_rfl) (by kernel_rfl) (by kernel_rfl) (fun _ _ _ h => h) (by rfl) ?_ (by assumption) ?_
    rotate_left
    · (intro u hSu; (try dsimp only at hSu); go_simp; (try with_reducible rfl))
    (try simp only [Act.put, List.setIfInBounds_toArray, List.set_cons_zero, List.set_cons_succ])
    refine Man.take1 (i := 13) (v := ?_) rfl (by kernel_rfl) (by kernel_rfl) (by kernel_rfl) (fun _ _ _ h => h) (by rfl) ?_ (by assumption) ?_
    rotate_left
    · (intro u hSu; (try dsimp only at hSu); go_simp; (try with_reducible rfl))
    (try simp only [Act.put, List.setIfInBounds_toArray, List.set_cons_zero, List.set_cons_succ])
    refine Man.take1 (i := 14) (v := ?_) rfl (by kernel_rfl) (by kernel_rfl) (by kernel_rfl) (fun _ _ _ h => h) (by rfl) ?_ (by assumption) ?_
    rotate_left
    · (intro u hSu; (try dsimp only at hSu); go_simp; (try with_reducible rfl))
    (try simp only [Act.put, List.setIfInBounds_toArray, List.set_cons_zero, List.set_cons_succ])
    refine Man.take1 (i := 15) (v := ?_) rfl (by kernel_rfl) (by kernel_rfl) (by kernel_rfl) (fun _ _ _ h => h) (by rfl) ?_ (by assumption) ?_
    rotate_left
    · (intro u hSu; (try dsimp only at hSu); go_simp; (try with_reducible rfl))
    (try simp only [Act.put, List.setIfInBounds_toArray, List.set_cons_zero, List.set_cons_succ])
    refine Man.take1 (i := 16) (v := ?_) rfl (by kernel_rfl) (by kernel_rfl) (by kernel_rfl) (fun _ _ _ h => h) (by rfl) ?_ (by assumption) ?_
    rotate_left
    · (intro u hSu; (try dsimp only at hSu); go_simp; (try with_reducible rfl))
    (try simp only [Act.put, List.setIfInBounds_toArray, List.set_cons_zero, List.set_cons_succ])
    refine Man.take1 (i := 17) (v := ?_) rfl (by kernel_rfl) (by kernel_rfl) (by kernel_rfl) (fun _ _ _ h => h) (by rfl) ?_ (by assumption) ?_
    rotate_left
    · (intro u hSu; (try dsimp only at hSu); go_simp; (try with_reducible rfl))
    (try simp only [Act.put, List.setIfInBounds_toArray, List.set_cons_zero, List.set_cons_succ])
    refine Man.one (i := 8) rfl (by kernel_rfl) (fun K hK => ?_)
    go_simp
    refine (P.out _).mono ?_
    rintro e w5 ⟨rfl, rfl⟩
    refine hK.out _ _ (hHeld) (fun hNew => ?_)
    clear hK K hHeld
    have hHeld := hNew
    clear hNew
    (try simp only [Act.put, List.setIfInBounds_toArray, List.set_cons_zero, List.set_cons_succ])
    refine Man.take1 (i := 18) (v := ?_) rfl (by kernel_rfl) (by kernel_rfl) (by kernel_rfl) (fun _ _ _ h => h) (by rfl) ?_ (by assumption) ?_
    rotate_left
    · (intro u hSu; (try dsimp only at hSu); go_simp; (try with_reducible rfl))
    (try simp only [Act.put, List.setIfInBounds_toArray, List.set_cons_zero, List.set_cons_succ])
    refine Man.take1 (i := 19) (v := ?_) rfl (by kernel_rfl) (by kernel_rfl) (by kernel_rfl) (fun _ _ _ h => h) (by rfl) ?_ (by assumption) ?_
    rotate_left
    · (intro u hSu; (try dsimp only at hSu); go_simp; (try with_reducible rfl))
    (try simp only [Act.put, List.setIfInBounds_toArray, List.set_cons_zero, List.set_cons_succ])
    refine Man.take1 (i := 20) (v := ?_) rfl (by kernel_rfl) (by kernel_rfl) (by kernel_rfl) (fun _ _ _ h => h) (by rfl) ?_ (by assumption) ?_
    rotate_left
    · (intro u hSu; (try dsimp only at hSu); go_simp; (try with_reducible rfl))
    (try simp only [Act.put, List.setIfInBounds_toArray, List.set_cons_zero, List.set_cons_succ])
    refine wpAnyH_done (by kernel_rfl) ?_ _
    go_wp2_with fail
    go_ret
    exact ⟨by simp [hkr], hHeld.2.2.2⟩
end
set_option maxHeartbeats 1000000 in
theorem fits_no (p : Option Addr) (m : Int) (w : World) (h : NotLog p w) : Calls Tryz.prog 45 #[.pointer p, .int .i64 m] w fun e w' => e = .returned (.bool false) ∧ Below w.heap.size w w' := by
  have G := hidm (fun w' hb => lgiven_no p w' (h.later hb))
  go_enter Tryz.func45, Tryz.ntmps45
  go_wp2_with fail
  refine wp_region_held_drew (S := fun u => Below w.heap.size w u) (by kernel_rfl) ((Below.refl _ _).drew) (fun hHeld => ?_)
  refine Man.take1 (i := 0) (v := ?_) rfl (by kernel_rfl) (by kernel_rfl) (by kernel_rfl) (fun _ _ _ h => h) (by rfl) ?_ (by assumption) ?_
  rotate_left
  · (intro u hSu; (try dsimp only at hSu); go_simp; (try with_reducible rfl))
  (try simp only [Act.put, List.setIfInBounds_toArray, List.set_cons_zero, List.set_cons_succ])
  refine Man.one (i := 1) rfl (by kernel_rfl) (fun K hK => ?_)
  go_simp
  refine (G.out _ hHeld).mono ?_
  rintro e w5 ⟨rfl, rfl⟩
  refine hK.out _ _ (hHeld) (fun hNew => ?_)
  clear hK K hHeld
  have hHeld := hNew
  clear hNew
  (try simp only [Act.put, List.setIfInBounds_toArray, List.set_cons_zero, List.set_cons_succ])
  refine Man.take1 (i := 2) (v := ?_) rfl (by kernel_rfl) (by kernel_rfl) (by kernel_rfl) (fun _ _ _ h => h) (by rfl) ?_ (by assumption) ?_
  rotate_left
  · (intro u hSu; (try dsimp only at hSu); go_simp; (try with_reducible rfl))
  (try simp only [Act.put, List.setIfInBounds_toArray, List.set_cons_zero, List.set_cons_succ])
  refine Man.take0 (i := 3) rfl (by kernel_rfl) (by kernel_rfl) (by kernel_rfl) (fun _ _ _ h => h) (by rfl) (by assumption) ?_
  (try simp only [Act.put, List.setIfInBounds_toArray, List.set_cons_zero, List.set_cons_succ])
  refine Man.take0 (i := 4) rfl (by kernel_rfl) (by kernel_rfl) (by kernel_rfl) (fun _ _ _ h => h) (by rfl) (by assumption) ?_
  (try simp only [Act.put, List.setIfInBounds_toArray, List.set_cons_zero, List.set_cons_succ])
  refine Man.take1 (i := 5) (v := ?_) rfl (by kernel_rfl) (by kernel_rfl) (by kernel_rfl) (fun _ _ _ h => h) (by rfl) ?_ (by assumption) ?_
  rotate_left
  · (intro u hSu; (try dsimp only at hSu); go_simp; (try with_reducible rfl))
  (try simp only [Act.put, List.setIfInBounds_toArray, List.set_cons_zero, List.set_cons_succ])
  refine Man.take1 (i := 6) (v := ?_) rfl (by kernel_rfl) (by kernel_rfl) (by kernel_rfl) (fun _ _ _ h => h) (by rfl) ?_ (by assumption) ?_
  rotate_left
  · (intro u hSu; (try dsimp only at hSu); go_simp; (try with_reducible rfl))
  (try simp only [Act.put, List.setIfInBounds_toArray, List.set_cons_zero, List.set_cons_succ])
  refine Man.take0 (i := 7) rfl (by kernel_rfl) (by kernel_rfl) (by kernel_rfl) (fun _ _ _ h => h) (by rfl) (by assumption) ?_
  (try simp only [Act.put, List.setIfInBounds_toArray, List.set_cons_zero, List.set_cons_succ])
  refine Man.take0 (i := 8) rfl (by kernel_rfl) (by kernel_rfl) (by kernel_rfl) (fun _ _ _ h => h) (by rfl) (by assumption) ?_
  (try simp only [Act.put, List.setIfInBounds_toArray, List.set_cons_zero, List.set_cons_succ])
  refine Man.take0 (i := 9) rfl (by kernel_rfl) (by kernel_rfl) (by kernel_rfl) (fun _ _ _ h => h) (by rfl) (by assumption) ?_
  (try simp only [Act.put, List.setIfInBounds_toArray, List.set_cons_zero, List.set_cons_succ])
  refine Man.take0 (i := 10) rfl (by kernel_rfl) (by kernel_rfl) (by kernel_rfl) (fun _ _ _ h => h) (by rfl) (by assumption) ?_
  (try simp only [Act.put, List.setIfInBounds_toArray, List.set_cons_zero, List.set_cons_succ])
  refine Man.take0 (i := 11) rfl (by kernel_rfl) (by kernel_rfl) (by kernel_rfl) (fun _ _ _ h => h) (by rfl) (by assumption) ?_
  (try simp only [Act.put, List.setIfInBounds_toArray, List.set_cons_zero, List.set_cons_succ])
  refine Man.take0 (i := 12) rfl (by kernel_rfl) (by kernel_rfl) (by kernel_rfl) (fun _ _ _ h => h) (by rfl) (by assumption) ?_
  (try simp only [Act.put, List.setIfInBounds_toArray, List.set_cons_zero, List.set_cons_succ])
  refine Man.take0 (i := 13) rfl (by kernel_rfl) (by kernel_rfl) (by kernel_rfl) (fun _ _ _ h => h) (by rfl) (by assumption) ?_
  (try simp only [Act.put, List.setIfInBounds_toArray, List.set_cons_zero, List.set_cons_succ])
  refine Man.take0 (i := 14) rfl (by kernel_rfl) (by kernel_rfl) (by kernel_rfl) (fun _ _ _ h => h) (by rfl) (by assumption) ?_
  (try simp only [Act.put, List.setIfInBounds_toArray, List.set_cons_zero, List.set_cons_succ])
  refine Man.take0 (i := 15) rfl (by kernel_rfl) (by kernel_rfl) (by kernel_rfl) (fun _ _ _ h => h) (by rfl) (by assumption) ?_
  (try simp only [Act.put, List.setIfInBounds_toArray, List.set_cons_zero, List.set_cons_succ])
  refine Man.take0 (i := 16) rfl (by kernel_rfl) (by kernel_rfl) (by kernel_rfl) (fun _ _ _ h => h) (by rfl) (by assumption) ?_
  (try simp only [Act.put, List.setIfInBounds_toArray, List.set_cons_zero, List.set_cons_succ])
  refine Man.take0 (i := 17) rfl (by kernel_rfl) (by kernel_rfl) (by kernel_rfl) (fun _ _ _ h => h) (by rfl) (by assumption) ?_
  (try simp only [Act.put, List.setIfInBounds_toArray, List.set_cons_zero, List.set_cons_succ])
  refine Man.take0 (i := 18) rfl (by kernel_rfl) (by kernel_rfl) (by kernel_rfl) (fun _ _ _ h => h) (by rfl) (by assumption) ?_
  (try simp only [Act.put, List.setIfInBounds_toArray, List.set_cons_zero, List.set_cons_succ])
  refine Man.take1 (i := 19) (v := ?_) rfl (by kernel_rfl) (by kernel_rfl) (by kernel_rfl) (fun _ _ _ h => h) (by rfl) ?_ (by assumption) ?_
  rotate_left
  · (intro u hSu; (try dsimp only at hSu); go_simp; (try with_reducible rfl))
  (try simp only [Act.put, List.setIfInBounds_toArray, List.set_cons_zero, List.set_cons_succ])
  refine Man.take1 (i := 20) (v := ?_) rfl (by kernel_rfl) (by kernel_rfl) (by kernel_rfl) (fun _ _ _ h => h) (by rfl) ?_ (by assumption) ?_
  rotate_left
  · (intro u hSu; (try dsimp only at hSu); go_simp; (try with_reducible rfl))
  (try simp only [Act.put, List.setIfInBounds_toArray, List.set_cons_zero, List.set_cons_succ])
  refine wpAnyH_done (by kernel_rfl) ?_ _
  go_wp2_with fail
  go_ret
  exact ⟨rfl, hHeld⟩
section
variable {W : World} {Q : Nat → Prop} {L D : Nat} {g : PL} {d : PD} {w : World}
theorem Pair.read (h : Pair W Q L D g d w) (k : Nat) (hk : k < d.n) : Calls Tryz.prog 70 #[.pointer (some ⟨D, 0, none⟩), .int .i64 (k : Int)] w fun e w' => e = .returned (.tuple #[.string (S (d.f k)), .int .i64 0]) ∧ Below w.heap.size w w' := by
  obtain ⟨U, sl, hm, hl, hu⟩ := h.ex
  exact Dsk.m_read k hm hk
theorem Pair.write (h : Pair W Q L D g d w) (k : Nat) (s : ByteArray) (hs : s.size ≤ 128) (hk : k < d.n) (hb : d.burnt = false) (hc : d.cs.length < 1000000) (hw : d.wr < 1000000) :
    Calls Tryz.prog 98 #[.pointer (some ⟨D, 0, none⟩), .int .i64 (k : Int), .string s] w fun e w' => e = .returned (.int .i64 0) ∧ Pair W Q L D g (d.write k s.data.toList).burn w' ∧ KeepQ Q w w' := by
  obtain ⟨U, sl, hm, hl, hu⟩ := h.ex
  exact (Dsk.m_write k s hs hm hk hb hc hw).mono fun _ _ ⟨he, hd, ho⟩ => ⟨he, Pair.disk hl hu hd ho⟩
theorem Pair.write_burnt (h : Pair W Q L D g d w) (k : Nat) (s : ByteArray) (hs : s.size ≤ 128) (hk : k < d.n) (hb : d.burnt = true) :
    Calls Tryz.prog 98 #[.pointer (some ⟨D, 0, none⟩), .int .i64 (k : Int), .string s] w fun e w' => e = .returned (.int .i64 6) ∧ Below w.heap.size w w' := by
  obtain ⟨U, sl, hm, hl, hu⟩ := h.ex
  exact Dsk.m_write_burnt k s hs hm hk hb
theorem Pair.flush (h : Pair W Q L D g d w) (hb : d.burnt = false) (hf : d.fl < 1000000) :
    Calls Tryz.prog 99 #[.pointer (some ⟨D, 0, none⟩)] w fun e w' => e = .returned (.int .i64 0) ∧ Pair W Q L D g d.flush.burn w' ∧ KeepQ Q w w' := by
  obtain ⟨U, sl, hm, hl, hu⟩ := h.ex
  exact (Dsk.m_flush hm hb hf).mono fun _ _ ⟨he, hd, ho⟩ => ⟨he, Pair.disk hl hu hd ho⟩
theorem Pair.flush_burnt (h : Pair W Q L D g d w) (hb : d.burnt = true) :
    Calls Tryz.prog 99 #[.pointer (some ⟨D, 0, none⟩)] w fun e w' => e = .returned (.int .i64 6) ∧ Below w.heap.size w w' := by
  obtain ⟨U, sl, hm, hl, hu⟩ := h.ex
  exact Dsk.m_flush_burnt hm hb
/-- What the log's block says of its disk. -/
def Seat (L D F : Nat) (u : World) : Prop := u.cell? ⟨L, 1, none⟩ = some (.pointer (some ⟨D, 0, none⟩)) ∧ u.cell? ⟨L, 2, none⟩ = some (.int .i64 (F : Int))
set_option maxHeartbeats 2000000 in
set_option maxRecDepth 100000 in
theorem sector_any (h : Pair W Q L D g d w) (i : Nat) (hi : i ≤ 2000) (hd : g.F + i < d.n) :
    Calls Tryz.prog 86 #[.pointer (some ⟨L, 0, none⟩), .int .i64 (i : Int)] w fun e w' => e = .returned (.string (S (d.f ((g.F + i : Nat) : Int)))) ∧ Below w.heap.size w w' := by
  have c1 := h.cells.2.1
  have c2 := h.cells.2.2.1
  obtain ⟨hF, _, _, _, _⟩ := h.ok
  obtain ⟨k, hk⟩ : ∃ k, k = g.F + i := ⟨_, rfl⟩
  have hsum : (g.F : Int) + (i : Int) = (k : Int) := by omega
  have hwk : IntKind.i64.wrap (k : Int) = (k : Int) := by simp only [IntKind.wrap_i64]; omega
  have hwk2 : wrap64 (k : Int) = (k : Int) := by unfold wrap64; omega
  rw [← hk] at hd ⊢
  obtain ⟨F, hFF⟩ : ∃ F, F = g.F := ⟨_, rfl⟩
  rw [← hFF] at c2 hsum
  have H := hidm h
  have C1 := hidm c1
  have C2 := hidm c2
  clear h hk hFF c1 c2 hF
  go_enter Tryz.func86, Tryz.ntmps86
  go_wp2_with fail
  refine wp_region_held_drew (S := fun u => u.cell? ⟨L, 1, none⟩ = some (.pointer (some ⟨D, 0, none⟩)) ∧ u.cell? ⟨L, 2, none⟩ = some (.int .i64 (F : Int)) ∧ Below w.heap.size w u) (by kernel_rfl) (⟨C1.out, C2.out, (Below.refl _ _).drew⟩) (fun hHeld => ?_)
  refine Man.take1 (i := 0) (v := ?_) rfl (by kernel_rfl) (by kernel_rfl) (by kernel_rfl) (fun _ _ _ h => h) (by rfl) ?_ (by assumption) ?_
  rotate_left
  · (intro u hSu; (try dsimp only at hSu); go_simp; (try with_reducible rfl))
  (try simp only [Act.put, List.setIfInBounds_toArray, List.set_cons_zero, List.set_cons_succ])
  refine Man.take1 (i := 1) (v := ?_) rfl (by kernel_rfl) (by kernel_rfl) (by kernel_rfl) (fun _ _ _ h => h) (by rfl) ?_ (by assumption) ?_
  rotate_left
  · (intro u hSu; (try dsimp only at hSu); go_simp; (try with_reducible rfl))
  (try simp only [Act.put, List.setIfInBounds_toArray, List.set_cons_zero, List.set_cons_succ])
  refine Man.take1 (i := 2) (v := ?_) rfl (by kernel_rfl) (by kernel_rfl) (by kernel_rfl) (fun _ _ _ h => h) (by rfl) ?_ (by assumption) ?_
  rotate_left
  · (intro u hSu; (try dsimp only at hSu); go_simp; (try with_reducible rfl))
  (try simp only [Act.put, List.setIfInBounds_toArray, List.set_cons_zero, List.set_cons_succ])
  refine Man.take1 (i := 3) (v := ?_) rfl (by kernel_rfl) (by kernel_rfl) (by kernel_rfl) (fun _ _ _ h => h) (by rfl) ?_ (by assumption) ?_
  rotate_left
  · (intro u hSu; (try dsimp only at hSu); go_simp; (try with_reducible rfl))
  (try simp only [Act.put, List.setIfInBounds_toArray, List.set_cons_zero, List.set_cons_succ])
  refine Man.take1 (i := 4) (v := ?_) rfl (by kernel_rfl) (by kernel_rfl) (by kernel_rfl) (fun _ _ _ h => h) (by rfl) ?_ (by assumption) ?_
  rotate_left
  · (intro u hSu; (try dsimp only at hSu); go_simp; (try with_reducible rfl))
  (try simp only [Act.put, List.setIfInBounds_toArray, List.set_cons_zero, List.set_cons_succ])
  refine Man.take1 (i := 5) (v := ?_) rfl (by kernel_rfl) (by kernel_rfl) (by kernel_rfl) (fun _ _ _ h => h) (by rfl) ?_ (by assumption) ?_
  rotate_left
  · (intro u hSu; (try dsimp only at hSu); go_simp; (try with_reducible rfl))
  (try simp only [Act.put, List.setIfInBounds_toArray, List.set_cons_zero, List.set_cons_succ])
  refine Man.take1 (i := 6) (v := ?_) rfl (by kernel_rfl) (by kernel_rfl) (by kernel_rfl) (fun _ _ _ h => h) (by rfl) ?_ (by assumption) ?_
  rotate_left
  · (intro u hSu; (try dsimp only at hSu); go_simp; (try with_reducible rfl))
  (try simp only [Act.put, List.setIfInBounds_toArray, List.set_cons_zero, List.set_cons_succ])
  refine Man.take1 (i := 7) (v := ?_) rfl (by kernel_rfl) (by kernel_rfl) (by kernel_rfl) (fun _ _ _ h => h) (by rfl) ?_ (by assumption) ?_
  rotate_left
  · (intro u hSu; (try dsimp only at hSu); go_simp; (try with_reducible rfl))
  (try simp only [Act.put, List.setIfInBounds_toArray, List.set_cons_zero, List.set_cons_succ])
  refine Man.take1 (i := 8) (v := ?_) rfl (by kernel_rfl) (by kernel_rfl) (by kernel_rfl) (fun _ _ _ h => h) (by rfl) ?_ (by assumption) ?_
  rotate_left
  · (intro u hSu; (try dsimp only at hSu); go_simp; (try with_reducible rfl))
  (try simp only [Act.put, List.setIfInBounds_toArray, List.set_cons_zero, List.set_cons_succ])
  refine Man.take1 (i := 9) (v := ?_) rfl (by kernel_rfl) (by kernel_rfl) (by kernel_rfl) (fun _ _ _ h => h) (by rfl) ?_ (by assumption) ?_
  rotate_left
  · (intro u hSu; (try dsimp only at hSu); go_simp; (try with_reducible rfl))
  (try simp only [Act.put, List.setIfInBounds_toArray, List.set_cons_zero, List.set_cons_succ])
  refine Man.one (i := 10) rfl (by kernel_rfl) (fun K hK => ?_)
  go_simp
  refine ((H.out.later hHeld.2.2).read k hd).mono ?_
  rintro e w5 ⟨rfl, hb⟩
  have HBB := hidm hb
  refine hK.out _ _ (⟨cell_later hb hHeld.1, cell_later hb hHeld.2.1, hHeld.2.2.trans (hb.mono hHeld.2.2.size)⟩) (fun hNew => ?_)
  clear hK K hHeld
  have hHeld := hNew
  clear hNew
  (try simp only [Act.put, List.setIfInBounds_toArray, List.set_cons_zero, List.set_cons_succ])
  refine Man.take1 (i := 11) (v := ?_) rfl (by kernel_rfl) (by kernel_rfl) (by kernel_rfl) (fun _ _ _ h => h) (by rfl) ?_ (by assumption) ?_
  rotate_left
  · (intro u hSu; (try dsimp only at hSu); go_simp; (try with_reducible rfl))
  (try simp only [Act.put, List.setIfInBounds_toArray, List.set_cons_zero, List.set_cons_succ])
  refine Man.take1 (i := 12) (v := ?_) rfl (by kernel_rfl) (by kernel_rfl) (by kernel_rfl) (fun _ _ _ h => h) (by rfl) ?_ (by assumption) ?_
  rotate_left
  · (intro u hSu; (try dsimp only at hSu); go_simp; (try with_reducible rfl))
  (try simp only [Act.put, List.setIfInBounds_toArray, List.set_cons_zero, List.set_cons_succ])
  refine Man.take1 (i := 13) (v := ?_) rfl (by kernel_rfl) (by kernel_rfl) (by kernel_rfl) (fun _ _ _ h => h) (by rfl) ?_ (by assumption) ?_
  rotate_left
  · (intro u hSu; (try dsimp only at hSu); go_simp; (try with_reducible rfl))
  (try simp only [Act.put, List.setIfInBounds_toArray, List.set_cons_zero, List.set_cons_succ])
  refine Man.take1 (i := 14) (v := ?_) rfl (by kernel_rfl) (by kernel_rfl) (by kernel_rfl) (fun _ _ _ h => h) (by rfl) ?_ (by assumption) ?_
  rotate_left
  · (intro u hSu; (try dsimp only at hSu); go_simp; (try with_reducible rfl))
  (try simp only [Act.put, List.setIfInBounds_toArray, List.set_cons_zero, List.set_cons_succ])
  refine Man.take1 (i := 15) (v := ?_) rfl (by kernel_rfl) (by kernel_rfl) (by kernel_rfl) (fun _ _ _ h => h) (by rfl) ?_ (by assumption) ?_
  rotate_left
  · (intro u hSu; (try dsimp only at hSu); go_simp; (try with_reducible rfl))
  (try simp only [Act.put, List.setIfInBounds_toArray, List.set_cons_zero, List.set_cons_succ])
  refine wpAnyH_done (by kernel_rfl) ?_ _
  go_wp2_with fail
  go_ret
  exact ⟨rfl, hHeld.2.2⟩
set_option maxHeartbeats 4000000 in
set_option maxRecDepth 100000 in
theorem lay_on (h : Pair W Q L D g d w) (i : Nat) (hi : i ≤ 2000) (hd : g.F + i < d.n) (s : ByteArray) (hs : s.size ≤ 123) (hb : d.burnt = false) (hc : d.cs.length < 1000000) (hw : d.wr < 1000000) :
    Calls Tryz.prog 89 #[.pointer (some ⟨L, 0, none⟩), .int .i64 (i : Int), .string s] w fun e w' => e = .returned (.int .i64 0) ∧ Pair W Q L D g (d.write (g.F + i) (sealB s.data.toList)).burn w' ∧ KeepQ Q w w' := by
  have c1 := h.cells.2.1
  have c2 := h.cells.2.2.1
  obtain ⟨hF, _, _, _, _⟩ := h.ok
  obtain ⟨k, hk⟩ : ∃ k, k = g.F + i := ⟨_, rfl⟩
  have hsum : (g.F : Int) + (i : Int) = (k : Int) := by omega
  have hwk : IntKind.i64.wrap (k : Int) = (k : Int) := by simp only [IntKind.wrap_i64]; omega
  have hwk2 : wrap64 (k : Int) = (k : Int) := by unfold wrap64; omega
  have hss : (S (sealB s.data.toList)).size ≤ 128 := by
    rw [S_size, sealB_len (by rw [len_eq]; omega), len_eq]
    omega
  rw [← hk] at hd ⊢
  obtain ⟨F, hFF⟩ : ∃ F, F = g.F := ⟨_, rfl⟩
  rw [← hFF] at c2 hsum
  have H := hidm h
  have C1 := hidm c1
  have C2 := hidm c2
  have SL := hidm (fun w => seal_any s (by omega) w)
  obtain ⟨x, hx⟩ : ∃ x, x = S (sealB s.data.toList) := ⟨_, rfl⟩
  rw [← hx] at SL hss
  have hxl : x.data.toList = sealB s.data.toList := by rw [hx]
  clear h hk hFF c1 c2 hF hx
  go_enter Tryz.func89, Tryz.ntmps89
  go_wp2_with fail
  refine wp_region_held_drew (S := fun u => u.cell? ⟨L, 1, none⟩ = some (.pointer (some ⟨D, 0, none⟩)) ∧ u.cell? ⟨L, 2, none⟩ = some (.int .i64 (F : Int))) (by kernel_rfl) (⟨C1.out, C2.out⟩) (fun hHeld => ?_)
  refine Man.take1 (i := 0) (v := ?_) rfl (by kernel_rfl) (by kernel_rfl) (by kernel_rfl) (fun _ _ _ h => h) (by rfl) ?_ (by assumption) ?_
  rotate_left
  · (intro u hSu; (try dsimp only at hSu); go_simp; (try with_reducible rfl))
  (try simp only [Act.put, List.setIfInBounds_toArray, List.set_cons_zero, List.set_cons_succ])
  refine Man.take1 (i := 1) (v := ?_) rfl (by kernel_rfl) (by kernel_rfl) (by kernel_rfl) (fun _ _ _ h => h) (by rfl) ?_ (by assumption) ?_
  rotate_left
  · (intro u hSu; (try dsimp only at hSu); go_simp; (try with_reducible rfl))
  (try simp only [Act.put, List.setIfInBounds_toArray, List.set_cons_zero, List.set_cons_succ])
  refine Man.take1 (i := 2) (v := ?_) rfl (by kernel_rfl) (by kernel_rfl) (by kernel_rfl) (fun _ _ _ h => h) (by rfl) ?_ (by assumption) ?_
  rotate_left
  · (intro u hSu; (try dsimp only at hSu); go_simp; (try with_reducible rfl))
  (try simp only [Act.put, List.setIfInBounds_toArray, List.set_cons_zero, List.set_cons_succ])
  refine Man.take1 (i := 3) (v := ?_) rfl (by kernel_rfl) (by kernel_rfl) (by kernel_rfl) (fun _ _ _ h => h) (by rfl) ?_ (by assumption) ?_
  rotate_left
  · (intro u hSu; (try dsimp only at hSu); go_simp; (try with_reducible rfl))
  (try simp only [Act.put, List.setIfInBounds_toArray, List.set_cons_zero, List.set_cons_succ])
  refine Man.take1 (i := 4) (v := ?_) rfl (by kernel_rfl) (by kernel_rfl) (by kernel_rfl) (fun _ _ _ h => h) (by rfl) ?_ (by assumption) ?_
  rotate_left
  · (intro u hSu; (try dsimp only at hSu); go_simp; (try with_reducible rfl))
  (try simp only [Act.put, List.setIfInBounds_toArray, List.set_cons_zero, List.set_cons_succ])
  refine Man.take1 (i := 5) (v := ?_) rfl (by kernel_rfl) (by kernel_rfl) (by kernel_rfl) (fun _ _ _ h => h) (by rfl) ?_ (by assumption) ?_
  rotate_left
  · (intro u hSu; (try dsimp only at hSu); go_simp; (try with_reducible rfl))
  (try simp only [Act.put, List.setIfInBounds_toArray, List.set_cons_zero, List.set_cons_succ])
  refine Man.take1 (i := 6) (v := ?_) rfl (by kernel_rfl) (by kernel_rfl) (by kernel_rfl) (fun _ _ _ h => h) (by rfl) ?_ (by assumption) ?_
  rotate_left
  · (intro u hSu; (try dsimp only at hSu); go_simp; (try with_reducible rfl))
  (try simp only [Act.put, List.setIfInBounds_toArray, List.set_cons_zero, List.set_cons_succ])
  refine Man.take1 (i := 7) (v := ?_) rfl (by kernel_rfl) (by kernel_rfl) (by kernel_rfl) (fun _ _ _ h => h) (by rfl) ?_ (by assumption) ?_
  rotate_left
  · (intro u hSu; (try dsimp only at hSu); go_simp; (try with_reducible rfl))
  (try simp only [Act.put, List.setIfInBounds_toArray, List.set_cons_zero, List.set_cons_succ])
  refine Man.take1 (i := 8) (v := ?_) rfl (by kernel_rfl) (by kernel_rfl) (by kernel_rfl) (fun _ _ _ h => h) (by rfl) ?_ (by assumption) ?_
  rotate_left
  · (intro u hSu; (try dsimp only at hSu); go_simp; (try with_reducible rfl))
  (try simp only [Act.put, List.setIfInBounds_toArray, List.set_cons_zero, List.set_cons_succ])
  refine Man.take1 (i := 9) (v := ?_) rfl (by kernel_rfl) (by kernel_rfl) (by kernel_rfl) (fun _ _ _ h => h) (by rfl) ?_ (by assumption) ?_
  rotate_left
  · (intro u hSu; (try dsimp only at hSu); go_simp; (try with_reducible rfl))
  (try simp only [Act.put, List.setIfInBounds_toArray, List.set_cons_zero, List.set_cons_succ])
  refine Man.take1 (i := 10) (v := ?_) rfl (by kernel_rfl) (by kernel_rfl) (by kernel_rfl) (fun _ _ _ h => h) (by rfl) ?_ (by assumption) ?_
  rotate_left
  · (intro u hSu; (try dsimp only at hSu); go_simp; (try with_reducible rfl))
  (try simp only [Act.put, List.setIfInBounds_toArray, List.set_cons_zero, List.set_cons_succ])
  refine Man.take1 (i := 11) (v := ?_) rfl (by kernel_rfl) (by kernel_rfl) (by kernel_rfl) (fun _ _ _ h => h) (by rfl) ?_ (by assumption) ?_
  rotate_left
  · (intro u hSu; (try dsimp only at hSu); go_simp; (try with_reducible rfl))
  (try simp only [Act.put, List.setIfInBounds_toArray, List.set_cons_zero, List.set_cons_succ])
  refine Man.one (i := 12) rfl (by kernel_rfl) (fun K hK => ?_)
  go_simp
  refine (SL.out _).mono ?_
  rintro e w5 ⟨rfl, hb5⟩
  have H5 := hidm ((H.out.later (Below.refl _ _).drew).later hb5)
  have K5 := hidm ((H.out.kept (Below.refl _ _).drew).trans ((H.out.later (Below.refl _ _).drew).kept hb5))
  refine hK.out _ _ (⟨cell_later hb5 hHeld.1, cell_later hb5 hHeld.2⟩) (fun hNew => ?_)
  clear hK K hHeld
  have hHeld := hNew
  clear hNew
  (try simp only [Act.put, List.setIfInBounds_toArray, List.set_cons_zero, List.set_cons_succ])
  refine Man.one (i := 13) rfl (by kernel_rfl) (fun K hK => ?_)
  go_simp
  refine (H5.out.write k x hss hd hb hc hw).mono ?_
  rintro e w6 ⟨rfl, h6, k6⟩
  have H6 := hidm h6
  have K6 := hidm (K5.out.trans k6)
  have HC6 := hidm (show w6.cell? ⟨L, 1, none⟩ = some (.pointer (some ⟨D, 0, none⟩)) ∧ w6.cell? ⟨L, 2, none⟩ = some (.int .i64 (F : Int)) from ⟨h6.cells.2.1, by have e1 := h6.cells.2.2.1; have e2 := H5.out.cells.2.2.1; rw [hHeld.2] at e2; rw [e1]; exact e2.symm ▸ rfl⟩)
  clear h6 k6
  refine hK.out _ _ (HC6.out) (fun hNew => ?_)
  clear hK K hHeld
  have hHeld := hNew
  clear hNew
  (try simp only [Act.put, List.setIfInBounds_toArray, List.set_cons_zero, List.set_cons_succ])
  refine Man.one (i := 14) rfl (by kernel_rfl) (fun K hK => ?_)
  go_simp
  refine (checked_ok L w6).mono ?_
  rintro e w7 ⟨rfl, rfl⟩
  refine hK.out _ _ (hHeld) (fun hNew => ?_)
  clear hK K hHeld
  have hHeld := hNew
  clear hNew
  (try simp only [Act.put, List.setIfInBounds_toArray, List.set_cons_zero, List.set_cons_succ])
  refine Man.take1 (i := 15) (v := ?_) rfl (by kernel_rfl) (by kernel_rfl) (by kernel_rfl) (fun _ _ _ h => h) (by rfl) ?_ (by assumption) ?_
  rotate_left
  · (intro u hSu; (try dsimp only at hSu); go_simp; (try with_reducible rfl))
  (try simp only [Act.put, List.setIfInBounds_toArray, List.set_cons_zero, List.set_cons_succ])
  refine wpAnyH_done (by kernel_rfl) ?_ _
  go_wp2_with fail
  go_ret
  exact ⟨rfl, by rw [← hxl]; exact H6.out, K6.out⟩
set_option maxHeartbeats 4000000 in
set_option maxRecDepth 100000 in
theorem lay_off (h : Pair W Q L D g d w) (i : Nat) (hi : i ≤ 2000) (hd : g.F + i < d.n) (s : ByteArray) (hs : s.size ≤ 123) (hb : d.burnt = true) :
    Calls Tryz.prog 89 #[.pointer (some ⟨L, 0, none⟩), .int .i64 (i : Int), .string s] w fun e w' => e = .returned (.int .i64 6) ∧ Pair W Q L D g.halt d w' ∧ KeepQ Q w w' := by
  have c1 := h.cells.2.1
  have c2 := h.cells.2.2.1
  obtain ⟨hF, _, _, _, _⟩ := h.ok
  obtain ⟨k, hk⟩ : ∃ k, k = g.F + i := ⟨_, rfl⟩
  have hsum : (g.F : Int) + (i : Int) = (k : Int) := by omega
  have hwk : IntKind.i64.wrap (k : Int) = (k : Int) := by simp only [IntKind.wrap_i64]; omega
  have hwk2 : wrap64 (k : Int) = (k : Int) := by unfold wrap64; omega
  have hss : (S (sealB s.data.toList)).size ≤ 128 := by
    rw [S_size, sealB_len (by rw [len_eq]; omega), len_eq]
    omega
  rw [← hk] at hd
  obtain ⟨F, hFF⟩ : ∃ F, F = g.F := ⟨_, rfl⟩
  rw [← hFF] at c2 hsum
  have H := hidm h
  have C1 := hidm c1
  have C2 := hidm c2
  have SL := hidm (fun w => seal_any s (by omega) w)
  obtain ⟨x, hx⟩ : ∃ x, x = S (sealB s.data.toList) := ⟨_, rfl⟩
  rw [← hx] at SL hss
  have hxl : x.data.toList = sealB s.data.toList := by rw [hx]
  clear h hk hFF c1 c2 hF hx
  go_enter Tryz.func89, Tryz.ntmps89
  go_wp2_with fail
  refine wp_region_held_drew (S := fun u => u.cell? ⟨L, 1, none⟩ = some (.pointer (some ⟨D, 0, none⟩)) ∧ u.cell? ⟨L, 2, none⟩ = some (.int .i64 (F : Int))) (by kernel_rfl) (⟨C1.out, C2.out⟩) (fun hHeld => ?_)
  refine Man.take1 (i := 0) (v := ?_) rfl (by kernel_rfl) (by kernel_rfl) (by kernel_rfl) (fun _ _ _ h => h) (by rfl) ?_ (by assumption) ?_
  rotate_left
  · (intro u hSu; (try dsimp only at hSu); go_simp; (try with_reducible rfl))
  (try simp only [Act.put, List.setIfInBounds_toArray, List.set_cons_zero, List.set_cons_succ])
  refine Man.take1 (i := 1) (v := ?_) rfl (by kernel_rfl) (by kernel_rfl) (by kernel_rfl) (fun _ _ _ h => h) (by rfl) ?_ (by assumption) ?_
  rotate_left
  · (intro u hSu; (try dsimp only at hSu); go_simp; (try with_reducible rfl))
  (try simp only [Act.put, List.setIfInBounds_toArray, List.set_cons_zero, List.set_cons_succ])
  refine Man.take1 (i := 2) (v := ?_) rfl (by kernel_rfl) (by kernel_rfl) (by kernel_rfl) (fun _ _ _ h => h) (by rfl) ?_ (by assumption) ?_
  rotate_left
  · (intro u hSu; (try dsimp only at hSu); go_simp; (try with_reducible rfl))
  (try simp only [Act.put, List.setIfInBounds_toArray, List.set_cons_zero, List.set_cons_succ])
  refine Man.take1 (i := 3) (v := ?_) rfl (by kernel_rfl) (by kernel_rfl) (by kernel_rfl) (fun _ _ _ h => h) (by rfl) ?_ (by assumption) ?_
  rotate_left
  · (intro u hSu; (try dsimp only at hSu); go_simp; (try with_reducible rfl))
  (try simp only [Act.put, List.setIfInBounds_toArray, List.set_cons_zero, List.set_cons_succ])
  refine Man.take1 (i := 4) (v := ?_) rfl (by kernel_rfl) (by kernel_rfl) (by kernel_rfl) (fun _ _ _ h => h) (by rfl) ?_ (by assumption) ?_
  rotate_left
  · (intro u hSu; (try dsimp only at hSu); go_simp; (try with_reducible rfl))
  (try simp only [Act.put, List.setIfInBounds_toArray, List.set_cons_zero, List.set_cons_succ])
  refine Man.take1 (i := 5) (v := ?_) rfl (by kernel_rfl) (by kernel_rfl) (by kernel_rfl) (fun _ _ _ h => h) (by rfl) ?_ (by assumption) ?_
  rotate_left
  · (intro u hSu; (try dsimp only at hSu); go_simp; (try with_reducible rfl))
  (try simp only [Act.put, List.setIfInBounds_toArray, List.set_cons_zero, List.set_cons_succ])
  refine Man.take1 (i := 6) (v := ?_) rfl (by kernel_rfl) (by kernel_rfl) (by kernel_rfl) (fun _ _ _ h => h) (by rfl) ?_ (by assumption) ?_
  rotate_left
  · (intro u hSu; (try dsimp only at hSu); go_simp; (try with_reducible rfl))
  (try simp only [Act.put, List.setIfInBounds_toArray, List.set_cons_zero, List.set_cons_succ])
  refine Man.take1 (i := 7) (v := ?_) rfl (by kernel_rfl) (by kernel_rfl) (by kernel_rfl) (fun _ _ _ h => h) (by rfl) ?_ (by assumption) ?_
  rotate_left
  · (intro u hSu; (try dsimp only at hSu); go_simp; (try with_reducible rfl))
  (try simp only [Act.put, List.setIfInBounds_toArray, List.set_cons_zero, List.set_cons_succ])
  refine Man.take1 (i := 8) (v := ?_) rfl (by kernel_rfl) (by kernel_rfl) (by kernel_rfl) (fun _ _ _ h => h) (by rfl) ?_ (by assumption) ?_
  rotate_left
  · (intro u hSu; (try dsimp only at hSu); go_simp; (try with_reducible rfl))
  (try simp only [Act.put, List.setIfInBounds_toArray, List.set_cons_zero, List.set_cons_succ])
  refine Man.take1 (i := 9) (v := ?_) rfl (by kernel_rfl) (by kernel_rfl) (by kernel_rfl) (fun _ _ _ h => h) (by rfl) ?_ (by assumption) ?_
  rotate_left
  · (intro u hSu; (try dsimp only at hSu); go_simp; (try with_reducible rfl))
  (try simp only [Act.put, List.setIfInBounds_toArray, List.set_cons_zero, List.set_cons_succ])
  refine Man.take1 (i := 10) (v := ?_) rfl (by kernel_rfl) (by kernel_rfl) (by kernel_rfl) (fun _ _ _ h => h) (by rfl) ?_ (by assumption) ?_
  rotate_left
  · (intro u hSu; (try dsimp only at hSu); go_simp; (try with_reducible rfl))
  (try simp only [Act.put, List.setIfInBounds_toArray, List.set_cons_zero, List.set_cons_succ])
  refine Man.take1 (i := 11) (v := ?_) rfl (by kernel_rfl) (by kernel_rfl) (by kernel_rfl) (fun _ _ _ h => h) (by rfl) ?_ (by assumption) ?_
  rotate_left
  · (intro u hSu; (try dsimp only at hSu); go_simp; (try with_reducible rfl))
  (try simp only [Act.put, List.setIfInBounds_toArray, List.set_cons_zero, List.set_cons_succ])
  refine Man.one (i := 12) rfl (by kernel_rfl) (fun K hK => ?_)
  go_simp
  refine (SL.out _).mono ?_
  rintro e w5 ⟨rfl, hb5⟩
  have H5 := hidm ((H.out.later (Below.refl _ _).drew).later hb5)
  have K5 := hidm ((H.out.kept (Below.refl _ _).drew).trans ((H.out.later (Below.refl _ _).drew).kept hb5))
  refine hK.out _ _ (⟨cell_later hb5 hHeld.1, cell_later hb5 hHeld.2⟩) (fun hNew => ?_)
  clear hK K hHeld
  have hHeld := hNew
  clear hNew
  (try simp only [Act.put, List.setIfInBounds_toArray, List.set_cons_zero, List.set_cons_succ])
  refine Man.one (i := 13) rfl (by kernel_rfl) (fun K hK => ?_)
  go_simp
  refine (H5.out.write_burnt k x hss hd hb).mono ?_
  rintro e w6 ⟨rfl, hb6⟩
  have H6 := hidm (H5.out.later hb6)
  have K6 := hidm (K5.out.trans (H5.out.kept hb6))
  refine hK.out _ _ (⟨cell_later hb6 hHeld.1, cell_later hb6 hHeld.2⟩) (fun hNew => ?_)
  clear hK K hHeld
  have hHeld := hNew
  clear hNew
  (try simp only [Act.put, List.setIfInBounds_toArray, List.set_cons_zero, List.set_cons_succ])
  refine Man.one (i := 14) rfl (by kernel_rfl) (fun K hK => ?_)
  go_simp
  refine (checked_off H6.out).mono ?_
  rintro e w7 ⟨rfl, h7, k7⟩
  have H7 := hidm h7
  have K7 := hidm (K6.out.trans k7)
  have HC7 := hidm (show w7.cell? ⟨L, 1, none⟩ = some (.pointer (some ⟨D, 0, none⟩)) ∧ w7.cell? ⟨L, 2, none⟩ = some (.int .i64 (F : Int)) from ⟨h7.cells.2.1, by have e1 := h7.cells.2.2.1; have e2 := H6.out.cells.2.2.1; rw [hHeld.2] at e2; rw [e1]; exact e2.symm ▸ rfl⟩)
  clear h7 k7
  refine hK.out _ _ (HC7.out) (fun hNew => ?_)
  clear hK K hHeld
  have hHeld := hNew
  clear hNew
  (try simp only [Act.put, List.setIfInBounds_toArray, List.set_cons_zero, List.set_cons_succ])
  refine Man.take1 (i := 15) (v := ?_) rfl (by kernel_rfl) (by kernel_rfl) (by kernel_rfl) (fun _ _ _ h => h) (by rfl) ?_ (by assumption) ?_
  rotate_left
  · (intro u hSu; (try dsimp only at hSu); go_simp; (try with_reducible rfl))
  (try simp only [Act.put, List.setIfInBounds_toArray, List.set_cons_zero, List.set_cons_succ])
  refine wpAnyH_done (by kernel_rfl) ?_ _
  go_wp2_with fail
  go_ret
  exact ⟨rfl, H7.out, K7.out⟩
set_option maxHeartbeats 1000000 in
theorem lflush_on (h : Pair W Q L D g d w) (hb : d.burnt = false) (hf : d.fl < 1000000) :
    Calls Tryz.prog 91 #[.pointer (some ⟨L, 0, none⟩)] w fun e w' => e = .returned (.int .i64 0) ∧ Pair W Q L D g d.flush.burn w' ∧ KeepQ Q w w' := by
  have c1 := h.cells.2.1
  have H := hidm h
  clear h
  go_enter Tryz.func91, Tryz.ntmps91
  go_wp2_with fail
  refine (H.out.flush hb hf).mono ?_
  rintro e w1 ⟨rfl, h1, k1⟩
  have H1 := hidm h1
  have K1 := hidm k1
  clear h1 k1
  go_wp2_with fail
  refine (checked_ok L w1).mono ?_
  rintro e w2 ⟨rfl, rfl⟩
  go_wp2_with fail
  go_ret
  exact ⟨rfl, H1.out, K1.out⟩
set_option maxHeartbeats 1000000 in
theorem lflush_off (h : Pair W Q L D g d w) (hb : d.burnt = true) :
    Calls Tryz.prog 91 #[.pointer (some ⟨L, 0, none⟩)] w fun e w' => e = .returned (.int .i64 6) ∧ Pair W Q L D g.halt d w' ∧ KeepQ Q w w' := by
  have c1 := h.cells.2.1
  have H := hidm h
  clear h
  go_enter Tryz.func91, Tryz.ntmps91
  go_wp2_with fail
  refine (H.out.flush_burnt hb).mono ?_
  rintro e w1 ⟨rfl, hb1⟩
  have H1 := hidm (H.out.later hb1)
  have K1 := hidm (H.out.kept hb1)
  clear hb1
  go_wp2_with fail
  refine (checked_off H1.out).mono ?_
  rintro e w2 ⟨rfl, h2, k2⟩
  have H2 := hidm h2
  have K2 := hidm (K1.out.trans k2)
  clear h2 k2
  go_wp2_with fail
  go_ret
  exact ⟨rfl, H2.out, K2.out⟩
end
end Wal
end Go.Proofs.YtmccnlffikegfaaGreatDoor
