/- Which pages are in use: the map's bits. Conditions: as each says. -/
import Derived.Test.YtmccnlffikegfaaGreatDoorZPf
import Derived.Test.YtmccnlffikegfaaGreatDoorZWj
namespace Go.Proofs.YtmccnlffikegfaaGreatDoor
open Go.RowKit
namespace Pgr
open Wal (Pair PL R)
open Dsk (PD Mine KeepQ Only below_keeps cell_later sec vals pad zeros upd IntsAt ints S)
/-- The byte of a page's bit. -/
def byteOf (m : List UInt8) (k : Nat) : UInt8 := (m[k / 8]?).getD 0
def bitAt (m : List UInt8) (k : Nat) : Bool := (byteOf m k).toNat.testBit (k % 8)
/-- Is the page in use? -/
def useB (m : List UInt8) (k : Nat) : Bool := k == 0 || bitAt m k
def takeB (m : List UInt8) (k : Nat) : List UInt8 := m.set (k / 8) (UInt8.ofNat ((byteOf m k).toNat ||| 2 ^ (k % 8)))
def giveB (m : List UInt8) (k : Nat) : List UInt8 := m.set (k / 8) (UInt8.ofNat ((byteOf m k).toNat &&& (255 ^^^ 2 ^ (k % 8))))
theorem con_cell {w : World} {B : Nat} {m : List UInt8} (h : w.heap[B]? = some (.cells (sec m) 80 (0, 0))) (hm : m.length = 128) (k : Nat) (hk : k < 1024) :
    w.cell? ⟨B, k / 8, none⟩ = some (.int .u8 ((byteOf m k).toNat : Int)) := by
  have hq : k / 8 < m.length := by omega
  rw [cell_of_row w B (k / 8) _ _ (0, 0) h]
  unfold byteOf sec vals
  rw [List.getElem?_eq_getElem hq]
  simp [hq, Dsk.cell, Extern.Stop.cell]
set_option maxHeartbeats 1000000 in
theorem uses_zero (p : Option Addr) (w : World) : Calls Tryz.prog 35 #[.pointer p, .int .i64 0] w fun e w' => e = .returned (.bool true) ∧ w = w' := by
  go_enter Tryz.func35, Tryz.ntmps35
  go_wp2_with fail
  go_ret
  exact ⟨rfl, rfl⟩
theorem bit_num (x r : Nat) : x / 2 ^ r % 2 = if x.testBit r then 1 else 0 := by
  rw [Nat.testBit_eq_decide_div_mod_eq]
  have := Nat.mod_two_eq_zero_or_one (x / 2 ^ r)
  rcases this with h | h <;> simp [h]
theorem and_one (a : Nat) (ha : a < 256) : bits .and .u8 (a : Int) 1 = ((a % 2 : Nat) : Int) := by
  have h : ∀ c : Fin 256, bits .and .u8 (c.val : Int) 1 = ((c.val % 2 : Nat) : Int) := by decide +kernel
  exact h ⟨a, ha⟩
theorem sec_set (m : List UInt8) (q y : Nat) (hy : y < 256) : (sec m).setIfInBounds q (.int .u8 (y : Int)) = sec (m.set q (UInt8.ofNat y)) := by
  have hb : Dsk.cell (UInt8.ofNat y) = .int .u8 (y : Int) := by
    show Value.int .u8 ((UInt8.ofNat y).toNat : Int) = _
    rw [UInt8.toNat_ofNat', Nat.mod_eq_of_lt hy]
  unfold sec vals
  rw [List.map_set, hb]
  simp
set_option maxRecDepth 100000 in
theorem take_num (x r : Nat) (hx : x < 256) (hr : r < 8) : bits .or .u8 (x : Int) (IntKind.u8.wrap (2 ^ r)) = ((x ||| 2 ^ r : Nat) : Int) := by
  have h : ∀ c : Fin 256, ∀ j : Fin 8, bits .or .u8 (c.val : Int) (IntKind.u8.wrap (2 ^ j.val)) = ((c.val ||| 2 ^ j.val : Nat) : Int) := by decide +kernel
  exact h ⟨x, hx⟩ ⟨r, hr⟩
theorem take_lt (x r : Nat) (hx : x < 256) (hr : r < 8) : x ||| 2 ^ r < 256 := Nat.or_lt_two_pow (n := 8) hx (Nat.pow_lt_pow_right (by omega) hr)
set_option maxRecDepth 100000 in
theorem give_num (x r : Nat) (hx : x < 256) (hr : r < 8) : bits .andNot .u8 (x : Int) (IntKind.u8.wrap (2 ^ r)) = ((x &&& (255 ^^^ 2 ^ r) : Nat) : Int) := by
  have h : ∀ c : Fin 256, ∀ j : Fin 8, bits .andNot .u8 (c.val : Int) (IntKind.u8.wrap (2 ^ j.val)) = ((c.val &&& (255 ^^^ 2 ^ j.val) : Nat) : Int) := by decide +kernel
  exact h ⟨x, hx⟩ ⟨r, hr⟩
theorem give_lt (x r : Nat) (hx : x < 256) (_ : r < 8) : x &&& (255 ^^^ 2 ^ r) < 256 := Nat.lt_of_le_of_lt Nat.and_le_left hx
set_option maxHeartbeats 2000000 in
set_option maxRecDepth 100000 in
theorem uses_in (B k : Nat) (m : List UInt8) (w : World) (h : w.heap[B]? = some (.cells (sec m) 80 (0, 0))) (hm : m.length = 128) (hk : k < 1024) (h0 : k ≠ 0) :
    Calls Tryz.prog 35 #[.pointer (some ⟨B, 0, none⟩), .int .i64 (k : Int)] w fun e w' => e = .returned (.bool (useB m k)) ∧ w = w' := by
  have hc := con_cell h hm k hk
  obtain ⟨x, hx⟩ : ∃ x, x = (byteOf m k).toNat := ⟨_, rfl⟩
  have hx2 : x < 256 := by rw [hx]; exact (byteOf m k).toNat_lt
  rw [← hx] at hc
  obtain ⟨q, hq⟩ : ∃ q, q = k / 8 := ⟨_, rfl⟩
  obtain ⟨r, hr⟩ : ∃ r, r = k % 8 := ⟨_, rfl⟩
  rw [← hq] at hc
  have hq2 : q < 128 := by omega
  have hr2 : r < 8 := by omega
  have f0 : ¬ (k : Int) = 0 := by omega
  have f1 : (k : Int).tdiv 8 = (q : Int) := by rw [Int.tdiv_eq_ediv_of_nonneg (by omega)]; omega
  have f2 : (k : Int).tmod 8 = (r : Int) := by rw [Int.tmod_eq_emod_of_nonneg (by omega)]; omega
  have HU := hidm (show useB m k = x.testBit r from by unfold useB bitAt; rw [← hx, ← hr]; simp [h0])
  have g1 : (q : Int) < 128 := by omega
  have g2 : ¬ (q : Int) < 0 := by omega
  clear h hm hk h0 hx hq hr
  go_enter Tryz.func35, Tryz.ntmps35
  go_wp2_with fail
  go_ret
  refine ⟨?_, rfl⟩
  rw [HU.out]
  show Ending.returned (Value.bool ((k : Int) == 0 || bits .and .u8 ((x : Int) / 2 ^ r) 1 == 1)) = _
  have e1 : ((k : Int) == 0) = false := by simpa using f0
  have e2 : (x : Int) / 2 ^ r = ((x / 2 ^ r : Nat) : Int) := by push_cast; rfl
  have e3 : x / 2 ^ r < 256 := Nat.lt_of_le_of_lt (Nat.div_le_self _ _) hx2
  rw [e1, e2, and_one _ e3, bit_num]
  cases x.testBit r <;> rfl
set_option maxHeartbeats 4000000 in
set_option maxRecDepth 100000 in
theorem take_in (B k : Nat) (m : List UInt8) (w : World) (h : w.heap[B]? = some (.cells (sec m) 80 (0, 0))) (hm : m.length = 128) (hk : k < 1024) :
    Calls Tryz.prog 69 #[.pointer (some ⟨B, 0, none⟩), .int .i64 (k : Int)] w fun e w' => e = .returned (.tuple #[]) ∧ w'.heap[B]? = some (.cells (sec (takeB m k)) 80 (0, 0)) ∧ Only (fun j => j = B) w w' := by
  have hc := con_cell h hm k hk
  obtain ⟨x, hx⟩ : ∃ x, x = (byteOf m k).toNat := ⟨_, rfl⟩
  have hx2 : x < 256 := by rw [hx]; exact (byteOf m k).toNat_lt
  rw [← hx] at hc
  obtain ⟨q, hq⟩ : ∃ q, q = k / 8 := ⟨_, rfl⟩
  obtain ⟨r, hr⟩ : ∃ r, r = k % 8 := ⟨_, rfl⟩
  rw [← hq] at hc
  have hq2 : q < 128 := by omega
  have hr2 : r < 8 := by omega
  have f1 : (k : Int).tdiv 8 = (q : Int) := by rw [Int.tdiv_eq_ediv_of_nonneg (by omega)]; omega
  have f2 : (k : Int).tmod 8 = (r : Int) := by rw [Int.tmod_eq_emod_of_nonneg (by omega)]; omega
  obtain ⟨y, hy⟩ : ∃ y : Nat, y = x ||| 2 ^ r := ⟨_, rfl⟩
  have HB := hidm (show takeB m k = m.set q (UInt8.ofNat y) from by unfold takeB; rw [← hx, ← hq, ← hr, ← hy])
  have HY := hidm (show bits .or .u8 (x : Int) (IntKind.u8.wrap (2 ^ r)) = (y : Int) from by rw [hy]; exact take_num x r hx2 hr2)
  have HY2 := hidm (show y < 256 from by rw [hy]; exact take_lt x r hx2 hr2)
  have g1 : (q : Int) < 128 := by omega
  have g3 : IntKind.i64.wrap (q : Int) = (q : Int) := by simp only [IntKind.wrap_i64]; omega
  have g2 : ¬ (q : Int) < 0 := by omega
  have H := hidm h
  have z := frozen_of_row w B q _ _ h
  have hc' : w.drew.cell? ⟨B, q, none⟩ = some (.int .u8 (x : Int)) := hc
  have z' : w.drew.frozen? ⟨B, q, none⟩ = false := z
  clear h hm hk hx hq hr hy
  go_enter Tryz.func69, Tryz.ntmps69
  go_wp2_with fail
  refine wp_region_held_drew (S := fun u => True) (by kernel_rfl) (trivial) (fun hHeld => ?_)
  refine Man.take1 (i := 0) (v := ?_) rfl (by kernel_rfl) (by kernel_rfl) (by kernel_rfl) (fun _ _ _ h => h) (by rfl) ?_ (by assumption) ?_
  rotate_left
  · (intro u hSu; (try dsimp only at hSu); go_simp; (try with_reducible rfl))
  (try simp only [Act.put, List.setIfInBounds_toArray, List.set_cons_zero, List.set_cons_succ])
  refine Man.take1 (i := 1) (v := ?_) rfl (by kernel_rfl) (by kernel_rfl) (by kernel_rfl) (fun _ _ _ h => h) (by rfl) ?_ (by assumption) ?_
  rotate_left
  · (intro u hSu; (try dsimp only at hSu); go_simp; (try with_reducible rfl))
  (try simp only [Act.put, List.setIfInBounds_toArray, List.set_cons_zero, List.set_cons_succ])
  refine Man.take1 (i := 2) (v := ?_) rfl (by kernel_rfl) (by kernel_rfl) (by kernel_rfl) (fun _ _ _ h => h) (by rfl) ?_ (by assumption) ?_
  rotate_left
  · (intro u hSu; (try dsimp only at hSu); go_simp; (try with_reducible rfl))
  (try simp only [Act.put, List.setIfInBounds_toArray, List.set_cons_zero, List.set_cons_succ])
  refine Man.take1 (i := 3) (v := ?_) rfl (by kernel_rfl) (by kernel_rfl) (by kernel_rfl) (fun _ _ _ h => h) (by rfl) ?_ (by assumption) ?_
  rotate_left
  · (intro u hSu; (try dsimp only at hSu); go_simp; (try with_reducible rfl))
  (try simp only [Act.put, List.setIfInBounds_toArray, List.set_cons_zero, List.set_cons_succ])
  refine Man.take1 (i := 4) (v := ?_) rfl (by kernel_rfl) (by kernel_rfl) (by kernel_rfl) (fun _ _ _ h => h) (by rfl) ?_ (by assumption) ?_
  rotate_left
  · (intro u hSu; (try dsimp only at hSu); go_simp; (try with_reducible rfl))
  (try simp only [Act.put, List.setIfInBounds_toArray, List.set_cons_zero, List.set_cons_succ])
  refine Man.take1 (i := 6) (v := ?_) rfl (by kernel_rfl) (by kernel_rfl) (by kernel_rfl) (fun _ _ _ h => h) (by rfl) ?_ (by assumption) ?_
  rotate_left
  · (intro u hSu; (try dsimp only at hSu); go_simp; (try with_reducible rfl))
  (try simp only [Act.put, List.setIfInBounds_toArray, List.set_cons_zero, List.set_cons_succ])
  refine Man.take1 (i := 7) (v := ?_) rfl (by kernel_rfl) (by kernel_rfl) (by kernel_rfl) (fun _ _ _ h => h) (by rfl) ?_ (by assumption) ?_
  rotate_left
  · (intro u hSu; (try dsimp only at hSu); go_simp; (try with_reducible rfl))
  (try simp only [Act.put, List.setIfInBounds_toArray, List.set_cons_zero, List.set_cons_succ])
  refine Man.take1 (i := 8) (v := ?_) rfl (by kernel_rfl) (by kernel_rfl) (by kernel_rfl) (fun _ _ _ h => h) (by rfl) ?_ (by assumption) ?_
  rotate_left
  · (intro u hSu; (try dsimp only at hSu); go_simp; (try with_reducible rfl))
  (try simp only [Act.put, List.setIfInBounds_toArray, List.set_cons_zero, List.set_cons_succ])
  refine Man.take1 (i := 10) (v := ?_) rfl (by kernel_rfl) (by kernel_rfl) (by kernel_rfl) (fun _ _ _ h => h) (by rfl) ?_ (by assumption) ?_
  rotate_left
  · (intro u hSu; (try dsimp only at hSu); go_simp; (try with_reducible rfl))
  (try simp only [Act.put, List.setIfInBounds_toArray, List.set_cons_zero, List.set_cons_succ])
  refine Man.one (i := 5) rfl (by kernel_rfl) (fun K hK => ?_)
  go_simp
  refine hK.out _ _ trivial (fun hNew => ?_)
  clear hK K hHeld
  have hHeld := hNew
  clear hNew
  (try simp only [Act.put, List.setIfInBounds_toArray, List.set_cons_zero, List.set_cons_succ])
  refine Man.take1 (i := 9) (v := ?_) rfl (by kernel_rfl) (by kernel_rfl) (by kernel_rfl) (fun _ _ _ h => h) (by rfl) ?_ (by assumption) ?_
  rotate_left
  · (intro u hSu; (try dsimp only at hSu); go_simp; (try with_reducible rfl))
  (try simp only [Act.put, List.setIfInBounds_toArray, List.set_cons_zero, List.set_cons_succ])
  refine Man.take1 (i := 11) (v := ?_) rfl (by kernel_rfl) (by kernel_rfl) (by kernel_rfl) (fun _ _ _ h => h) (by rfl) ?_ (by assumption) ?_
  rotate_left
  · (intro u hSu; (try dsimp only at hSu); go_simp; (try with_reducible rfl))
  (try simp only [Act.put, List.setIfInBounds_toArray, List.set_cons_zero, List.set_cons_succ])
  refine Man.one (i := 12) rfl (by kernel_rfl) (fun K hK => ?_)
  go_simp
  refine hK.out _ _ trivial (fun hNew => ?_)
  clear hK K hHeld
  have hHeld := hNew
  clear hNew
  (try simp only [Act.put, List.setIfInBounds_toArray, List.set_cons_zero, List.set_cons_succ])
  refine wpAnyH_done (by kernel_rfl) ?_ _
  go_end0
  have e9 : bits .or .u8 (x : Int) (IntKind.u8.wrap (2 ^ r)) = (y : Int) := HY.out
  rw [e9]
  refine ⟨rfl, ?_, ?_⟩
  · show (w.setCell ⟨B, q, none⟩ (.int .u8 (y : Int))).heap[B]? = _
    rw [heap_setCell_same w B q _ _ _ H.out, HB.out]
    congr 2
    exact sec_set m q y HY2.out
  · exact ((Only.refl (fun j => j = B) w).set (p := ⟨B, q, none⟩) (.inl rfl) _).drewN 1
set_option maxHeartbeats 4000000 in
set_option maxRecDepth 100000 in
theorem give_in (B k : Nat) (m : List UInt8) (w : World) (h : w.heap[B]? = some (.cells (sec m) 80 (0, 0))) (hm : m.length = 128) (hk : k < 1024) :
    Calls Tryz.prog 83 #[.pointer (some ⟨B, 0, none⟩), .int .i64 (k : Int)] w fun e w' => e = .returned (.tuple #[]) ∧ w'.heap[B]? = some (.cells (sec (giveB m k)) 80 (0, 0)) ∧ Only (fun j => j = B) w w' := by
  have hc := con_cell h hm k hk
  obtain ⟨x, hx⟩ : ∃ x, x = (byteOf m k).toNat := ⟨_, rfl⟩
  have hx2 : x < 256 := by rw [hx]; exact (byteOf m k).toNat_lt
  rw [← hx] at hc
  obtain ⟨q, hq⟩ : ∃ q, q = k / 8 := ⟨_, rfl⟩
  obtain ⟨r, hr⟩ : ∃ r, r = k % 8 := ⟨_, rfl⟩
  rw [← hq] at hc
  have hq2 : q < 128 := by omega
  have hr2 : r < 8 := by omega
  have f1 : (k : Int).tdiv 8 = (q : Int) := by rw [Int.tdiv_eq_ediv_of_nonneg (by omega)]; omega
  have f2 : (k : Int).tmod 8 = (r : Int) := by rw [Int.tmod_eq_emod_of_nonneg (by omega)]; omega
  obtain ⟨y, hy⟩ : ∃ y : Nat, y = x &&& (255 ^^^ 2 ^ r) := ⟨_, rfl⟩
  have HB := hidm (show giveB m k = m.set q (UInt8.ofNat y) from by unfold giveB; rw [← hx, ← hq, ← hr, ← hy])
  have HY := hidm (show bits .andNot .u8 (x : Int) (IntKind.u8.wrap (2 ^ r)) = (y : Int) from by rw [hy]; exact give_num x r hx2 hr2)
  have HY2 := hidm (show y < 256 from by rw [hy]; exact give_lt x r hx2 hr2)
  have g1 : (q : Int) < 128 := by omega
  have g3 : IntKind.i64.wrap (q : Int) = (q : Int) := by simp only [IntKind.wrap_i64]; omega
  have g2 : ¬ (q : Int) < 0 := by omega
  have H := hidm h
  have z := frozen_of_row w B q _ _ h
  have hc' : w.drew.cell? ⟨B, q, none⟩ = some (.int .u8 (x : Int)) := hc
  have z' : w.drew.frozen? ⟨B, q, none⟩ = false := z
  clear h hm hk hx hq hr hy
  go_enter Tryz.func83, Tryz.ntmps83
  go_wp2_with fail
  refine wp_region_held_drew (S := fun u => True) (by kernel_rfl) (trivial) (fun hHeld => ?_)
  refine Man.take1 (i := 0) (v := ?_) rfl (by kernel_rfl) (by kernel_rfl) (by kernel_rfl) (fun _ _ _ h => h) (by rfl) ?_ (by assumption) ?_
  rotate_left
  · (intro u hSu; (try dsimp only at hSu); go_simp; (try with_reducible rfl))
  (try simp only [Act.put, List.setIfInBounds_toArray, List.set_cons_zero, List.set_cons_succ])
  refine Man.take1 (i := 1) (v := ?_) rfl (by kernel_rfl) (by kernel_rfl) (by kernel_rfl) (fun _ _ _ h => h) (by rfl) ?_ (by assumption) ?_
  rotate_left
  · (intro u hSu; (try dsimp only at hSu); go_simp; (try with_reducible rfl))
  (try simp only [Act.put, List.setIfInBounds_toArray, List.set_cons_zero, List.set_cons_succ])
  refine Man.take1 (i := 2) (v := ?_) rfl (by kernel_rfl) (by kernel_rfl) (by kernel_rfl) (fun _ _ _ h => h) (by rfl) ?_ (by assumption) ?_
  rotate_left
  · (intro u hSu; (try dsimp only at hSu); go_simp; (try with_reducible rfl))
  (try simp only [Act.put, List.setIfInBounds_toArray, List.set_cons_zero, List.set_cons_succ])
  refine Man.take1 (i := 3) (v := ?_) rfl (by kernel_rfl) (by kernel_rfl) (by kernel_rfl) (fun _ _ _ h => h) (by rfl) ?_ (by assumption) ?_
  rotate_left
  · (intro u hSu; (try dsimp only at hSu); go_simp; (try with_reducible rfl))
  (try simp only [Act.put, List.setIfInBounds_toArray, List.set_cons_zero, List.set_cons_succ])
  refine Man.take1 (i := 4) (v := ?_) rfl (by kernel_rfl) (by kernel_rfl) (by kernel_rfl) (fun _ _ _ h => h) (by rfl) ?_ (by assumption) ?_
  rotate_left
  · (intro u hSu; (try dsimp only at hSu); go_simp; (try with_reducible rfl))
  (try simp only [Act.put, List.setIfInBounds_toArray, List.set_cons_zero, List.set_cons_succ])
  refine Man.take1 (i := 6) (v := ?_) rfl (by kernel_rfl) (by kernel_rfl) (by kernel_rfl) (fun _ _ _ h => h) (by rfl) ?_ (by assumption) ?_
  rotate_left
  · (intro u hSu; (try dsimp only at hSu); go_simp; (try with_reducible rfl))
  (try simp only [Act.put, List.setIfInBounds_toArray, List.set_cons_zero, List.set_cons_succ])
  refine Man.take1 (i := 7) (v := ?_) rfl (by kernel_rfl) (by kernel_rfl) (by kernel_rfl) (fun _ _ _ h => h) (by rfl) ?_ (by assumption) ?_
  rotate_left
  · (intro u hSu; (try dsimp only at hSu); go_simp; (try with_reducible rfl))
  (try simp only [Act.put, List.setIfInBounds_toArray, List.set_cons_zero, List.set_cons_succ])
  refine Man.take1 (i := 8) (v := ?_) rfl (by kernel_rfl) (by kernel_rfl) (by kernel_rfl) (fun _ _ _ h => h) (by rfl) ?_ (by assumption) ?_
  rotate_left
  · (intro u hSu; (try dsimp only at hSu); go_simp; (try with_reducible rfl))
  (try simp only [Act.put, List.setIfInBounds_toArray, List.set_cons_zero, List.set_cons_succ])
  refine Man.take1 (i := 10) (v := ?_) rfl (by kernel_rfl) (by kernel_rfl) (by kernel_rfl) (fun _ _ _ h => h) (by rfl) ?_ (by assumption) ?_
  rotate_left
  · (intro u hSu; (try dsimp only at hSu); go_simp; (try with_reducible rfl))
  (try simp only [Act.put, List.setIfInBounds_toArray, List.set_cons_zero, List.set_cons_succ])
  refine Man.one (i := 5) rfl (by kernel_rfl) (fun K hK => ?_)
  go_simp
  refine hK.out _ _ trivial (fun hNew => ?_)
  clear hK K hHeld
  have hHeld := hNew
  clear hNew
  (try simp only [Act.put, List.setIfInBounds_toArray, List.set_cons_zero, List.set_cons_succ])
  refine Man.take1 (i := 9) (v := ?_) rfl (by kernel_rfl) (by kernel_rfl) (by kernel_rfl) (fun _ _ _ h => h) (by rfl) ?_ (by assumption) ?_
  rotate_left
  · (intro u hSu; (try dsimp only at hSu); go_simp; (try with_reducible rfl))
  (try simp only [Act.put, List.setIfInBounds_toArray, List.set_cons_zero, List.set_cons_succ])
  refine Man.take1 (i := 11) (v := ?_) rfl (by kernel_rfl) (by kernel_rfl) (by kernel_rfl) (fun _ _ _ h => h) (by rfl) ?_ (by assumption) ?_
  rotate_left
  · (intro u hSu; (try dsimp only at hSu); go_simp; (try with_reducible rfl))
  (try simp only [Act.put, List.setIfInBounds_toArray, List.set_cons_zero, List.set_cons_succ])
  refine Man.one (i := 12) rfl (by kernel_rfl) (fun K hK => ?_)
  go_simp
  refine hK.out _ _ trivial (fun hNew => ?_)
  clear hK K hHeld
  have hHeld := hNew
  clear hNew
  (try simp only [Act.put, List.setIfInBounds_toArray, List.set_cons_zero, List.set_cons_succ])
  refine wpAnyH_done (by kernel_rfl) ?_ _
  go_end0
  have e9 : bits .andNot .u8 (x : Int) (IntKind.u8.wrap (2 ^ r)) = (y : Int) := HY.out
  rw [e9]
  refine ⟨rfl, ?_, ?_⟩
  · show (w.setCell ⟨B, q, none⟩ (.int .u8 (y : Int))).heap[B]? = _
    rw [heap_setCell_same w B q _ _ _ H.out, HB.out]
    congr 2
    exact sec_set m q y HY2.out
  · exact ((Only.refl (fun j => j = B) w).set (p := ⟨B, q, none⟩) (.inl rfl) _).drewN 1
section
variable {W : World} {Q : Nat → Prop} {P L D : Nat} {v : PV} {g : PL} {d : PD} {w : World}
theorem Pg.see_len (h : Pg W Q P L D v g d w) (k : Nat) : (Pg.see v d k).length = 128 := by
  obtain ⟨M, hl, hp, _⟩ := h.ex
  exact over_len hp.ok.2.2.2 (hl.len _)
set_option maxHeartbeats 4000000 in
set_option maxRecDepth 100000 in
theorem usem_in (h : Pg W Q P L D v g d w) : Calls Tryz.prog 34 #[.pointer (some ⟨P, 0, none⟩)] w fun e w' => e = .returned (.agg (sec (Pg.see v d 0))) ∧ Below w.heap.size w w' := by
  have hl := h.see_len 0
  have hz := zeroCon
  have h2 := h.later ((Below.refl w.heap.size w).alloc (Nat.le_refl _) (.cells (sec zeros) 80))
  have RD := hidm (read_in 0 h2 h2.ok.2.1)
  obtain ⟨s, hs⟩ : ∃ s, s = Pg.see v d 0 := ⟨_, rfl⟩
  rw [← hs] at hl RD ⊢
  have CO := hidm (fun w' => con_any (S s) (by rw [Dsk.S_size, hl]; exact Nat.le_refl _) w')
  have hpd : pad (S s).data.toList = s := pad_full hl
  rw [hpd] at CO
  obtain ⟨C, hC⟩ : ∃ C, C = sec s := ⟨_, rfl⟩
  obtain ⟨Z, hZ⟩ : ∃ Z, Z = sec zeros := ⟨_, rfl⟩
  rw [← hZ] at hz RD
  rw [← hC] at CO ⊢
  have HI := hidm (show (Tryz.prog.info? 80).map (·.size) = some C.size from by rw [hC, Dsk.sec_size, hl]; exact infoCon)
  have HZC := hidm (show Z.size = C.size from by rw [hZ, hC, Dsk.sec_size, Dsk.sec_size, hl, Dsk.zeros_len])
  have H1 := hidm (show C.all (·.oneCell') = true from by rw [hC]; exact Dsk.sec_one _)
  clear h h2 hl hs hC hZ hpd
  go_enter Tryz.func34, Tryz.ntmps34
  go_wp2_with fail
  refine RD.out.mono ?_
  rintro e w1 ⟨rfl, hb1⟩
  have HB1 := hidm hb1
  clear hb1
  go_wp2_with fail
  refine (CO.out w1).mono ?_
  rintro e w2 ⟨rfl, hb2⟩
  have HBB := hidm (HB1.out.trans (hb2.mono HB1.out.size))
  have HRW := hidm (show w2.heap[w.heap.size]? = some (.cells Z 80 (0, 0)) from (HBB.out.block w.heap.size (by simp)).trans (heap_alloc_last w _))
  have HFI := hidm (show Below w.heap.size w (w2.setRow w.heap.size C) from setRow_below (((Below.refl w.heap.size w).alloc (Nat.le_refl _) _).trans (HBB.out.mono (by simp))) (Nat.le_refl _))
  clear hb2
  go_wp2_with (first
    | (refine wpList_store_row rfl 80 _ _ rfl w.heap.size C rfl rfl 80 Z HRW.out HI.out HZC.out H1.out ?_))
  (try simp only [Exit.inBlock, Exit.then])
  refine bodyPost_ret (results_cell_row rfl _ _ w.heap.size 80 C (0, 0) _ rfl (setRow_heap _ _ _ _ _ _ HRW.out) Tryz.underlying80 rfl HI.out) rfl ?_
  exact ⟨rfl, HFI.out⟩
theorem isfree_no (p : Option Addr) (k : Int) (w : World) (h : NotPager p w) : Calls Tryz.prog 40 #[.pointer p, .int .i64 k] w fun e w' => e = .returned (.bool false) ∧ w = w' := by
  have G := hidm (place_no p k w h)
  go_enter Tryz.func40, Tryz.ntmps40
  go_wp2_with fail
  refine G.out.mono ?_
  rintro e w1 ⟨rfl, rfl⟩
  go_wp2_with fail
  go_ret
  exact ⟨rfl, rfl⟩
theorem isfree_off (k : Int) (h : Pg W Q P L D v g d w) (hk : off v.pages k) : Calls Tryz.prog 40 #[.pointer (some ⟨P, 0, none⟩), .int .i64 k] w fun e w' => e = .returned (.bool false) ∧ w = w' := by
  have G := hidm (place_off k h hk)
  go_enter Tryz.func40, Tryz.ntmps40
  go_wp2_with fail
  refine G.out.mono ?_
  rintro e w1 ⟨rfl, rfl⟩
  go_wp2_with fail
  go_ret
  exact ⟨rfl, rfl⟩
theorem uses_any (B k : Nat) (m : List UInt8) (w : World) (h : w.heap[B]? = some (.cells (sec m) 80 (0, 0))) (hm : m.length = 128) (hk : k < 1024) :
    Calls Tryz.prog 35 #[.pointer (some ⟨B, 0, none⟩), .int .i64 (k : Int)] w fun e w' => e = .returned (.bool (useB m k)) ∧ w = w' := by
  by_cases h0 : k = 0
  · subst h0; exact uses_zero _ w
  · exact uses_in B k m w h hm hk h0
set_option maxHeartbeats 4000000 in
set_option maxRecDepth 100000 in
theorem isfree_in (k : Nat) (h : Pg W Q P L D v g d w) (hk : k < v.pages) : Calls Tryz.prog 40 #[.pointer (some ⟨P, 0, none⟩), .int .i64 (k : Int)] w fun e w' => e = .returned (.bool (!useB (Pg.see v d 0) k)) ∧ Below w.heap.size w w' := by
  have G := hidm (place_in k h hk)
  have UM := hidm (usem_in h)
  have hml := h.see_len 0
  obtain ⟨m, hm⟩ : ∃ m, m = Pg.see v d 0 := ⟨_, rfl⟩
  rw [← hm] at UM hml
  have HM := hidm hm
  obtain ⟨C, hC⟩ : ∃ C, C = sec m := ⟨_, rfl⟩
  obtain ⟨Z, hZ⟩ : ∃ Z, Z = sec zeros := ⟨_, rfl⟩
  have hz := zeroCon
  rw [← hZ] at hz
  rw [← hC] at UM
  have HI := hidm (show (Tryz.prog.info? 80).map (·.size) = some C.size from by rw [hC, Dsk.sec_size, hml]; exact infoCon)
  have HZC := hidm (show Z.size = C.size from by rw [hZ, hC, Dsk.sec_size, Dsk.sec_size, hml, Dsk.zeros_len])
  have H1 := hidm (show C.all (·.oneCell') = true from by rw [hC]; exact Dsk.sec_one _)
  have HC := hidm hC
  have HML := hidm hml
  have HPG := hidm h
  have hn24 := h.ok.2.2.1
  have US := hidm (fun (B : Nat) (w' : World) (hr : w'.heap[B]? = some (.cells (sec m) 80 (0, 0))) => uses_any B k m w' hr hml (by omega))
  rw [← hm]
  clear h hm hC hZ hml hk hn24
  go_enter Tryz.func40, Tryz.ntmps40
  go_wp2_with fail
  refine G.out.mono ?_
  rintro e w1 ⟨rfl, rfl⟩
  go_wp2_with fail
  refine UM.out.mono ?_
  rintro e w2 ⟨rfl, hb2⟩
  have HB2 := hidm hb2
  clear hb2
  go_wp2_with (refine Dsk.wpList_store_new rfl 80 _ _ rfl w2 Z C rfl rfl HI.out HZC.out H1.out ?_)
  have HROW := hidm (show (w2.alloc (.cells C 80)).heap[w2.heap.size]? = some (.cells (sec m) 80 (0, 0)) from by rw [← HC.out]; exact heap_alloc_last w2 _)
  have HB3 := hidm (HB2.out.alloc HB2.out.size (.cells C 80))
  have HLT := hidm (show w2.heap.size < (w2.alloc (.cells C 80)).heap.size from by simp)
  have HGE := hidm HB2.out.size
  obtain ⟨w3, hw3⟩ : ∃ w3, w3 = w2.alloc (.cells C 80) := ⟨_, rfl⟩
  rw [← hw3] at HROW HB3 HLT ⊢
  obtain ⟨B, hB⟩ : ∃ B, B = w2.heap.size := ⟨_, rfl⟩
  rw [← hB] at HROW HLT HGE ⊢
  clear hw3 hB
  refine (US.out B w3 HROW.out).mono ?_
  rintro e w4 ⟨rfl, rfl⟩
  go_wp2_with fail
  go_ret
  exact ⟨rfl, HB3.out⟩
end
end Pgr
end Go.Proofs.YtmccnlffikegfaaGreatDoor
/- Two entries of the map at once; Frees, Free, Alloc. Conditions: as each says. -/
namespace Go.Proofs.YtmccnlffikegfaaGreatDoor
open Go.RowKit
namespace Pgr
open Wal (Pair PL R)
open Go.MapKept
open Dsk (PD Mine KeepQ Only below_keeps cell_later sec vals pad zeros upd IntsAt ints S)
theorem zeroCells_con : Tryz.zeroCells80 = sec zeros := by kernel_rfl
theorem rd_isKey {es : Array MapEntry} {c : Nat} (F : WideElems.Fit Tryz.prog 3 elem es c) : ∀ x ∈ es.toList, IsKey (.int .i64) x.key := fun x hx => by
  obtain ⟨y, hy⟩ := F.reads x hx
  obtain ⟨z, hz, _, _⟩ := Maps.keyOf_i64 Tryz.underlying3 (WideElems.rd_key hy)
  rw [hz]; rfl
theorem idx_born {es : Array MapEntry} {j : Nat} {e : MapEntry} {l : List MapEntry} (hl : l = es.toList) (hj : l[j]? = some e) (hn : (l.map (·.born)).Nodup) : es.findIdx? (fun x => (x.born : Int) == (e.born : Int)) = some j := by
  subst hl
  obtain ⟨hjl, hje⟩ := List.getElem?_eq_some_iff.1 hj
  have hjs : j < es.size := by simpa using hjl
  refine Array.findIdx?_eq_some_iff_getElem.2 ⟨hjs, ?_, fun i hi => ?_⟩
  · have : es[j] = e := by simpa using hje
    rw [this]; simp
  · have h1 := List.pairwise_iff_getElem.1 hn i j (by simp; omega) (by simpa using hjs) hi
    have hje' : es[j] = e := by simpa using hje
    simp only [List.getElem_map, Array.getElem_toList, hje'] at h1
    simp only [beq_iff_eq]
    intro h2
    exact h1 (by omega)
theorem setBlock_inj {w : World} {M : Nat} {a b : Obj} (hM : M < w.heap.size) (h : ChangeMaps.setBlock w M a = ChangeMaps.setBlock w M b) : a = b := by
  have h1 : (ChangeMaps.setBlock w M a).heap[M]? = (ChangeMaps.setBlock w M b).heap[M]? := by rw [h]
  simp [ChangeMaps.setBlock, hM] at h1
  exact h1
theorem setBlock_map {w w' : World} {M : Nat} {o : Obj} {ch : Ch} (hM : M < w.heap.size) (hM' : M < w'.heap.size) (h : MapIs M ch (ChangeMaps.setBlock w M o)) : MapIs M ch (ChangeMaps.setBlock w' M o) :=
  h.keep (by simp [ChangeMaps.setBlock, hM, hM'])
section
variable {M : Nat} {ch : Ch} {w : World}
/-- An entry is opened, and stored to. -/
theorem MapIs.entry (h : MapIs M ch w) (hr : ch.Pairwise (fun a b => a.1 < b.1)) (hl : ch.length ≤ 100000) (k : Nat) (hk : k ≤ 9223372036854775807) (s : List UInt8) (hs : s.length = 128) :
    ∃ (V : Value) (bn : Int) (o1 o2 : Obj), (Instr.mapEntry 83 (.map (some M)) (.int .i64 (k : Int))).run Tryz.prog w = .ok (.tuple #[V, .int .i64 bn]) (ChangeMaps.setBlock w M o1) ∧
      ∀ w', w'.heap[M]? = (ChangeMaps.setBlock w M o1).heap[M]? → (Instr.entryStore 83 (.map (some M)) (.int .i64 bn) (.agg (sec s))).run Tryz.prog w' = .ok () (ChangeMaps.setBlock w' M o2) ∧ MapIs M (Pgr.put ch k s) (ChangeMaps.setBlock w' M o2) := by
  obtain ⟨ob, hput, hmp⟩ := h.put hr hl k hk s hs
  have hM := h.lt
  obtain ⟨es, c, hh, F, _, _⟩ := h
  have hkI : IsKey (.int .i64) (.int .i64 (k : Int)) := rfl
  rcases findNow_spec hkI es.toList 0 (rd_isKey F) with ⟨h1, h2⟩ | ⟨j, e, h1, h2, h3⟩
  · refine ⟨.agg (sec zeros), (c : Int), .map (es.push ⟨.int .i64 k, .agg (sec zeros), c⟩) (c + 1), ob, ?_, fun w' hw' => ?_⟩
    · simp [Instr.mapEntry, run_underlying Tryz.underlying83, MapKept.run_getObj_map hh, run_checkKey Tryz.underlying3 hkI, run_findKey Tryz.underlying3 h1, run_setObj_map _ hh, Result.andThen, ChangeMaps.setBlock, zeroCells_con, goInt]
    · have hb : w'.heap[M]? = some (.map (es.push ⟨.int .i64 k, .agg (sec zeros), c⟩) (c + 1)) := by rw [hw']; exact ChangeMaps.heap_setBlock_same hh _
      have hM' := lt_of_block hb
      have ho : ob = .map (es.push ⟨.int .i64 k, .agg (sec s), c⟩) (c + 1) := by
        simp [Instr.mapUpdate, run_underlying Tryz.underlying83, MapKept.run_getObj_map hh, run_checkKey Tryz.underlying3 hkI, run_findKey Tryz.underlying3 h1, run_setObj_map _ hh, Result.andThen] at hput
        exact (setBlock_inj hM hput).symm
      have hl2 : (es.push ⟨.int .i64 (k : Int), .agg (sec zeros), c⟩).toList[es.size]? = some ⟨.int .i64 (k : Int), .agg (sec zeros), c⟩ := by simp
      have hnd : ((es.push ⟨.int .i64 (k : Int), .agg (sec zeros), c⟩).toList.map (·.born)).Nodup := by
        rw [Array.toList_push, List.map_append]
        refine List.nodup_append.2 ⟨F.stamped.2.1, by simp, fun x hx y hy => ?_⟩
        obtain ⟨z, hz, rfl⟩ := List.mem_map.1 hx
        have := F.stamped.1 z hz
        simp at hy
        omega
      have hi := idx_born rfl hl2 hnd
      refine ⟨?_, setBlock_map hM hM' hmp⟩
      simp only at hi
      have h9 : (es.push ⟨.int .i64 (k : Int), .agg (sec zeros), c⟩).modify es.size (fun x => { x with val := .agg (sec s) }) = es.push ⟨.int .i64 (k : Int), .agg (sec s), c⟩ := by
        apply Array.ext
        · simp
        · intro i h4 h5
          simp only [Array.getElem_modify, Array.getElem_push]
          by_cases hi6 : es.size = i
          · subst hi6; simp
          · have h7 : i < es.size := by simp at h5; omega
            simp [hi6, h7]
      simp [Instr.entryStore, MapKept.run_getObj_map hb, asInt, asIntOf, hi, run_setObj_map _ hb, Result.andThen, ChangeMaps.setBlock, ho, h9]
  · have hjl : j < es.toList.length := (List.getElem?_eq_some_iff.1 h2).1
    have hj : es[j]? = some e := by simpa using h2
    refine ⟨e.val, (e.born : Int), .map (es.modify j (fun x => { x with key := .int .i64 k })) c, ob, ?_, fun w' hw' => ?_⟩
    · simp [Instr.mapEntry, run_underlying Tryz.underlying83, MapKept.run_getObj_map hh, run_checkKey Tryz.underlying3 hkI, run_findKey Tryz.underlying3 h1, hj, h3, run_keyThatStays hkI, run_setObj_map _ hh, Result.andThen, ChangeMaps.setBlock, goInt]
    · have hb : w'.heap[M]? = some (.map (es.modify j (fun x => { x with key := .int .i64 k })) c) := by rw [hw']; exact ChangeMaps.heap_setBlock_same hh _
      have hM' := lt_of_block hb
      have ho : ob = .map (es.modify j (fun x => { x with key := .int .i64 k, val := .agg (sec s) })) c := by
        simp [Instr.mapUpdate, run_underlying Tryz.underlying83, MapKept.run_getObj_map hh, run_checkKey Tryz.underlying3 hkI, run_findKey Tryz.underlying3 h1, hj, h3, run_keyThatStays hkI, run_setObj_map _ hh, Result.andThen] at hput
        exact (setBlock_inj hM hput).symm
      have hmod : (es.modify j (fun x => { x with key := .int .i64 k })).toList = es.toList.set j { e with key := .int .i64 k } := by rw [Array.toList_modify, ChangeMaps.modify_eq_set _ _ _ _ h2]
      have hl2 : (es.modify j (fun x => { x with key := .int .i64 k })).toList[j]? = some { e with key := .int .i64 k } := by rw [hmod]; exact List.getElem?_set_self hjl
      have hnd : ((es.modify j (fun x => { x with key := .int .i64 k })).toList.map (·.born)).Nodup := by
        have : (es.modify j (fun x => { x with key := .int .i64 k })).toList.map (·.born) = es.toList.map (·.born) := by
          rw [hmod]
          have he : es.toList[j] = e := (List.getElem?_eq_some_iff.1 h2).2
          apply List.ext_getElem
          · simp
          · intro i h4 h5
            simp only [List.getElem_map, List.getElem_set]
            split
            · rename_i e5; subst e5; rw [he]
            · rfl
        rw [this]; exact F.stamped.2.1
      have hi := idx_born rfl hl2 hnd
      refine ⟨?_, setBlock_map hM hM' hmp⟩
      simp only at hi
      have h9 : (es.modify j (fun x => { x with key := .int .i64 k })).modify j (fun x => { x with val := .agg (sec s) }) = es.modify j (fun x => { x with key := .int .i64 k, val := .agg (sec s) }) := by
        apply Array.ext
        · simp
        · intro i h4 h5
          simp only [Array.getElem_modify]
          split <;> rfl
      simp [Instr.entryStore, MapKept.run_getObj_map hb, asInt, asIntOf, hi, run_setObj_map _ hb, Result.andThen, ChangeMaps.setBlock, ho, h9]
end
/-! ### Frees -/
/-- How many of the first n pages are free. -/
def freeN (m : List UInt8) : Nat → Nat
  | 0 => 0
  | n + 1 => freeN m n + if useB m n then 0 else 1
theorem freeN_le (m : List UInt8) : ∀ n, freeN m n ≤ n
  | 0 => Nat.le_refl _
  | n + 1 => by
    have := freeN_le m n
    show freeN m n + (if useB m n then 0 else 1) ≤ n + 1
    split <;> omega
theorem frees_no (p : Option Addr) (w : World) (h : NotPager p w) : Calls Tryz.prog 14 #[.pointer p] w fun e w' => e = .returned (.int .i64 0) ∧ w = w' := by
  have G := hidm (gvn_no p w h)
  go_enter Tryz.func14, Tryz.ntmps14
  go_wp2_with fail
  refine G.out.mono ?_
  rintro e w1 ⟨rfl, rfl⟩
  go_wp2_with fail
  go_ret
  exact ⟨rfl, rfl⟩
section
variable {W : World} {Q : Nat → Prop} {P L D : Nat} {v : PV} {g : PL} {d : PD} {w : World}
set_option maxHeartbeats 4000000 in
set_option maxRecDepth 100000 in
theorem frees_in (h : Pg W Q P L D v g d w) : Calls Tryz.prog 14 #[.pointer (some ⟨P, 0, none⟩)] w fun e w' => e = .returned (.int .i64 (freeN (Pg.see v d 0) v.pages : Int)) ∧ Below w.heap.size w w' := by
  have G := hidm (gvn_yes P w h.cells.1)
  have UM := hidm (usem_in h)
  have hml := h.see_len 0
  obtain ⟨m, hm⟩ : ∃ m, m = Pg.see v d 0 := ⟨_, rfl⟩
  rw [← hm] at UM hml
  have HM := hidm hm
  obtain ⟨C, hC⟩ : ∃ C, C = sec m := ⟨_, rfl⟩
  obtain ⟨Z, hZ⟩ : ∃ Z, Z = sec zeros := ⟨_, rfl⟩
  have hz := zeroCon
  rw [← hZ] at hz
  rw [← hC] at UM
  have HI := hidm (show (Tryz.prog.info? 80).map (·.size) = some C.size from by rw [hC, Dsk.sec_size, hml]; exact infoCon)
  have HZC := hidm (show Z.size = C.size from by rw [hZ, hC, Dsk.sec_size, Dsk.sec_size, hml, Dsk.zeros_len])
  have H1 := hidm (show C.all (·.oneCell') = true from by rw [hC]; exact Dsk.sec_one _)
  have HC := hidm hC
  have HML := hidm hml
  have HPG := hidm h
  have hn24 := h.ok.2.2.1
  have c4 := h.cells.2.2.2.2.1
  have C4 := hidm (fun (w' : World) (hb : Below w.heap.size w w') => cell_later hb c4)
  obtain ⟨n, hn⟩ : ∃ n, n = v.pages := ⟨_, rfl⟩
  rw [← hn] at hn24 C4 ⊢
  have US := hidm (fun (B k : Nat) (w' : World) (hr : w'.heap[B]? = some (.cells (sec m) 80 (0, 0))) (hk : k < n) => uses_any B k m w' hr hml (by omega))
  rw [← hm]
  clear h hm hC hZ hml hn c4
  go_enter Tryz.func14, Tryz.ntmps14
  go_wp2_with fail
  refine G.out.mono ?_
  rintro e w1 ⟨rfl, rfl⟩
  go_wp2_with fail
  refine UM.out.mono ?_
  rintro e w2 ⟨rfl, hb2⟩
  have HB2 := hidm hb2
  clear hb2
  have c4 := C4.out _ (HB2.out.alloc HB2.out.size (.cells C 80))
  go_wp2_with (refine Dsk.wpList_store_new rfl 80 _ _ rfl w2 Z C rfl rfl HI.out HZC.out H1.out ?_)
  clear c4
  have HROW := hidm (show (w2.alloc (.cells C 80)).heap[w2.heap.size]? = some (.cells (sec m) 80 (0, 0)) from by rw [← HC.out]; exact heap_alloc_last w2 _)
  have HB3 := hidm (HB2.out.alloc HB2.out.size (.cells C 80))
  have HLT := hidm (show w2.heap.size < (w2.alloc (.cells C 80)).heap.size from by simp)
  have HGE := hidm HB2.out.size
  obtain ⟨w3, hw3⟩ : ∃ w3, w3 = w2.alloc (.cells C 80) := ⟨_, rfl⟩
  rw [← hw3] at HROW HB3 HLT ⊢
  obtain ⟨B, hB⟩ : ∃ B, B = w2.heap.size := ⟨_, rfl⟩
  rw [← hB] at HROW HLT HGE ⊢
  clear hw3 hB
  go_loopw [4, 15] (fun cc ii wr => ∃ i : Nat, cc = .int .i64 (freeN m i : Int) ∧ ii = .int .i64 (i : Int) ∧ i ≤ n ∧ Hid (w3 = wr)) (fun _ ii _ => (n - (intOf ii).toNat))
  case atStart => exact ⟨0, rfl, rfl, by omega, hidm rfl⟩
  case round =>
    obtain ⟨i, rfl, rfl, hi, HW⟩ := hrel
    rcases Nat.lt_or_ge i n with hlt | hge
    · have f1 : (i : Int) < (n : Int) := by omega
      have U := hidm (US.out B i _ (HW.out ▸ HROW.out) hlt)
      have hfl := freeN_le m i
      obtain ⟨j, hj⟩ : ∃ j, j = i + 1 := ⟨_, rfl⟩
      have i1 : (i : Int) + 1 = (j : Int) := by omega
      have i1w : IntKind.i64.wrap (j : Int) = (j : Int) := by simp only [IntKind.wrap_i64]; omega
      have HJ := hidm hj
      have HN := hidm (show freeN m j = freeN m i + if useB m i then 0 else 1 from by rw [hj]; rfl)
      have HJN := hidm (show j ≤ n from by omega)
      clear hj
      obtain ⟨b, hb⟩ : ∃ b, b = useB m i := ⟨_, rfl⟩
      rw [← hb] at U HN
      clear hb
      obtain ⟨cn, hcn⟩ : ∃ cn, cn = freeN m i := ⟨_, rfl⟩
      rw [← hcn] at HN hfl ⊢
      clear hcn
      go_wp2_with fail
      refine U.out.mono ?_
      rintro e w4 ⟨rfl, rfl⟩
      cases b with
      | true =>
        have HNN := hidm (show cn = freeN m j from by rw [HN.out]; rfl)
        go_wp2_with fail
        go_roundw
        case rel => exact ⟨j, by rw [← HNN.out], rfl, HJN.out, HW⟩
        case measure => have := HJ.out; simp [intOf]; omega
      | false =>
        obtain ⟨cm, hcm⟩ : ∃ cm, cm = cn + 1 := ⟨_, rfl⟩
        have k1 : (cn : Int) + 1 = (cm : Int) := by omega
        have k1w : IntKind.i64.wrap (cm : Int) = (cm : Int) := by simp only [IntKind.wrap_i64]; omega
        have HNN := hidm (show cm = freeN m j from by rw [HN.out, hcm]; rfl)
        clear hcm
        go_wp2_with fail
        go_roundw
        case rel => exact ⟨j, by rw [← HNN.out], rfl, HJN.out, HW⟩
        case measure => have := HJ.out; simp [intOf]; omega
    · obtain rfl : i = n := by omega
      have f1 : ¬ (i : Int) < (i : Int) := by omega
      go_wp2_with fail
      go_ret
      exact ⟨rfl, HW.out ▸ HB3.out⟩
end
end Pgr
end Go.Proofs.YtmccnlffikegfaaGreatDoor
