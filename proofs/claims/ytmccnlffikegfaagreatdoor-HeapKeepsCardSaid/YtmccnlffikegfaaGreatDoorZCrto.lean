/- The reader's parts: New, Left, Err, octet, number, signed, length. Conditions: the pointer is to a reader whose place is within its bytes. -/
import Derived.Test.YtmccnlffikegfaaGreatDoorZRdr
import Derived.Test.YtmccnlffikegfaaGreatDoorZCod
import Derived.Laws.BitsAllLaws
import Derived.Laws.BitsLemmas
import Derived.Laws.IdiomStrings
import Derived.Lib.AppendStr
namespace Go.Proofs.YtmccnlffikegfaaGreatDoor
open Go.RowKit
namespace Cod
theorem left_nil (w : World) : Calls Tryz.prog 112 #[.pointer none] w fun e w' => e = .returned (.int .i64 0) ∧ w = w' := by
  go_enter Tryz.func112, Tryz.ntmps112
  go_wp2_with fail
  go_ret
  exact ⟨rfl, rfl⟩
theorem err_nil (w : World) : Calls Tryz.prog 97 #[.pointer none] w fun e w' => e = .returned (.int .i64 13) ∧ w = w' := by
  go_enter Tryz.func97, Tryz.ntmps97
  go_wp2_with fail
  go_ret
  exact ⟨rfl, rfl⟩
theorem err_any (r : Nat) (s : ByteArray) (p e : Int) (w : World) (h : Rdr r s p e w) : Calls Tryz.prog 97 #[.pointer (some ⟨r, 0, none⟩)] w fun en w' => en = .returned (.int .i64 e) ∧ w = w' := by
  have h2 := h.c2
  go_enter Tryz.func97, Tryz.ntmps97
  go_wp2_with fail
  go_ret
  exact ⟨rfl, rfl⟩
set_option maxHeartbeats 1000000 in
theorem left_any (r : Nat) (s : ByteArray) (p : Nat) (e : Int) (w : World) (h : Rdr r s p e w) (hp : p ≤ s.size) (hs : s.size ≤ 9223372036854775807) :
    Calls Tryz.prog 112 #[.pointer (some ⟨r, 0, none⟩)] w fun en w' => en = .returned (.int .i64 (s.size - p : Nat)) ∧ Below w.heap.size w w' := by
  have h0 := h.c0
  have h1 := h.c1
  have hd : (s.size : Int) - (p : Int) = ((s.size - p : Nat) : Int) := by omega
  go_enter Tryz.func112, Tryz.ntmps112
  go_wp2_with fail
  go_quiet (fail)
  go_wp2_with fail
  go_ret
  exact ⟨rfl, below_drewN (Below.refl _ _) _⟩
set_option maxHeartbeats 1000000 in
theorem octet_short (r : Nat) (s : ByteArray) (e : Int) (w : World) (h : Rdr r s s.size e w) :
    Calls Tryz.prog 135 #[.pointer (some ⟨r, 0, none⟩)] w fun en w' => en = .panicked (pan 8) ∧ Below w.heap.size w w' := by
  have h0 := h.c0
  have h1 := h.c1
  go_enter Tryz.func135, Tryz.ntmps135
  go_wp2_with fail
  go_quiet (fail)
  go_wp2_with fail
  exact ⟨rfl, rfl, below_drewN (Below.refl _ _) _⟩
set_option maxHeartbeats 1000000 in
theorem octet_ok (r : Nat) (s : ByteArray) (p : Nat) (e : Int) (w : World) (h : Rdr r s p e w) (hp : p < s.size) (hs : s.size ≤ 9223372036854775807) :
    Calls Tryz.prog 135 #[.pointer (some ⟨r, 0, none⟩)] w fun en w' => en = .returned (.int .u8 (s[p].toNat : Int)) ∧ Rdr r s (p + 1 : Nat) e w' ∧ But r w w' := by
  have h0 := h.c0
  have h1 := h.c1
  have z1 := h.z1
  have hne : ((p : Int) == (s.size : Int)) = false := by simp; omega
  go_enter Tryz.func135, Tryz.ntmps135
  go_wp2_with fail
  go_quiet (fail)
  go_wp2_with fail
  have h0' : ∀ a, (w.drewN a).cell? ⟨r, 0, none⟩ = some (.string s) := fun _ => h0
  have h1' : ∀ a, (w.drewN a).cell? ⟨r, 1, none⟩ = some (.int .i64 p) := fun _ => h1
  go_quiet (fail)
  have z2 : ∀ a b, ((w.drewN a).drewN b).frozen? ⟨r, 1, none⟩ = false := fun _ _ => z1
  have h2' : ∀ a b, ((w.drewN a).drewN b).cell? ⟨r, 1, none⟩ = some (.int .i64 p) := fun _ _ => h1
  go_wp2_with fail
  go_ret
  exact ⟨rfl, (h.drewN _).set1 _, ((But.refl _ _).drewN _).set _ _⟩
end Cod
end Go.Proofs.YtmccnlffikegfaaGreatDoor
/- The writers of package code: Uint, Int, Text, oneByte, eightBytes. No condition but that a text's length is below 2^63 - 16. -/
namespace Go.Proofs.YtmccnlffikegfaaGreatDoor
open Go.RowKit
namespace Cod
/-- The bytes that a row of the call's own holds, as a string. -/
theorem str_of_own {w : World} {base : Nat} {l : List UInt8} {v : Value} {n : Nat} (h : w.ownsRow base 5 1 v n (Lib.byteCells l)) (hn : n = l.length) (hne : l ≠ []) :
    (convert 62 9 v).run Tryz.prog w = .ok (.string (S l)) w := by
  subst hn
  obtain ⟨g, cap, rfl⟩ : ∃ g cap, v = .slice (some ⟨g, 0, none⟩) l.length cap := by
    rcases h.2 with ⟨_, h0⟩ | ⟨g, cap, cur, hv, _⟩
    · exact absurd (List.eq_nil_of_length_eq_zero h0) hne
    · exact ⟨g, cap, hv⟩
  refine run_convert_bytes_back (P := Tryz.prog) w _ _ _ _ _ l Tryz.underlying62 Tryz.underlying5 Tryz.underlying9 ?_
  intro j hj
  have := h.cellAt j (by omega)
  have e : (⟨g, 0, none⟩ : Addr).add j = ⟨g, j, none⟩ := by unfold Addr.add; split <;> simp_all
  rw [e, this]
  simp [Lib.byteCells, hj]
theorem cell_one (x : Int) : ∀ j u, [Value.int .u8 x][j]? = some u → j = 0 ∧ u = .int .u8 x := by
  intro j u h
  cases j with
  | zero => simp at h; exact ⟨rfl, h.symm⟩
  | succ j => simp at h
theorem hidm {p : Prop} (h : p) : Hid p := h
set_option maxRecDepth 100000 in
theorem or128' : ∀ x : Fin 256, bits .or .u8 (x.val : Int) 128 = ((128 + x.val % 128 : Nat) : Int) := by decide
theorem or128 (m : Nat) : bits .or .u8 ((m : Int) % 256) 128 = ((128 + m % 128 : Nat) : Int) := by
  have h := or128' ⟨m % 256, by omega⟩
  have e : ((m % 256 : Nat) : Int) = (m : Int) % 256 := by omega
  rw [← e, h]; congr 2; show m % 256 % 128 = m % 128; omega
set_option maxHeartbeats 2000000 in
set_option maxRecDepth 100000 in
theorem uint_any (n : Nat) (hn : n < 18446744073709551616) (w : World) :
    Calls Tryz.prog 73 #[.int .u64 n] w fun e w' => e = .returned (.string (S (uB n))) ∧ Below w.heap.size w w' := by
  obtain ⟨i0, hi, hz0, hz1, hz2⟩ := info_parts (P := Tryz.prog) (e := 5) (z := .int .u8 0) (size := 1) (bytes := 1) (by kernel_rfl)
  go_enter Tryz.func73, Tryz.ntmps73
  go_wp2_with fail
  go_loopw [0, 3] (fun nn v wr => ∃ (m : Nat) (l : List UInt8), nn = .int .u64 m ∧ m < 18446744073709551616 ∧ Hid (uB n = l ++ uB m) ∧ l.length ≤ 9 ∧ wr.ownsRow w.heap.size 5 1 v l.length (Lib.byteCells l) ∧ Below w.heap.size w wr) (fun nn _ _ => (intOf nn).toNat)
  case atStart => exact ⟨n, [], rfl, hn, rfl, by simp, World.ownsRow_nil _ _ _ _, Below.refl _ _⟩
  case round =>
    obtain ⟨m, l, rfl, hm, hu, hk9, hown, hb⟩ := hrel
    have hb' := hb
    rcases Nat.lt_or_ge m 128 with hlt | hge
    · have h1 : ¬ (127 : Int) < m := by omega
      go_wp2_with (at_builtin; refine wpList_append_own _ rfl _ _ 62 rfl w.heap.size 5 i0 (.int .u8 0) 1 1 Tryz.underlying62 hi hz0 hz1 hz2 rfl (by decide) _ _ _ rfl (hown.alloc _) ⟨wr.heap.size, 0, none⟩ 1 1 [.int .u8 m] rfl rfl ?c1 ?c2 ?c3 ?c4 ?c5 ?_)
      case c2 => first | rfl | (intro u hu; simp at hu; subst hu; rfl)
      case c3 => unfold maxLen; omega
      case c4 => omega
      case c5 => have := hb.size; simp; omega
      intro v' w1 hown' hgrow _
      have hB := (hb'.alloc hb'.size (.cells #[.int .u8 m] 5)).grown hgrow (by have := hb'.size; simp; omega) (fun k hk => (hown.lt k hk).1)
      have hc : Lib.byteCells l ++ [.int .u8 m] = Lib.byteCells (uB n) := by
        rw [hu.out, Lib.byteCells_append, uB_lt hlt]; simp [Lib.byteCells, toNat_lt (show m < 256 by omega)]
      rw [hc] at hown'
      have hstr := str_of_own hown' (by rw [hu.out, uB_lt hlt]; simp) (by rw [hu.out, uB_lt hlt]; simp)
      clear hown' hgrow hown hb hb' hc
      go_wp2
      go_ret
      exact ⟨rfl, hB⟩
    · have h1 : (127 : Int) < m := by omega
      have hor := hidm (or128 m)
      go_wp2_with (at_builtin; refine wpList_append_own _ rfl _ _ 62 rfl w.heap.size 5 i0 (.int .u8 0) 1 1 Tryz.underlying62 hi hz0 hz1 hz2 rfl (by decide) _ _ _ rfl (hown.alloc _) ⟨wr.heap.size, 0, none⟩ 1 1 [.int .u8 (bits .or .u8 (m % 256) 128)] rfl rfl ?d1 ?d2 ?d3 ?d4 ?d5 ?_)
      case d1 => intro j u hj; obtain ⟨rfl, rfl⟩ := cell_one _ j u hj; simp [Addr.add]
      case d2 => intro u hu; simp at hu; subst hu; rfl
      case d3 => unfold maxLen; omega
      case d4 => omega
      case d5 => have := hb.size; simp; omega
      intro v' w1 hown' hgrow _
      have hB := (hb'.alloc hb'.size (.cells #[.int .u8 (bits .or .u8 (m % 256) 128)] 5)).grown hgrow (by have := hb'.size; simp; omega) (fun k hk => (hown.lt k hk).1)
      have hc : Lib.byteCells l ++ [.int .u8 (bits .or .u8 (m % 256) 128)] = Lib.byteCells (l ++ [(128 + m % 128).toUInt8]) := by
        rw [Lib.byteCells_append, hor.out]; show _ ++ _ = _ ++ [Value.int .u8 ((128 + m % 128).toUInt8.toNat : Int)]; rw [toNat_lt (show 128 + m % 128 < 256 by omega)]
      have hu' : uB n = (l ++ [(128 + m % 128).toUInt8]) ++ uB (m / 128) := by rw [hu.out, uB_ge hge]; simp
      have hl9 : l.length + 1 ≤ 9 := by
        have h2 := congrArg List.length hu'
        have h3 := uB_ten n hn
        have h4 := uB_pos (m / 128)
        simp at h2; omega
      rw [hc] at hown'
      have HU := hidm hu'
      clear hgrow hown hb hb' hc hu' hor
      go_wp2
      go_roundw
      case rel => exact ⟨m / 128, l ++ [(128 + m % 128).toUInt8], by simp, by omega, HU.out, by simpa using hl9, by simpa using hown', hB⟩
      case measure => simp [intOf]; omega
end Cod
end Go.Proofs.YtmccnlffikegfaaGreatDoor
/- The reader's number. Conditions: the pointer is to a reader whose place is within its bytes. -/
namespace Go.Proofs.YtmccnlffikegfaaGreatDoor
open Go.RowKit
namespace Cod
theorem drop_at (s : ByteArray) (p : Nat) (hp : p < s.size) : s.data.toList.drop p = s[p] :: s.data.toList.drop (p + 1) := by
  have h : p < s.data.toList.length := by rw [Array.length_toList]; exact hp
  rw [List.drop_eq_getElem_cons h]; rfl
theorem drop_end (s : ByteArray) : s.data.toList.drop s.size = [] := by
  apply List.drop_eq_nil_of_le; rw [Array.length_toList]; exact Nat.le_refl _
/-- What a part of a reader comes to: the answer a, and the place behind; or an error. -/
def Part {α : Type} (r : Nat) (s : ByteArray) (e : Int) (w : World) (V : α → Value → World → Prop) : Except Nat (α × List UInt8) → Ending → World → Prop
  | .ok (a, t), en, w' => ∃ v, en = .returned v ∧ V a v w' ∧ Rdr r s (s.size - t.length : Nat) e w' ∧ But r w w'
  | .error x, en, w' => ∃ q : Int, en = .panicked (pan x) ∧ Rdr r s q e w' ∧ But r w w'
def VNat (n : Nat) (v : Value) (_ : World) : Prop := v = .int .u64 n
theorem step_or (k n : Nat) (c : UInt8) (hk : k ≤ 9) (hn : n < 128 ^ k) (h9 : k = 9 → c.toNat ≤ 1) :
    bits .or .u64 (n : Int) (IntKind.u64.wrap (IntKind.u64.wrap (bits .and .u8 (c.toNat : Int) 127) * 2 ^ (7 * k))) = ((n + c.toNat % 128 * 128 ^ k : Nat) : Int) := by
  have hc := c.toNat_lt
  have e1 : bits .and .u8 (c.toNat : Int) 127 = ((c.toNat % 128 : Nat) : Int) := by
    have := u8_and_nat c.toNat 127 (by omega) (by omega)
    rw [show ((127 : Nat) : Int) = 127 from rfl] at this
    rw [this, show (127 : Nat) = 2 ^ 7 - 1 from rfl, Nat.and_two_pow_sub_one_eq_mod]
  have e2 : (128 : Nat) ^ k = 2 ^ (7 * k) := by rw [Nat.pow_mul]
  have hb : c.toNat % 128 * 128 ^ k < 18446744073709551616 := by
    rcases Nat.lt_or_ge k 9 with h8 | h8
    · have h1 : (128 : Nat) ^ k ≤ 128 ^ 8 := Nat.pow_le_pow_right (by omega) (by omega)
      have h2 : c.toNat % 128 * 128 ^ k ≤ 127 * 128 ^ 8 := Nat.mul_le_mul (by omega) h1
      have h3 : (127 : Nat) * 128 ^ 8 < 18446744073709551616 := by decide
      omega
    · have hk9 : k = 9 := by omega
      have := h9 hk9
      subst hk9
      rw [nine]; omega
  have hn2 : n < 18446744073709551616 := by
    have h1 : (128 : Nat) ^ k ≤ 128 ^ 9 := Nat.pow_le_pow_right (by omega) hk
    rw [nine] at h1; omega
  have e3 : IntKind.u64.wrap ((c.toNat % 128 : Nat) : Int) = ((c.toNat % 128 : Nat) : Int) := by simp only [IntKind.wrap_u64]; omega
  have e4 : ((c.toNat % 128 : Nat) : Int) * 2 ^ (7 * k) = ((c.toNat % 128 * 128 ^ k : Nat) : Int) := by rw [e2]; push_cast; rfl
  have e5 : IntKind.u64.wrap ((c.toNat % 128 * 128 ^ k : Nat) : Int) = ((c.toNat % 128 * 128 ^ k : Nat) : Int) := by simp only [IntKind.wrap_u64]; omega
  rw [e1, e3, e4, e5, u64_or_nat _ _ hn2 hb]
  have := Nat.two_pow_add_eq_or_of_lt (b := n) (i := 7 * k) (by rw [← e2]; exact hn) (c.toNat % 128)
  rw [e2, Nat.mul_comm (c.toNat % 128), Nat.or_comm, ← this, Nat.add_comm]
theorem step_lt (k n : Nat) (c : UInt8) (hn : n < 128 ^ k) : n + c.toNat % 128 * 128 ^ k < 128 ^ (k + 1) := by
  have h1 : c.toNat % 128 * 128 ^ k ≤ 127 * 128 ^ k := Nat.mul_le_mul_right _ (by omega)
  rw [Nat.pow_succ]; omega
/-- The three ways of a round. -/
theorem num_bad {s : ByteArray} {q k n : Nat} {c : UInt8} (hq : q < s.size) (hc : s[q] = c) (h : (k = 9 ∧ 1 < c.toNat) ∨ (0 < k ∧ c.toNat = 0)) : num k n (s.data.toList.drop q) = .error 7 := by
  rw [drop_at s q hq, hc, num_cons, if_pos h]
theorem num_end {s : ByteArray} {q k n : Nat} {c : UInt8} (hq : q < s.size) (hc : s[q] = c) (h : ¬ ((k = 9 ∧ 1 < c.toNat) ∨ (0 < k ∧ c.toNat = 0))) (h2 : c.toNat < 128) : num k n (s.data.toList.drop q) = .ok (n + c.toNat % 128 * 128 ^ k, s.data.toList.drop (q + 1)) := by
  rw [drop_at s q hq, hc, num_cons, if_neg h, if_pos h2]
theorem num_more {s : ByteArray} {q k n : Nat} {c : UInt8} (hq : q < s.size) (hc : s[q] = c) (h : ¬ ((k = 9 ∧ 1 < c.toNat) ∨ (0 < k ∧ c.toNat = 0))) (h2 : 128 ≤ c.toNat) : num k n (s.data.toList.drop q) = num (k + 1) (n + c.toNat % 128 * 128 ^ k) (s.data.toList.drop (q + 1)) := by
  rw [drop_at s q hq, hc, num_cons, if_neg h, if_neg (by omega)]
theorem back_at (s : ByteArray) (q : Nat) (hq : q ≤ s.size) : s.size - (s.data.toList.drop q).length = q := by
  rw [List.length_drop, Array.length_toList]; show s.size - (s.size - q) = q; omega
set_option maxHeartbeats 8000000 in
set_option maxRecDepth 100000 in
theorem number_any (r : Nat) (s : ByteArray) (p : Nat) (e : Int) (w : World) (h : Rdr r s p e w) (hp : p ≤ s.size) (hs : s.size ≤ 9223372036854775807) :
    Calls Tryz.prog 119 #[.pointer (some ⟨r, 0, none⟩)] w fun en w' => Part r s e w VNat (num 0 0 (s.data.toList.drop p)) en w' := by
  have Hs := hidm hs
  obtain ⟨R, hR⟩ : ∃ R, R = num 0 0 (s.data.toList.drop p) := ⟨_, rfl⟩
  rw [← hR]
  have HP := hidm hR
  clear hR hs
  go_enter Tryz.func119, Tryz.ntmps119
  go_wp2_with fail
  go_loopw [3, 4, 5] (fun nn sh _ wr => ∃ (k n q : Nat), nn = .int .u64 n ∧ sh = .int .i64 (7 * (k : Int)) ∧ k ≤ 9 ∧ q ≤ s.size ∧ Hid (n < 128 ^ k) ∧ Hid (R = num k n (s.data.toList.drop q)) ∧ Hid (Rdr r s q e wr) ∧ Hid (But r w wr)) (fun _ sh _ _ => (70 - intOf sh).toNat)
  case atStart => exact ⟨0, 0, p, rfl, rfl, by omega, hp, hidm (by simp), HP, hidm h, hidm (But.refl _ _)⟩
  case round =>
    obtain ⟨k, n, q, rfl, rfl, hk, hq, HN, HM, HR, HB⟩ := hrel
    rcases Nat.eq_or_lt_of_le hq with hqe | hqe
    · have HQ := hidm hqe
      clear hqe
      go_wp2_with fail
      refine (octet_short r s e wr (by rw [← HQ.out]; exact HR.out)).mono ?_
      rintro en w1 ⟨rfl, hb1⟩
      have HR1 := hidm (HR.out.later hb1)
      have HB1 := hidm (HB.out.trans (.of hb1))
      clear hb1
      go_wp2_with fail
      refine ⟨rfl, ?_⟩
      rw [HM.out, HQ.out, drop_end]
      exact ⟨_, rfl, HR1.out, HB1.out⟩
    · obtain ⟨c, hc⟩ : ∃ c : UInt8, s[q] = c := ⟨_, rfl⟩
      have hcl := c.toNat_lt
      have hoct := octet_ok r s q e wr HR.out hqe Hs.out
      rw [hc] at hoct
      have HC := hidm hc
      clear hc
      rcases (show (k = 9 ∧ 1 < c.toNat) ∨ (k = 9 ∧ c.toNat = 0) ∨ (k = 9 ∧ c.toNat = 1) ∨ (k = 0 ∧ c.toNat < 128) ∨ (k = 0 ∧ 128 ≤ c.toNat) ∨ ((0 < k ∧ k < 9) ∧ c.toNat = 0) ∨ ((0 < k ∧ k < 9) ∧ (0 < c.toNat ∧ c.toNat < 128)) ∨ ((0 < k ∧ k < 9) ∧ 128 ≤ c.toNat) by omega) with ⟨hk1, hc1⟩ | ⟨hk1, hc1⟩ | ⟨hk1, hc1⟩ | ⟨hk1, hc1⟩ | ⟨hk1, hc1⟩ | ⟨hk1, hc1⟩ | ⟨hk1, hc1⟩ | ⟨hk1, hc1⟩
      · -- k9bad
        have f1 : (1 : Int) < (c.toNat : Int) := by omega
        have HX := hidm (num_bad (n := n) hqe HC.out (k := k) (by omega))
        have HK := hidm hk1
        have f9 : (7 * (k : Int) == 63) = true := by simp; omega
        have f8 : (0 : Int) < 7 * (k : Int) := by omega
        have hk2 : k ≤ 8 ∨ k = 9 := by omega
        have HK1 := hidm hk1
        have HC1 := hidm hc1
        clear hk1 hc1
        go_wp2_with fail
        refine hoct.mono ?_
        rintro en w1 ⟨rfl, hr1, hb1⟩
        have HR1 := hidm hr1
        have HB1 := hidm (HB.out.trans hb1)
        clear hr1 hb1
        go_wp2_with fail
        refine ⟨rfl, ?_⟩
        rw [HM.out, HX.out]
        exact ⟨_, rfl, HR1.out, HB1.out⟩
      · -- k9zero
        have f1 : ((c.toNat : Int) == 0) = true := by simp; omega
        have f2 : ¬ (1 : Int) < (c.toNat : Int) := by omega
        have HX := hidm (num_bad (n := n) hqe HC.out (k := k) (by omega))
        have HK := hidm hk1
        have f9 : (7 * (k : Int) == 63) = true := by simp; omega
        have f8 : (0 : Int) < 7 * (k : Int) := by omega
        have hk2 : k ≤ 8 ∨ k = 9 := by omega
        have HK1 := hidm hk1
        have HC1 := hidm hc1
        clear hk1 hc1
        go_wp2_with fail
        refine hoct.mono ?_
        rintro en w1 ⟨rfl, hr1, hb1⟩
        have HR1 := hidm hr1
        have HB1 := hidm (HB.out.trans hb1)
        clear hr1 hb1
        go_wp2_with fail
        refine ⟨rfl, ?_⟩
        rw [HM.out, HX.out]
        exact ⟨_, rfl, HR1.out, HB1.out⟩
      · -- k9end
        have f1 : ((c.toNat : Int) == 0) = false := by simp; omega
        have f2 : ¬ (1 : Int) < (c.toNat : Int) := by omega
        have f3 : (c.toNat : Int) < 128 := by omega
        have HO := hidm (step_or k n c hk HN.out (by omega))
        have HL := hidm (step_lt k n c HN.out)
        have HX := hidm (num_end (n := n) hqe HC.out (k := k) (by omega) (by omega))
        have HK := hidm hk1
        have f9 : (7 * (k : Int) == 63) = true := by simp; omega
        have f8 : (0 : Int) < 7 * (k : Int) := by omega
        have hk2 : k ≤ 8 ∨ k = 9 := by omega
        have HK1 := hidm hk1
        have HC1 := hidm hc1
        clear hk1 hc1
        go_wp2_with fail
        refine hoct.mono ?_
        rintro en w1 ⟨rfl, hr1, hb1⟩
        have HR1 := hidm hr1
        have HB1 := hidm (HB.out.trans hb1)
        clear hr1 hb1
        go_wp2_with fail
        go_ret
        rw [HM.out, HX.out]
        exact ⟨_, rfl, congrArg (Value.int .u64) HO.out, by rw [back_at s (q + 1) hqe]; exact HR1.out, HB1.out⟩
      · -- zend
        have f3 : (c.toNat : Int) < 128 := by omega
        have HO := hidm (step_or k n c hk HN.out (by omega))
        have HL := hidm (step_lt k n c HN.out)
        have HX := hidm (num_end (n := n) hqe HC.out (k := k) (by omega) (by omega))
        have HK := hidm hk1
        have f9 : (7 * (k : Int) == 63) = false := by simp; omega
        have f8 : ¬ (0 : Int) < 7 * (k : Int) := by omega
        have hk2 : k ≤ 8 ∨ k = 9 := by omega
        have HK1 := hidm hk1
        have HC1 := hidm hc1
        clear hk1 hc1
        go_wp2_with fail
        refine hoct.mono ?_
        rintro en w1 ⟨rfl, hr1, hb1⟩
        have HR1 := hidm hr1
        have HB1 := hidm (HB.out.trans hb1)
        clear hr1 hb1
        go_wp2_with fail
        go_ret
        rw [HM.out, HX.out]
        exact ⟨_, rfl, congrArg (Value.int .u64) HO.out, by rw [back_at s (q + 1) hqe]; exact HR1.out, HB1.out⟩
      · -- zmore
        have f3 : ¬ (c.toNat : Int) < 128 := by omega
        have HO := hidm (step_or k n c hk HN.out (by omega))
        have HL := hidm (step_lt k n c HN.out)
        have HX := hidm (num_more (n := n) hqe HC.out (k := k) (by omega) (by omega))
        have HK := hidm hk1
        have f9 : (7 * (k : Int) == 63) = false := by simp; omega
        have f8 : ¬ (0 : Int) < 7 * (k : Int) := by omega
        have hk2 : k ≤ 8 ∨ k = 9 := by omega
        have HK1 := hidm hk1
        have HC1 := hidm hc1
        clear hk1 hc1
        go_wp2_with fail
        refine hoct.mono ?_
        rintro en w1 ⟨rfl, hr1, hb1⟩
        have HR1 := hidm hr1
        have HB1 := hidm (HB.out.trans hb1)
        clear hr1 hb1
        go_wp2_with fail
        go_roundw
        case rel => exact ⟨k + 1, n + c.toNat % 128 * 128 ^ k, q + 1, congrArg (Value.int .u64) HO.out, by go_num, by have := HK1.out; omega, hqe, HL, hidm (HM.out.trans HX.out), HR1, HB1⟩
        case measure => have := HK1.out; simp [intOf]; omega
      · -- kzero
        have f0 : (7 * (k : Int) == 63) = false := by simp; omega
        have f1 : ((c.toNat : Int) == 0) = true := by simp; omega
        have f2 : (0 : Int) < 7 * (k : Int) := by omega
        have HX := hidm (num_bad (n := n) hqe HC.out (k := k) (by omega))
        have hk2 : k ≤ 8 ∨ k = 9 := by omega
        have HK1 := hidm hk1
        have HC1 := hidm hc1
        clear hk1 hc1
        go_wp2_with fail
        refine hoct.mono ?_
        rintro en w1 ⟨rfl, hr1, hb1⟩
        have HR1 := hidm hr1
        have HB1 := hidm (HB.out.trans hb1)
        clear hr1 hb1
        go_wp2_with fail
        refine ⟨rfl, ?_⟩
        rw [HM.out, HX.out]
        exact ⟨_, rfl, HR1.out, HB1.out⟩
      · -- kend
        have f0 : (7 * (k : Int) == 63) = false := by simp; omega
        have f1 : ((c.toNat : Int) == 0) = false := by simp; omega
        have f2 : (0 : Int) < 7 * (k : Int) := by omega
        have f3 : (c.toNat : Int) < 128 := by omega
        have HO := hidm (step_or k n c hk HN.out (by omega))
        have HL := hidm (step_lt k n c HN.out)
        have HX := hidm (num_end (n := n) hqe HC.out (k := k) (by omega) (by omega))
        have hk2 : k ≤ 8 ∨ k = 9 := by omega
        have HK1 := hidm hk1
        have HC1 := hidm hc1
        clear hk1 hc1
        go_wp2_with fail
        refine hoct.mono ?_
        rintro en w1 ⟨rfl, hr1, hb1⟩
        have HR1 := hidm hr1
        have HB1 := hidm (HB.out.trans hb1)
        clear hr1 hb1
        go_wp2_with fail
        go_ret
        rw [HM.out, HX.out]
        exact ⟨_, rfl, congrArg (Value.int .u64) HO.out, by rw [back_at s (q + 1) hqe]; exact HR1.out, HB1.out⟩
      · -- kmore
        have f0 : (7 * (k : Int) == 63) = false := by simp; omega
        have f1 : ((c.toNat : Int) == 0) = false := by simp; omega
        have f2 : (0 : Int) < 7 * (k : Int) := by omega
        have f3 : ¬ (c.toNat : Int) < 128 := by omega
        have HO := hidm (step_or k n c hk HN.out (by omega))
        have HL := hidm (step_lt k n c HN.out)
        have HX := hidm (num_more (n := n) hqe HC.out (k := k) (by omega) (by omega))
        have hk2 : k ≤ 8 ∨ k = 9 := by omega
        have HK1 := hidm hk1
        have HC1 := hidm hc1
        clear hk1 hc1
        go_wp2_with fail
        refine hoct.mono ?_
        rintro en w1 ⟨rfl, hr1, hb1⟩
        have HR1 := hidm hr1
        have HB1 := hidm (HB.out.trans hb1)
        clear hr1 hb1
        go_wp2_with fail
        go_roundw
        case rel => exact ⟨k + 1, n + c.toNat % 128 * 128 ^ k, q + 1, congrArg (Value.int .u64) HO.out, by go_num, by have := HK1.out; omega, hqe, HL, hidm (HM.out.trans HX.out), HR1, HB1⟩
        case measure => have := HK1.out; simp [intOf]; omega
end Cod
end Go.Proofs.YtmccnlffikegfaaGreatDoor
