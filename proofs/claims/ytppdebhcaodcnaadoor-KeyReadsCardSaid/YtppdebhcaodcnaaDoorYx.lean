/- The document's own number of eight bytes and its guess at a key's first value (layer 4). Conditions: the text has at most a million bytes; for the guess at least one. -/
import Derived.Test.YtppdebhcaodcnaaDoorYt
import Derived.Test.YtppdebhcaodcnaaDoorYl
namespace Go.Proofs.YtppdebhcaodcnaaDoor
open Go.RowKit Cod
namespace Ky
/-- What the document's guess comes to. -/
def GOut (s : ByteArray) (w : World) (e : Ending) (w' : World) : Prop := ∃ v : V, e = .returned v.agg ∧ (v.inn ∧ ∀ (u : V) (t : List UInt8), u.right = true → u.inn → s.data.toList = one u ++ t → v = u) ∧ Below w.heap.size w w'
def EOut (s : ByteArray) (w : World) (e : Ending) (w' : World) : Prop := ∃ x : Nat, e = .returned (.int .u64 x) ∧ (x < 18446744073709551616 ∧ ∀ (n : Nat) (t : List UInt8), n < 18446744073709551616 → s.data.toList = be 8 n ++ t → x = n) ∧ Below w.heap.size w w'
theorem un_more (s : ByteArray) (i : Nat) (h : i < s.size) (h8 : i < 8) : ∃ y : Nat, y = un (s.data.toList.take (i + 1)) ∧ y = 256 * un (s.data.toList.take i) + s[i].toNat ∧ y < 18446744073709551616 := by
  refine ⟨_, rfl, ?_, ?_⟩
  · rw [List.take_succ_eq_append_getElem (by simpa using h), un_snoc, byte_get s i h, Nat.mul_comm]
  · have h1 := un_lt (s.data.toList.take (i + 1))
    have h2 : (s.data.toList.take (i + 1)).length ≤ 8 := by rw [List.length_take]; omega
    have h3 := Nat.pow_le_pow_right (n := 256) (by decide) h2
    have h4 : (256 : Nat) ^ 8 = 18446744073709551616 := by decide
    omega
set_option maxHeartbeats 2000000 in
set_option maxRecDepth 100000 in
theorem unEight_any (s : ByteArray) (hs : s.size ≤ 1000000) (w : World) :
    Calls Tryd.prog 79 #[.string s] w (EOut s w) := by
  go_enter Tryd.func79, Tryd.ntmps79
  go_wp2_with fail
  go_loopw [3, 4] (fun nn ii wr => ∃ i y : Nat, nn = .int .u64 y ∧ ii = .int .i64 i ∧ i ≤ 8 ∧ i ≤ s.size ∧ y < 18446744073709551616 ∧ Hid (y = un (s.data.toList.take i)) ∧ Hid (wr = w)) (fun _ ii _ => (8 - intOf ii).toNat)
  case atStart => exact ⟨0, 0, rfl, rfl, by omega, by omega, by omega, hidm (by simp [un]), hidm rfl⟩
  case round =>
    obtain ⟨i, y, rfl, rfl, hi, his, hy, HY, HW⟩ := hrel
    obtain rfl : wr = w := HW.out
    by_cases hgo : i < 8 ∧ i < s.size
    · obtain ⟨h1, h2⟩ := hgo
      have f1 : (i : Int) < 8 := by omega
      have f2 : (i : Int) < s.size := by omega
      obtain ⟨y', hy1, hy2, hy3⟩ := un_more s i h2 h1
      rw [← HY.out] at hy2
      have HY2 := hidm hy1
      have hc := s[i].toNat_lt
      have w1 : (256 * (y : Int)) % 18446744073709551616 = 256 * (y : Int) := by omega
      have w2 : IntKind.u64.wrap (256 * (y : Int)) = 256 * (y : Int) := by rw [IntKind.wrap_u64]; omega
      have w3 : IntKind.u64.wrap (s[i].toNat : Int) = (s[i].toNat : Int) := by rw [IntKind.wrap_u64]; omega
      have w4 : (256 * (y : Int) + (s[i].toNat : Int)) % 18446744073709551616 = (y' : Int) := by omega
      have w5 : IntKind.u64.wrap (256 * (y : Int) + (s[i].toNat : Int)) = (y' : Int) := by rw [IntKind.wrap_u64]; omega
      have w6 : (s[i].toNat : Int) % 18446744073709551616 = (s[i].toNat : Int) := by omega
      clear hy1 hy2 h1 HY
      go_wp2_with fail
      go_roundw
      case rel => exact ⟨i + 1, y', by first | rfl | (simp only [w1, w2, w3, w4, w5, w6]; done) | simp [w1, w2, w3, w4, w5, w6], by go_num, by omega, by omega, hy3, HY2, hidm trivial⟩
      case measure => simp [intOf]; omega
    · have hu : Hid (∀ (n : Nat) (t : List UInt8), n < 18446744073709551616 → s.data.toList = be 8 n ++ t → y = n) := hidm (by
        intro n t hn e
        have hl : 8 ≤ s.size := by
          have h := congrArg List.length e
          rw [List.length_append, be_len] at h
          have e2 : s.size = s.data.toList.length := by simp
          omega
        have h8 : i = 8 := by omega
        rw [HY.out, h8, e, List.take_left' (be_len 8 n), un_be8 n hn])
      rcases Nat.lt_or_ge i 8 with h1 | h1
      · have f1 : (i : Int) < 8 := by omega
        have f2 : ¬ (i : Int) < s.size := by omega
        clear hgo h1 HY
        go_wp2_with fail
        go_ret
        exact ⟨y, rfl, ⟨hy, hu.out⟩, Below.refl _ _⟩
      · have f1 : ¬ (i : Int) < 8 := by omega
        clear hgo h1 HY
        go_wp2_with fail
        go_ret
        exact ⟨y, rfl, ⟨hy, hu.out⟩, Below.refl _ _⟩
theorem str_tl (s : ByteArray) : (s.extract 1 s.size).data.toList = s.data.toList.drop 1 := by
  have := Lib.extract_toList s 1 s.size
  rw [ByteArray.toList_eq] at this
  rw [this, List.take_of_length_le (by simp)]
/-- How a text begins that begins with a value's bytes. -/
theorem head_of (s : ByteArray) (h0 : 0 < s.size) {u : V} (hr : u.right = true) {t : List UInt8} (e : s.data.toList = one u ++ t) : (s[0].toNat : Int) - 1 = u.k ∧ (s.extract 1 s.size).data.toList = rest u ++ t := by
  obtain ⟨c, _, hk, hc⟩ := one_head hr
  rw [hc] at e
  have hb := byte_get s 0 h0
  have e1 : s[0] = c := by
    rw [← hb]; simp [e]
  refine ⟨by rw [e1]; exact hk, ?_⟩
  rw [str_tl, e]; rfl
open Ref in
set_option maxRecDepth 100000 in
set_option maxHeartbeats 4000000 in
theorem guess_none (s : ByteArray) (w : World) (h0 : 0 < s.size) (g1 : ((s[0].toNat : Int) - 1 == 1) = false) (g2 : ((s[0].toNat : Int) - 1 == 2) = false) (g3 : ((s[0].toNat : Int) - 1 == 3) = false) (g4 : ((s[0].toNat : Int) - 1 == 4) = false) (g5 : ((s[0].toNat : Int) - 1 == 5) = false) :
    Calls Tryd.prog 50 #[.string s] w (GOut s w) := by
  have hpos : (0 : Int) < s.size := by omega
  have hlt := s[0].toNat_lt
  have hs1 : (1 : Int) ≤ s.size := by omega
  have hw1 : IntKind.i64.wrap (s[0].toNat : Int) = (s[0].toNat : Int) := by rw [IntKind.wrap_i64]; omega
  have hw2 : IntKind.i64.wrap ((s[0].toNat : Int) - 1) = (s[0].toNat : Int) - 1 := by rw [IntKind.wrap_i64]; omega
  have HZ : Hid ((s[0].toNat : Int) - 1 ≠ 1 ∧ (s[0].toNat : Int) - 1 ≠ 2 ∧ (s[0].toNat : Int) - 1 ≠ 3 ∧ (s[0].toNat : Int) - 1 ≠ 4 ∧ (s[0].toNat : Int) - 1 ≠ 5) := Lib.hid ⟨by simpa using g1, by simpa using g2, by simpa using g3, by simpa using g4, by simpa using g5⟩
  have HL := Lib.hid (show s[0].toNat < 256 from hlt)
  go_enter Tryd.func50, Tryd.ntmps50
  go_wp2_with fail
  refine bodyPost_ret (v := .agg #[.int .i64 ((s[0].toNat : Int) - 1), .int .i64 0, .int .u64 0, .string ⟨#[]⟩]) (by simp [results, Tryd.results50, go_sem]) rfl ?_
  refine ⟨⟨(s[0].toNat : Int) - 1, 0, 0, []⟩, rfl, ⟨⟨by show _ ≤ (s[0].toNat : Int) - 1; omega, by show (s[0].toNat : Int) - 1 ≤ _; omega, by show _ ≤ (0 : Int); omega, by show (0 : Int) ≤ _; omega, by show (0 : Nat) < _; omega⟩, fun u t hr _ e => ?_⟩, ((Below.refl _ _).alloc (Nat.le_refl _) _).alloc (by simp) _⟩
  have hk := (head_of s h0 hr e).1
  have := (right_kind hr).1
  have hz := HZ.out
  rw [(form_k hr).1 (by omega), hk, (form_k hr).1 (by omega)]
open Ref in
set_option maxRecDepth 100000 in
set_option maxHeartbeats 4000000 in
theorem guess_bool (s : ByteArray) (w : World) (h0 : 0 < s.size) (hc : (s[0].toNat : Int) = 2) :
    Calls Tryd.prog 50 #[.string s] w (GOut s w) := by
  have hpos : (0 : Int) < s.size := by omega
  have hs1 : (1 : Int) ≤ s.size := by omega
  have HC := Lib.hid hc
  have hT : (s.extract 1 s.size).size = s.size - 1 := by simp
  rcases Nat.lt_or_ge 1 s.size with hz | hz
  · have g : (s.extract 1 s.size).toList.isEmpty = false := by
      rw [ByteArray.toList_eq, List.isEmpty_eq_false_iff]
      intro q
      have : (s.extract 1 s.size).data.toList.length = s.size - 1 := by simp
      rw [q] at this
      simp at this; omega
    have hp1 : 0 < s.size - 1 := by omega
    have hp2 : 0 < (s.extract 1 s.size).size := by omega
    obtain ⟨N, hN⟩ : ∃ N : Nat, N = (s.extract 1 s.size)[0].toNat := ⟨_, rfl⟩
    have hlt : N < 256 := by rw [hN]; exact (s.extract 1 s.size)[0].toNat_lt
    have hw : wrap64 ((s.extract 1 s.size)[0].toNat : Int) = (N : Int) := by unfold wrap64; rw [← hN]; omega
    have HN := Lib.hid hN
    have HLT := Lib.hid hlt
    clear hN hlt hT hz
    go_enter Tryd.func50, Tryd.ntmps50
    go_wp2_with fail
    refine bodyPost_ret (v := .agg #[.int .i64 1, .int .i64 N, .int .u64 0, .string ⟨#[]⟩]) (by simp [results, Tryd.results50, go_sem]) rfl ?_
    refine ⟨⟨1, (N : Int), 0, []⟩, rfl, ⟨⟨by show _ ≤ (1 : Int); omega, by show (1 : Int) ≤ _; omega, by show _ ≤ (N : Int); omega, by show (N : Int) ≤ _; have := HLT.out; omega, by show (0 : Nat) < _; omega⟩, fun u t hr _ e => ?_⟩, ((Below.refl _ _).alloc (Nat.le_refl _) _).alloc (by simp) _⟩
    obtain ⟨hk, hl⟩ := head_of s h0 hr e
    obtain ⟨n, rfl, hn⟩ := (form_k hr).2.1 (by have := HC.out; omega)
    have e2 : rest ⟨1, n, 0, []⟩ = [n.toNat.toUInt8] := rfl
    rw [e2] at hl
    have h0' : (s.extract 1 s.size)[0] = n.toNat.toUInt8 := by
      have := byte_get (s.extract 1 s.size) 0 hp2
      rw [← this]
      simp only [hl]; rfl
    have : (N : Int) = n := by rw [HN.out, h0']; rcases hn with rfl | rfl <;> rfl
    rw [this]
  · have g : (s.extract 1 s.size).toList.isEmpty = true := by
      rw [ByteArray.toList_eq, List.isEmpty_iff]
      apply List.eq_nil_of_length_eq_zero
      simp; omega
    have HZ := Lib.hid hz
    clear hT hz
    go_enter Tryd.func50, Tryd.ntmps50
    go_wp2_with fail
    refine bodyPost_ret (v := .agg #[.int .i64 1, .int .i64 0, .int .u64 0, .string ⟨#[]⟩]) (by simp [results, Tryd.results50, go_sem]) rfl ?_
    refine ⟨⟨1, 0, 0, []⟩, rfl, ⟨⟨by show _ ≤ (1 : Int); omega, by show (1 : Int) ≤ _; omega, by show _ ≤ (0 : Int); omega, by show (0 : Int) ≤ _; omega, by show (0 : Nat) < _; omega⟩, fun u t hr _ e => ?_⟩, ((Below.refl _ _).alloc (Nat.le_refl _) _).alloc (by simp) _⟩
    obtain ⟨hk, hl⟩ := head_of s h0 hr e
    obtain ⟨n, rfl, hn⟩ := (form_k hr).2.1 (by have := HC.out; omega)
    have e2 : rest ⟨1, n, 0, []⟩ = [n.toNat.toUInt8] := rfl
    rw [e2] at hl
    have h3 := congrArg List.length hl
    have h4 : (s.extract 1 s.size).data.toList.length = s.size - 1 := by simp
    rw [h4] at h3
    simp at h3
    have := HZ.out
    omega
theorem sub_back (x : Nat) (hx : x < 18446744073709551616) : ∃ (Y : Nat) (N : Int), IntKind.u64.wrap ((x : Int) - 9223372036854775808) = (Y : Int) ∧ ((x : Int) - 9223372036854775808) % 18446744073709551616 = (Y : Int) ∧ IntKind.i64.wrap (Y : Int) = N ∧ wrap64 (Y : Int) = N ∧ (-9223372036854775808 ≤ N ∧ N ≤ 9223372036854775807) ∧ ∀ n : Int, -9223372036854775808 ≤ n → n ≤ 9223372036854775807 → x = top n → N = n := by
  refine ⟨(((x : Int) - 9223372036854775808) % 18446744073709551616).toNat, IntKind.i64.wrap (((((x : Int) - 9223372036854775808) % 18446744073709551616).toNat : Nat) : Int), ?_, ?_, rfl, ?_, ?_, ?_⟩
  · rw [IntKind.wrap_u64]; omega
  · omega
  · rw [IntKind.wrap_i64]; unfold wrap64; omega
  · rw [IntKind.wrap_i64]; omega
  · intro n h0 h1 e
    rw [IntKind.wrap_i64]
    unfold top at e
    omega
open Ref in
set_option maxRecDepth 100000 in
set_option maxHeartbeats 4000000 in
theorem guess_int (s : ByteArray) (w : World) (h0 : 0 < s.size) (hs : s.size ≤ 1000000) (hc : (s[0].toNat : Int) = 3) :
    Calls Tryd.prog 50 #[.string s] w (GOut s w) := by
  have hpos : (0 : Int) < s.size := by omega
  have hs1 : (1 : Int) ≤ s.size := by omega
  have HC := Lib.hid hc
  have HG0 := Lib.hid (gst_new w 2)
  have hnum := unEight_any (s.extract 1 s.size) (by simp; omega)
  clear hs
  go_enter Tryd.func50, Tryd.ntmps50
  go_wp2_with fail
  refine (hnum _).mono ?_
  rintro e w1 ⟨x, rfl, ⟨hx, hu⟩, hb⟩
  have HG := Lib.hid (HG0.out.later hb)
  obtain ⟨Y, N, y1, y2, y3, y4, hNb, hNu⟩ := sub_back x hx
  have HU := Lib.hid hu
  have HNB := Lib.hid hNb
  have HNU := Lib.hid hNu
  have HG2 := Lib.hid (HG.out.put1 N)
  clear hb HG0 hnum hu hNb hNu hx
  have a0 := HG.out.2.2.1.c0
  have a1 := HG.out.2.2.1.c1
  have a2 := HG.out.2.2.1.c2
  have a3 := HG.out.2.2.1.c3
  have az := HG.out.2.2.1.z
  have k0 := HG.out.2.2.2.c0
  have k1 := HG.out.2.2.2.c1
  have k2 := HG.out.2.2.2.c2
  have k3 := HG.out.2.2.2.c3
  have kz := HG.out.2.2.2.z
  go_wp2_with fail
  have HP := Lib.hid (put4_vb (k := 2) (n := N) (x := 0) (t := ⟨#[]⟩) HG2.out.2.2.1)
  have p0 := HP.out.c0
  have p1 := HP.out.c1
  have p2 := HP.out.c2
  have p3 := HP.out.c3
  show bodyPost _ _ _ _ _ (put4 (w1.setCell ⟨w.heap.size + 1, 1, none⟩ (.int .i64 N)) w.heap.size (.int .i64 2) (.int .i64 N) (.int .u64 0) (.string ⟨#[]⟩))
  refine bodyPost_ret (v := .agg #[.int .i64 2, .int .i64 N, .int .u64 0, .string ⟨#[]⟩]) (by simp [results, Tryd.results50, go_sem, p0, p1, p2, p3]) rfl ?_
  refine ⟨⟨2, N, 0, []⟩, rfl, ⟨⟨by show _ ≤ (2 : Int); omega, by show (2 : Int) ≤ _; omega, HNB.out.1, HNB.out.2, by show (0 : Nat) < _; omega⟩, fun u t hr hi e => ?_⟩, put4_below _ _ _ _ _ (Nat.le_refl _) HG2.out.1⟩
  obtain ⟨hk, hl⟩ := head_of s h0 hr e
  obtain ⟨n, rfl⟩ := (form_k hr).2.2.1 (by have := HC.out; omega)
  have e2 : rest ⟨2, n, 0, []⟩ = be 8 (top n) := rfl
  rw [e2] at hl
  have q0 := hi.n0
  have q1 := hi.n1
  dsimp only at q0 q1
  have ht : top n < 18446744073709551616 := by unfold top; omega
  rw [HNU.out n q0 q1 (HU.out _ t ht hl)]
theorem sub_turn (x : Nat) (hx : x < 18446744073709551616) : ∃ Y Z : Nat, IntKind.u64.wrap ((x : Int) - 9223372036854775808) = (Y : Int) ∧ ((x : Int) - 9223372036854775808) % 18446744073709551616 = (Y : Int) ∧ IntKind.u64.wrap (18446744073709551615 - (x : Int)) = (Z : Int) ∧ (18446744073709551615 - (x : Int)) % 18446744073709551616 = (Z : Int) ∧ (x < 9223372036854775808 → unturn x = Z) ∧ (¬ x < 9223372036854775808 → unturn x = Y) ∧ Y < 18446744073709551616 ∧ Z < 18446744073709551616 := by
  refine ⟨(((x : Int) - 9223372036854775808) % 18446744073709551616).toNat, 18446744073709551615 - x, ?_, ?_, ?_, ?_, ?_, ?_, ?_, ?_⟩
  · rw [IntKind.wrap_u64]; omega
  · omega
  · rw [IntKind.wrap_u64]; omega
  · omega
  · intro h; unfold unturn; rw [if_pos h]
  · intro h; unfold unturn; rw [if_neg h]; omega
  · omega
  · omega
open Ref in
set_option maxRecDepth 100000 in
set_option maxHeartbeats 4000000 in
theorem guess_float (s : ByteArray) (w : World) (h0 : 0 < s.size) (hs : s.size ≤ 1000000) (hc : (s[0].toNat : Int) = 4) :
    Calls Tryd.prog 50 #[.string s] w (GOut s w) := by
  have hpos : (0 : Int) < s.size := by omega
  have hs1 : (1 : Int) ≤ s.size := by omega
  have HC := Lib.hid hc
  have HG0 := Lib.hid (gst_new w 3)
  have hnum := unEight_any (s.extract 1 s.size) (by simp; omega)
  clear hs
  go_enter Tryd.func50, Tryd.ntmps50
  go_wp2_with fail
  refine (hnum _).mono ?_
  rintro e w1 ⟨x, rfl, ⟨hx, hu⟩, hb⟩
  have HG := Lib.hid (HG0.out.later hb)
  obtain ⟨Y, Z, y1, y2, z1, z2, hz, hy, hYb, hZb⟩ := sub_turn x hx
  have HU := Lib.hid hu
  have HZ := Lib.hid hz
  have HY := Lib.hid hy
  have HYB := Lib.hid hYb
  have HZB := Lib.hid hZb
  have HG2 := Lib.hid (HG.out.put2 Y)
  have HG3 := Lib.hid (HG2.out.put2 Z)
  clear hb HG0 hnum hu hz hy hx hYb hZb
  have a0 := HG.out.2.2.1.c0
  have a1 := HG.out.2.2.1.c1
  have a2 := HG.out.2.2.1.c2
  have a3 := HG.out.2.2.1.c3
  have az := HG.out.2.2.1.z
  have k0 := HG.out.2.2.2.c0
  have k1 := HG.out.2.2.2.c1
  have k2 := HG.out.2.2.2.c2
  have k3 := HG.out.2.2.2.c3
  have kz := HG.out.2.2.2.z
  rcases Nat.lt_or_ge x 9223372036854775808 with hlt | hge
  · have f1 : (x : Int) < 9223372036854775808 := by omega
    have HF := Lib.hid hlt
    clear hlt
    go_wp2_with fail
    have HP := Lib.hid (put4_vb (k := 3) (n := 0) (x := (Z : Nat)) (t := ⟨#[]⟩) HG3.out.2.2.1)
    have p0 := HP.out.c0
    have p1 := HP.out.c1
    have p2 := HP.out.c2
    have p3 := HP.out.c3
    show bodyPost _ _ _ _ _ (put4 ((w1.setCell ⟨w.heap.size + 1, 2, none⟩ (.int .u64 (Y : Nat))).setCell ⟨w.heap.size + 1, 2, none⟩ (.int .u64 (Z : Nat))) w.heap.size (.int .i64 3) (.int .i64 0) (.int .u64 (Z : Nat)) (.string ⟨#[]⟩))
    refine bodyPost_ret (v := .agg #[.int .i64 3, .int .i64 0, .int .u64 (Z : Nat), .string ⟨#[]⟩]) (by simp [results, Tryd.results50, go_sem, p0, p1, p2, p3]) rfl ?_
    refine ⟨⟨3, 0, Z, []⟩, rfl, ⟨⟨by show _ ≤ (3 : Int); omega, by show (3 : Int) ≤ _; omega, by show _ ≤ (0 : Int); omega, by show (0 : Int) ≤ _; omega, HZB.out⟩, fun u t hr hi e => ?_⟩, put4_below _ _ _ _ _ (Nat.le_refl _) HG3.out.1⟩
    obtain ⟨hk, hl⟩ := head_of s h0 hr e
    obtain ⟨b, rfl⟩ := (form_k hr).2.2.2.1 (by have := HC.out; omega)
    have e2 : rest ⟨3, 0, b, []⟩ = be 8 (turn b) := rfl
    rw [e2] at hl
    have hb := hi.b
    dsimp only at hb
    have hx := HU.out _ t (turn_lt hb) hl
    have : Z = b := by rw [← HZ.out HF.out, hx, unturn_turn hb]
    rw [this]
  · have f1 : decide ((x : Int) < 9223372036854775808) = false := decide_eq_false (by omega)
    have HF := Lib.hid hge
    clear hge z1 z2
    go_wp2_with fail
    have HP := Lib.hid (put4_vb (k := 3) (n := 0) (x := (Y : Nat)) (t := ⟨#[]⟩) HG2.out.2.2.1)
    have p0 := HP.out.c0
    have p1 := HP.out.c1
    have p2 := HP.out.c2
    have p3 := HP.out.c3
    show bodyPost _ _ _ _ _ (put4 (w1.setCell ⟨w.heap.size + 1, 2, none⟩ (.int .u64 (Y : Nat))) w.heap.size (.int .i64 3) (.int .i64 0) (.int .u64 (Y : Nat)) (.string ⟨#[]⟩))
    refine bodyPost_ret (v := .agg #[.int .i64 3, .int .i64 0, .int .u64 (Y : Nat), .string ⟨#[]⟩]) (by simp [results, Tryd.results50, go_sem, p0, p1, p2, p3]) rfl ?_
    refine ⟨⟨3, 0, Y, []⟩, rfl, ⟨⟨by show _ ≤ (3 : Int); omega, by show (3 : Int) ≤ _; omega, by show _ ≤ (0 : Int); omega, by show (0 : Int) ≤ _; omega, HYB.out⟩, fun u t hr hi e => ?_⟩, put4_below _ _ _ _ _ (Nat.le_refl _) HG2.out.1⟩
    obtain ⟨hk, hl⟩ := head_of s h0 hr e
    obtain ⟨b, rfl⟩ := (form_k hr).2.2.2.1 (by have := HC.out; omega)
    have e2 : rest ⟨3, 0, b, []⟩ = be 8 (turn b) := rfl
    rw [e2] at hl
    have hb := hi.b
    dsimp only at hb
    have hx := HU.out _ t (turn_lt hb) hl
    have : Y = b := by rw [← HY.out (by have := HF.out; omega), hx, unturn_turn hb]
    rw [this]
end Ky
end Go.Proofs.YtppdebhcaodcnaaDoor
