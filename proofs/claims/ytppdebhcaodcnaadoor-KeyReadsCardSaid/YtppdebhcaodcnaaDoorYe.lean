/- write of package key. Conditions: the value is right, its numbers fit their kinds; the buffer stays below 10^9 bytes; bytealg's MaxLen holds some number. -/
import Derived.Test.YtppdebhcaodcnaaDoorYd
import Derived.Lib.ConvBytes
namespace Go.Proofs.YtppdebhcaodcnaaDoor
open Go.RowKit Cod
namespace Ky
/-- bytealg's MaxLen holds some number. -/
def ML (w : World) : Prop := ∃ m, w.cell? ⟨3, 0, none⟩ = some (.int .i64 m)
theorem ML.lt {w : World} (h : ML w) : 3 < w.heap.size := by
  obtain ⟨m, h⟩ := h
  rcases Nat.lt_or_ge 3 w.heap.size with h' | h'
  · exact h'
  · simp [World.cell?, Array.getElem?_eq_none h'] at h
theorem ML.later {w w' : World} (h : ML w) (hb : Below w.heap.size w w') : ML w' := by
  have hl := h.lt
  obtain ⟨m, h⟩ := h
  exact ⟨m, by rw [hb.cell (p := ⟨3, 0, none⟩) hl]; exact h⟩
theorem ML.apart {b : Nat} {o : Option Nat} {w w' : World} (h : ML w) (ha : Apart b o w w') (hb : 3 < b) (ho : ∀ k, o = some k → b + 1 ≤ k) : ML w' := by
  have hl := h.lt
  obtain ⟨m, h⟩ := h
  refine ⟨m, ?_⟩
  have hk := ha.block 3 hl (by omega) (fun e => by have := ho _ e.symm; omega)
  have : w'.cell? ⟨3, 0, none⟩ = w.cell? ⟨3, 0, none⟩ := by simp only [World.cell?, hk]
  rw [this]; exact h
/-- A text's bytes in a new row. -/
theorem conv_bytes (T : ByteArray) (w : World) : ∃ g cap w', (convert 9 55 (.string T)).run Tryd.prog w = .ok (.slice (some ⟨g, 0, none⟩) T.size cap) w' ∧
    (∀ j u, (Lib.byteCells T.data.toList)[j]? = some u → w'.cell? ((⟨g, 0, none⟩ : Addr).add j) = some u) ∧ Below w.heap.size w w' := by
  refine ⟨_, _, _, Lib.run_convert_string_bytes w 9 55 5 T Tryd.underlying9 Tryd.underlying55 Tryd.underlying5, fun j u hu => ?_, ⟨rfl, ?_, rfl, by rw [Lib.bytesWorld_size]; omega, fun k hk => Lib.bytesWorld_at_old _ _ _ _ hk⟩⟩
  · have hj : j < T.data.toList.length := by
      have := (List.getElem?_eq_some_iff.1 hu).1
      rwa [Lib.byteCells_length] at this
    have e : (⟨w.heap.size, 0, none⟩ : Addr).add j = ⟨w.heap.size, j, none⟩ := by unfold Addr.add; split <;> simp_all
    rw [e, Lib.bytesWorld_cell _ _ _ _ (by simpa using hj), ← hu]
    simp [Lib.byteCells, List.getD, List.getElem?_eq_getElem hj]
  · rfl
/-- The closure, as a value. -/
abbrev putV (b : Nat) : Value := .func (.func 41) #[] #[.pointer (some ⟨b, 0, none⟩)]
theorem esc_len : ∀ s : List UInt8, (esc s).length ≤ 2 * s.length
  | [] => by simp [esc]
  | c :: s => by
    have := esc_len s
    unfold esc
    split <;> simp <;> omega
section
variable {b : Nat} {o : Option Nat} {l : List UInt8} {w W : World}
theorem put1 (h : St b o l W w) (H : Nat) (hH : H = w.heap.size) (x : UInt8) (X : Int) (hX : X = (x.toNat : Int)) (hlen : l.length ≤ 999999999) :
    Calls Tryd.prog 41 #[.slice (some ⟨H, 0, none⟩) 1 1, .pointer (some ⟨b, 0, none⟩)] (w.alloc (.cells #[.int .u8 X] 5)) fun e w' => e = .returned (.tuple #[]) ∧ St b o (l ++ [x]) W w' := by
  subst hH
  obtain ⟨o', hb, hn, ha⟩ := h
  refine (put_one b o' l x X hX w hb hlen).mono ?_
  rintro e w' ⟨rfl, h2⟩
  exact ⟨rfl, St.more hn ha h2⟩
theorem putm (h : St b o l W w) (m : List UInt8) (n : Nat) (hn : m.length = n) (ad : Addr) (c : Nat) (hm : ∀ j u, (Lib.byteCells m)[j]? = some u → w.cell? (ad.add j) = some u) (hlen : l.length + m.length ≤ 1000000000) :
    Calls Tryd.prog 41 #[.slice (some ad) n c, .pointer (some ⟨b, 0, none⟩)] w fun e w' => e = .returned (.tuple #[]) ∧ St b o (l ++ m) W w' := by
  subst hn
  obtain ⟨o', hb, hn, ha⟩ := h
  refine (put_any b o' l m w hb ad c hm hlen).mono ?_
  rintro e w' ⟨rfl, h2⟩
  exact ⟨rfl, St.more hn ha h2⟩
/-- The boxed value stands. -/
theorem box_at {x0 x1 x2 x3 : Value} {T : TypeId} {l0 : List UInt8} {u : World} (h : St b o l (w.alloc (.cells #[x0, x1, x2, x3] T)) u) (hb : Buf b o l0 w) :
    u.cell? ⟨w.heap.size, 0, none⟩ = some x0 ∧ u.cell? ⟨w.heap.size, 1, none⟩ = some x1 ∧ u.cell? ⟨w.heap.size, 2, none⟩ = some x2 ∧ u.cell? ⟨w.heap.size, 3, none⟩ = some x3 := by
  have hk := h.keeps (heap_alloc_new w (.cells #[x0, x1, x2, x3] T)) (by have := hb.lt; omega) (fun e => by have := hb.olt _ e.symm; omega)
  exact ⟨by simp [World.cell?, hk], by simp [World.cell?, hk], by simp [World.cell?, hk], by simp [World.cell?, hk]⟩
end
set_option maxHeartbeats 4000000 in
set_option maxRecDepth 100000 in
theorem write_null (b : Nat) (o : Option Nat) (l : List UInt8) (w : World) (h : Buf b o l w) (hl : l.length ≤ 100000000)  :
    Calls Tryd.prog 42 #[.agg #[.int .i64 0, .int .i64 0, .int .u64 0, .string ⟨#[]⟩], putV b] w fun e w' => e = .returned (.tuple #[]) ∧ St b o (l ++ one ⟨0, 0, 0, []⟩) w w' := by
  have HB := Lib.hid h
  have S0 := Lib.hid (St.start (h.later ((Below.refl _ _).alloc (Nat.le_refl _) (.cells #[.int .i64 0, .int .i64 0, .int .u64 0, .string ⟨#[]⟩] 25))))
  have P1 := put1 S0.out (w.heap.size + 1) (by simp) 1 1 rfl (by omega)
  clear h
  go_enter Tryd.func42, Tryd.ntmps42
  go_wp2_with fail
  refine P1.mono ?_
  rintro e w1 ⟨rfl, hs1⟩
  have S1 := Lib.hid hs1
  obtain ⟨q0, q1, q2, q3⟩ := box_at hs1 HB.out
  clear hs1 P1
  go_wp2_with fail
  go_end0
  refine ⟨rfl, ?_⟩
  exact S1.out.back _
set_option maxHeartbeats 4000000 in
set_option maxRecDepth 100000 in
theorem write_bool (n : Nat) (b : Nat) (o : Option Nat) (l : List UInt8) (w : World) (h : Buf b o l w) (hl : l.length ≤ 100000000) (hn : n ≤ 1) :
    Calls Tryd.prog 42 #[.agg #[.int .i64 1, .int .i64 n, .int .u64 0, .string ⟨#[]⟩], putV b] w fun e w' => e = .returned (.tuple #[]) ∧ St b o (l ++ one ⟨1, n, 0, []⟩) w w' := by
  have HB := Lib.hid h
  have S0 := Lib.hid (St.start (h.later ((Below.refl _ _).alloc (Nat.le_refl _) (.cells #[.int .i64 1, .int .i64 (n : Int), .int .u64 0, .string ⟨#[]⟩] 25))))
  have P1 := put1 S0.out (w.heap.size + 1) (by simp) 2 2 rfl (by omega)
  clear h
  go_enter Tryd.func42, Tryd.ntmps42
  go_wp2_with fail
  refine P1.mono ?_
  rintro e w1 ⟨rfl, hs1⟩
  have S1 := Lib.hid hs1
  obtain ⟨q0, q1, q2, q3⟩ := box_at hs1 HB.out
  clear hs1 P1
  have P2 := put1 S1.out w1.heap.size rfl n.toUInt8 (n : Int) (by show (n : Int) = ((n % 256 : Nat) : Int); omega) (by simp; omega)
  go_wp2_with fail
  refine P2.mono ?_
  rintro e w2 ⟨rfl, hs2⟩
  have S2 := Lib.hid hs2
  clear hs2 P2 q0 q1 q2 q3
  go_wp2_with fail
  go_end0
  refine ⟨rfl, ?_⟩
  have h2 := S2.out.back _
  rw [List.append_assoc] at h2
  have e : one ⟨1, (n : Int), 0, []⟩ = [2] ++ [n.toUInt8] := by simp [one, rest]
  rw [e]; exact h2
set_option maxHeartbeats 4000000 in
set_option maxRecDepth 100000 in
theorem write_int (n : Int) (b : Nat) (o : Option Nat) (l : List UInt8) (w : World) (h : Buf b o l w) (hl : l.length ≤ 100000000) (h0 : -9223372036854775808 ≤ n) (h1 : n ≤ 9223372036854775807) :
    Calls Tryd.prog 42 #[.agg #[.int .i64 2, .int .i64 n, .int .u64 0, .string ⟨#[]⟩], putV b] w fun e w' => e = .returned (.tuple #[]) ∧ St b o (l ++ one ⟨2, n, 0, []⟩) w w' := by
  have hx : bits .xor .u64 (IntKind.u64.wrap n) 9223372036854775808 = ((top n : Nat) : Int) := by
    have e : IntKind.u64.wrap n = ((if 0 ≤ n then n.toNat else (n + 18446744073709551616).toNat : Nat) : Int) := by rw [IntKind.wrap_u64]; split <;> omega
    rw [e, xor_top _ (by split <;> omega)]
    unfold top
    split <;> split <;> omega
  have HX := Lib.hid hx
  clear hx
  have HB := Lib.hid h
  have S0 := Lib.hid (St.start (h.later ((Below.refl _ _).alloc (Nat.le_refl _) (.cells #[.int .i64 2, .int .i64 n, .int .u64 0, .string ⟨#[]⟩] 25))))
  have P1 := put1 S0.out (w.heap.size + 1) (by simp) 3 3 rfl (by omega)
  clear h
  go_enter Tryd.func42, Tryd.ntmps42
  go_wp2_with fail
  refine P1.mono ?_
  rintro e w1 ⟨rfl, hs1⟩
  have S1 := Lib.hid hs1
  obtain ⟨q0, q1, q2, q3⟩ := box_at hs1 HB.out
  clear hs1 P1
  have hx := HX.out
  go_wp2_with fail
  refine (eight_any (top n) _).mono ?_
  rintro e w2 ⟨g, cap, rfl, hc, hb2⟩
  have P2 := putm (S1.out.later hb2) (be 8 (top n)) 8 (be_len 8 _) ⟨g, 0, none⟩ cap hc (by rw [be_len]; simp; omega)
  have HC := Lib.hid hc
  clear hc hb2 q0 q1 q2 q3 hx
  go_wp2_with fail
  refine P2.mono ?_
  rintro e w3 ⟨rfl, hs3⟩
  have S3 := Lib.hid hs3
  clear hs3 P2
  go_wp2_with fail
  go_end0
  refine ⟨rfl, ?_⟩
  have h2 := S3.out.back _
  rw [List.append_assoc] at h2
  have e : one ⟨2, n, 0, []⟩ = [3] ++ be 8 (top n) := by simp [one, rest]
  rw [e]; exact h2
set_option maxHeartbeats 4000000 in
set_option maxRecDepth 100000 in
theorem write_float (x : Nat) (b : Nat) (o : Option Nat) (l : List UInt8) (w : World) (h : Buf b o l w) (hl : l.length ≤ 100000000) (hx : x < 18446744073709551616) (hr : Val.rightB 3 0 x ⟨#[]⟩ = true) :
    Calls Tryd.prog 42 #[.agg #[.int .i64 3, .int .i64 0, .int .u64 x, .string ⟨#[]⟩], putV b] w fun e w' => e = .returned (.tuple #[]) ∧ St b o (l ++ one ⟨3, 0, x, []⟩) w w' := by
  have ha := Val.asF_right hr
  have HA := Lib.hid ha
  have HX := Lib.hid hx
  clear ha hx hr
  have HB := Lib.hid h
  have S0 := Lib.hid (St.start (h.later ((Below.refl _ _).alloc (Nat.le_refl _) (.cells #[.int .i64 3, .int .i64 0, .int .u64 (x : Nat), .string ⟨#[]⟩] 25))))
  have P1 := put1 S0.out (w.heap.size + 1) (by simp) 4 4 rfl (by omega)
  clear h
  go_enter Tryd.func42, Tryd.ntmps42
  go_wp2_with fail
  refine P1.mono ?_
  rintro e w1 ⟨rfl, hs1⟩
  have S1 := Lib.hid hs1
  obtain ⟨q0, q1, q2, q3⟩ := box_at hs1 HB.out
  clear hs1 P1
  go_wp2_with fail
  refine (Val.asfloat_any _ _ _ _ _).mono ?_
  rintro e w2 ⟨rfl, hb2⟩
  have S2 := Lib.hid (S1.out.later hb2)
  rw [HA.out]
  clear hb2 q0 q1 q2 q3
  go_wp2_with fail
  refine (turned_any x HX.out _).mono ?_
  rintro e w3 ⟨rfl, rfl⟩
  go_wp2_with fail
  refine (eight_any (turn x) _).mono ?_
  rintro e w4 ⟨g, cap, rfl, hc, hb4⟩
  have P2 := putm (S2.out.later hb4) (be 8 (turn x)) 8 (be_len 8 _) ⟨g, 0, none⟩ cap hc (by rw [be_len]; simp; omega)
  have HC := Lib.hid hc
  clear hc hb4
  go_wp2_with fail
  refine P2.mono ?_
  rintro e w5 ⟨rfl, hs3⟩
  have S3 := Lib.hid hs3
  clear hs3 P2
  go_wp2_with fail
  go_end0
  refine ⟨rfl, ?_⟩
  have h2 := S3.out.back _
  rw [List.append_assoc] at h2
  have e : one ⟨3, 0, x, []⟩ = [4] ++ be 8 (turn x) := by simp [one, rest]
  rw [e]; exact h2
end Ky
end Go.Proofs.YtppdebhcaodcnaaDoor
