/- write of package key, at Bytes and Texts. Conditions: the value is right; the buffer stays below 10^9 bytes; bytealg's MaxLen holds some number. -/
import Derived.Test.YtppdebhcaodcnaaDoorYe
namespace Go.Proofs.YtppdebhcaodcnaaDoor
open Go.RowKit Cod
namespace Ky
theorem two_cells (w : World) : ∀ j u, (Lib.byteCells [0, 1])[j]? = some u → (w.alloc (.cells #[.int .u8 0, .int .u8 1] 5 (2, 2 + 1))).cell? ((⟨w.heap.size, 0, none⟩ : Addr).add j) = some u := by
  intro j u hu
  have e : (⟨w.heap.size, 0, none⟩ : Addr).add j = ⟨w.heap.size, j, none⟩ := by unfold Addr.add; split <;> simp_all
  rw [e, World.cell?_alloc_mark, ← hu]
  simp [Lib.byteCells]
set_option maxHeartbeats 4000000 in
set_option maxRecDepth 100000 in
theorem write_text4 (s : List UInt8) (b : Nat) (o : Option Nat) (l : List UInt8) (w : World) (h : Buf b o l w) (hl : l.length ≤ 100000000) (hs : s.length ≤ 4096) (hm : ML w) (hb3 : 3 < b) :
    Calls Tryd.prog 42 #[.agg #[.int .i64 4, .int .i64 0, .int .u64 0, .string (S s)], putV b] w fun e w' => e = .returned (.tuple #[]) ∧ St b o (l ++ one ⟨4, 0, 0, s⟩) w w' := by
  have HM1 := hm
  have HS := Lib.hid hs
  have HMM := Lib.hid hm
  clear HM1 hm hs
  have HB := Lib.hid h
  have S0 := Lib.hid (St.start (h.later ((Below.refl _ _).alloc (Nat.le_refl _) (.cells #[.int .i64 4, .int .i64 0, .int .u64 0, .string (S s)] 25))))
  have P1 := put1 S0.out (w.heap.size + 1) (by simp) 5 5 rfl (by omega)
  clear h
  go_enter Tryd.func42, Tryd.ntmps42
  go_wp2_with fail
  refine P1.mono ?_
  rintro e w1 ⟨rfl, hs1⟩
  have S1 := Lib.hid hs1
  obtain ⟨q0, q1, q2, q3⟩ := box_at hs1 HB.out
  clear hs1 P1
  obtain ⟨m, hmm⟩ : ML w1 := by
    obtain ⟨o1, _, _, ha⟩ := S1.out
    exact (HMM.out.later ((Below.refl _ _).alloc (Nat.le_refl _) _)).apart ha hb3 (fun k hk => (HB.out.olt k hk).1)
  have hmm2 := Lib.hid hmm
  clear hmm
  go_wp2_with fail
  refine (Tryd.strings_ReplaceAll (S s) ⟨#[0]⟩ ⟨#[0, 255]⟩ m _ (by rw [S_size]; have := HS.out; omega) hmm2.out (by decide) (by have h1 := Lib.countB_le ⟨#[0]⟩ (by decide) _ (S s) (Nat.le_refl _); rw [S_size] at h1 ⊢; have := HS.out; have e : (⟨#[0, 255]⟩ : ByteArray).size = 2 := rfl; rw [e]; omega)).mono ?_
  rintro e w2 ⟨rfl, hb2⟩
  have S2 := Lib.hid (S1.out.later hb2)
  clear hb2 q0 q1 q2 q3
  obtain ⟨T, hT⟩ : ∃ T, T = S (esc s) := ⟨_, rfl⟩
  have hR : (⟨(Lib.replaceAll s [0] [0, 255]).toArray⟩ : ByteArray) = T := by rw [esc_of_repl, hT]
  obtain ⟨g, cap, w3, hcv, hc, hb3'⟩ := conv_bytes T w2
  have hTl : T.size = (esc s).length := by rw [hT, S_size]
  have hTd : T.data.toList = esc s := by rw [hT]
  rw [hTd] at hc
  have hel := esc_len s
  have P3 := putm (S2.out.later hb3') (esc s) (Lib.replaceAll s [0] [0, 255]).length (by rw [esc_of_repl]) ⟨g, 0, none⟩ cap hc (by have := HS.out; simp; omega)
  have HCV := Lib.hid hcv
  have HT := Lib.hid hT
  clear hT hTl hTd hc hb3' hel
  rw [← hR] at hcv
  clear hR
  go_wp2_with fail
  refine P3.mono ?_
  rintro e w4 ⟨rfl, hs4⟩
  have S4 := Lib.hid hs4
  clear hs4 P3 hcv
  have hcs := Go.Joins.run_convert_bytes_const_at (P := Tryd.prog) w4 55 5 #[.int .u8 0, .int .u8 1] 2 2 w4.heap.size rfl Tryd.underlying55 Tryd.underlying5
  rw [show (#[.int .u8 0, .int .u8 1] : Array Value).size = 2 from rfl] at hcs
  have P5 := putm (S4.out.alloc (.cells #[.int .u8 0, .int .u8 1] 5 (2, 2 + 1))) [0, 1] 2 rfl ⟨w4.heap.size, 0, none⟩ 2 (two_cells w4) (by have := HS.out; have := esc_len s; simp; omega)
  go_wp2_with fail
  refine P5.mono ?_
  rintro e w5 ⟨rfl, hs5⟩
  have S5 := Lib.hid hs5
  clear hs5 P5
  go_wp2_with fail
  go_end0
  refine ⟨rfl, ?_⟩
  have h2 := S5.out.back _
  rw [List.append_assoc, List.append_assoc] at h2
  have e : one ⟨4, 0, 0, s⟩ = [5] ++ (esc s ++ [0, 1]) := by simp [one, rest]
  rw [e]; exact h2
set_option maxHeartbeats 4000000 in
set_option maxRecDepth 100000 in
theorem write_text5 (s : List UInt8) (b : Nat) (o : Option Nat) (l : List UInt8) (w : World) (h : Buf b o l w) (hl : l.length ≤ 100000000) (hs : s.length ≤ 4096) (hm : ML w) (hb3 : 3 < b) :
    Calls Tryd.prog 42 #[.agg #[.int .i64 5, .int .i64 0, .int .u64 0, .string (S s)], putV b] w fun e w' => e = .returned (.tuple #[]) ∧ St b o (l ++ one ⟨5, 0, 0, s⟩) w w' := by
  have HM1 := hm
  have HS := Lib.hid hs
  have HMM := Lib.hid hm
  clear HM1 hm hs
  have HB := Lib.hid h
  have S0 := Lib.hid (St.start (h.later ((Below.refl _ _).alloc (Nat.le_refl _) (.cells #[.int .i64 5, .int .i64 0, .int .u64 0, .string (S s)] 25))))
  have P1 := put1 S0.out (w.heap.size + 1) (by simp) 6 6 rfl (by omega)
  clear h
  go_enter Tryd.func42, Tryd.ntmps42
  go_wp2_with fail
  refine P1.mono ?_
  rintro e w1 ⟨rfl, hs1⟩
  have S1 := Lib.hid hs1
  obtain ⟨q0, q1, q2, q3⟩ := box_at hs1 HB.out
  clear hs1 P1
  obtain ⟨m, hmm⟩ : ML w1 := by
    obtain ⟨o1, _, _, ha⟩ := S1.out
    exact (HMM.out.later ((Below.refl _ _).alloc (Nat.le_refl _) _)).apart ha hb3 (fun k hk => (HB.out.olt k hk).1)
  have hmm2 := Lib.hid hmm
  clear hmm
  go_wp2_with fail
  refine (Tryd.strings_ReplaceAll (S s) ⟨#[0]⟩ ⟨#[0, 255]⟩ m _ (by rw [S_size]; have := HS.out; omega) hmm2.out (by decide) (by have h1 := Lib.countB_le ⟨#[0]⟩ (by decide) _ (S s) (Nat.le_refl _); rw [S_size] at h1 ⊢; have := HS.out; have e : (⟨#[0, 255]⟩ : ByteArray).size = 2 := rfl; rw [e]; omega)).mono ?_
  rintro e w2 ⟨rfl, hb2⟩
  have S2 := Lib.hid (S1.out.later hb2)
  clear hb2 q0 q1 q2 q3
  obtain ⟨T, hT⟩ : ∃ T, T = S (esc s) := ⟨_, rfl⟩
  have hR : (⟨(Lib.replaceAll s [0] [0, 255]).toArray⟩ : ByteArray) = T := by rw [esc_of_repl, hT]
  obtain ⟨g, cap, w3, hcv, hc, hb3'⟩ := conv_bytes T w2
  have hTl : T.size = (esc s).length := by rw [hT, S_size]
  have hTd : T.data.toList = esc s := by rw [hT]
  rw [hTd] at hc
  have hel := esc_len s
  have P3 := putm (S2.out.later hb3') (esc s) (Lib.replaceAll s [0] [0, 255]).length (by rw [esc_of_repl]) ⟨g, 0, none⟩ cap hc (by have := HS.out; simp; omega)
  have HCV := Lib.hid hcv
  have HT := Lib.hid hT
  clear hT hTl hTd hc hb3' hel
  rw [← hR] at hcv
  clear hR
  go_wp2_with fail
  refine P3.mono ?_
  rintro e w4 ⟨rfl, hs4⟩
  have S4 := Lib.hid hs4
  clear hs4 P3 hcv
  have hcs := Go.Joins.run_convert_bytes_const_at (P := Tryd.prog) w4 55 5 #[.int .u8 0, .int .u8 1] 2 2 w4.heap.size rfl Tryd.underlying55 Tryd.underlying5
  rw [show (#[.int .u8 0, .int .u8 1] : Array Value).size = 2 from rfl] at hcs
  have P5 := putm (S4.out.alloc (.cells #[.int .u8 0, .int .u8 1] 5 (2, 2 + 1))) [0, 1] 2 rfl ⟨w4.heap.size, 0, none⟩ 2 (two_cells w4) (by have := HS.out; have := esc_len s; simp; omega)
  go_wp2_with fail
  refine P5.mono ?_
  rintro e w5 ⟨rfl, hs5⟩
  have S5 := Lib.hid hs5
  clear hs5 P5
  go_wp2_with fail
  go_end0
  refine ⟨rfl, ?_⟩
  have h2 := S5.out.back _
  rw [List.append_assoc, List.append_assoc] at h2
  have e : one ⟨5, 0, 0, s⟩ = [6] ++ (esc s ++ [0, 1]) := by simp [one, rest]
  rw [e]; exact h2
end Ky
end Go.Proofs.YtppdebhcaodcnaaDoor
