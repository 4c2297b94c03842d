/- The document's own bytes of a value and of a key (layer 4). Conditions: the values are right where one is asked for, their numbers fit their kinds; a key's slice holds at most a million values. -/
import Derived.Test.YtppdebhcaodcnaaDoorYq
import Derived.Deep.LoopGhost
namespace Go.Proofs.YtppdebhcaodcnaaDoor
open Go.RowKit Cod
namespace Ky
abbrev eB (n : Nat) : List UInt8 := e8 n 8
theorem toNat_lt {n : Nat} (h : n < 256) : n.toUInt8.toNat = n := by
  show n % 256 = n
  omega
theorem str_one (n : Nat) (hn : n < 256) (w w' : World) (hb : Below (w.alloc (.cells #[.int .u8 n] 5)).heap.size (w.alloc (.cells #[.int .u8 n] 5)) w') :
    (convert 55 9 (.slice (some ⟨w.heap.size, 0, none⟩) 1 1)).run Tryd.prog w' = .ok (.string (S [n.toUInt8])) w' :=
  run_convert_bytes_back (P := Tryd.prog) w' 55 9 5 ⟨w.heap.size, 0, none⟩ 1 [n.toUInt8] Tryd.underlying55 Tryd.underlying5 Tryd.underlying9 (by
    intro j hj
    have hj0 : j = 0 := by simpa using hj
    subst hj0
    show World.cell? _ ⟨w.heap.size, 0, none⟩ = some (.int .u8 (n.toUInt8.toNat : Int))
    rw [toNat_lt hn, hb.cell (p := ⟨w.heap.size, 0, none⟩) (by simp)]
    simp [go_sem])
theorem eB_get (n j : Nat) (h : j < 8) : (eB n)[j]? = some (n / 2 ^ (56 - 8 * j)).toUInt8 := by simp [eB, e8, h]
theorem eB_drop (n i : Nat) (hi : i < 8) : (eB n).drop (8 - (i + 1)) = (n / 256 ^ i % 256).toUInt8 :: (eB n).drop (8 - i) := by
  have hl : (eB n).length = 8 := e8_len _ _
  have h1 : 8 - (i + 1) < (eB n).length := by omega
  have hx : (eB n)[8 - (i + 1)] = (n / 2 ^ (56 - 8 * (8 - (i + 1)))).toUInt8 := by
    have := eB_get n (8 - (i + 1)) (by omega)
    rw [List.getElem?_eq_getElem h1] at this
    exact Option.some.inj this
  have e1 : 8 - (i + 1) + 1 = 8 - i := by omega
  have e2 : 56 - 8 * (8 - (i + 1)) = 8 * i := by omega
  have e3 : (256 : Nat) ^ i = 2 ^ (8 * i) := by rw [Nat.pow_mul]
  rw [List.drop_eq_getElem_cons h1, hx, e1, e2, e3]
  congr 1
  apply UInt8.toNat_inj.1
  show _ % 256 = _ % 256 % 256
  omega
set_option maxRecDepth 100000 in
set_option maxHeartbeats 2000000 in
theorem reight_any (n : Nat) (hn : n < 18446744073709551616) (w : World) :
    Calls Tryd.prog 74 #[.int .u64 n] w fun e w' => e = .returned (.string (S (eB n))) ∧ Below w.heap.size w w' := by
  go_enter Tryd.func74, Tryd.ntmps74
  go_wp2_with fail
  go_loopw [0, 3, 4] (fun nn ss ii wr => ∃ (i y : Nat) (t : ByteArray), nn = .int .u64 y ∧ ss = .string t ∧ ii = .int .i64 i ∧ i ≤ 8 ∧ t.size ≤ 8 ∧ y < 18446744073709551616 ∧ Hid (y = n / 256 ^ i) ∧ Hid (t = S ((eB n).drop (8 - i))) ∧ Hid (t.size = i) ∧ Hid (Below w.heap.size w wr)) (fun _ _ ii _ => (8 - intOf ii).toNat)
  case atStart => exact ⟨0, n, ⟨#[]⟩, rfl, rfl, rfl, by omega, by decide, hn, hidm (by simp), hidm rfl, hidm rfl, hidm (Below.refl _ _)⟩
  case round =>
    obtain ⟨i, y, t, rfl, rfl, rfl, hi, ht8, hy, HY, HT, HTS, HB⟩ := hrel
    rcases Nat.eq_or_lt_of_le hi with hie | hie
    · have f1 : ¬ (i : Int) < 8 := by omega
      have HI := hidm hie
      clear hie
      go_wp2_with fail
      go_ret
      refine ⟨congrArg (fun q => Ending.returned (.string q)) ?_, HB.out⟩
      rw [HT.out, HI.out]; rfl
    · have f1 : (i : Int) < 8 := by omega
      obtain ⟨c, hc⟩ : ∃ c, c = y % 256 := ⟨_, rfl⟩
      have hcl : c < 256 := by omega
      obtain ⟨d, hd⟩ : ∃ d, d = y / 256 := ⟨_, rfl⟩
      have hdl : d < 18446744073709551616 := by omega
      have hx1 : (y : Int).tmod 256 = (c : Int) := by rw [Int.tmod_eq_emod_of_nonneg (by omega)]; omega
      have hx2 : (y : Int) % 256 = (c : Int) := by omega
      have hx3 : (y : Int).tdiv 256 = (d : Int) := by rw [Int.tdiv_eq_ediv_of_nonneg (by omega)]; omega
      have hx4 : (y : Int) / 256 = (d : Int) := by omega
      obtain ⟨b, hb0⟩ : ∃ b, b = S [c.toUInt8] := ⟨_, rfl⟩
      have hl2 : b.size = 1 := by rw [hb0, S_size]; rfl
      have E1 : ∀ w0 : World, (convert 55 9 (.slice (some ⟨w0.heap.size, 0, none⟩) 1 1)).run Tryd.prog (w0.alloc (.cells #[.int .u8 c] 5)) = .ok (.string b) (w0.alloc (.cells #[.int .u8 c] 5)) := fun w0 => by
        rw [hb0]; exact str_one c hcl w0 _ (Below.refl _ _)
      have HN : Hid (b ++ t = S ((eB n).drop (8 - (i + 1)))) := by
        refine hidm ?_
        rw [eB_drop n i hie, hb0, HT.out, S_append, hc, HY.out]; rfl
      have HD : Hid (d = n / 256 ^ (i + 1)) := by
        refine hidm ?_
        rw [hd, HY.out, Nat.pow_succ, Nat.div_div_eq_div_mul]
      have HS : Hid ((b ++ t).size = i + 1) := by
        refine hidm ?_
        rw [ByteArray.size_append, hl2, HTS.out]; omega
      clear hc hd hb0
      go_wp2_with fail
      go_roundw
      case rel => exact ⟨i + 1, d, b ++ t, rfl, rfl, by go_num, hie, by rw [HS.out]; omega, hdl, HD, HN, HS, hidm (HB.out.alloc HB.out.size _)⟩
      case measure => simp [intOf]; omega
theorem reight_be (n : Nat) (hn : n < 18446744073709551616) (w : World) :
    Calls Tryd.prog 74 #[.int .u64 n] w fun e w' => e = .returned (.string (S (be 8 n))) ∧ Below w.heap.size w w' := by
  have h := reight_any n hn w
  rw [show eB n = be 8 n from e8_be n] at h
  exact h
set_option maxHeartbeats 4000000 in
set_option maxRecDepth 100000 in
theorem rone_null (w : World)  :
    Calls Tryd.prog 43 #[.agg #[.int .i64 0, .int .i64 0, .int .u64 0, .string ⟨#[]⟩]] w fun e w' => e = .returned (.string (S (one ⟨0, 0, 0, []⟩))) ∧ Below w.heap.size w w' := by
  have E1 : ∀ (w0 : World) (H : Nat), H = w0.heap.size → (convert 55 9 (.slice (some ⟨H, 0, none⟩) 1 1)).run Tryd.prog (w0.alloc (.cells #[.int .u8 1] 5)) = .ok (.string (S [1])) (w0.alloc (.cells #[.int .u8 1] 5)) := fun w0 H hH => by
    subst hH; exact str_one 1 (by decide) w0 _ (Below.refl _ _)
  have e1 := E1 (w.alloc (.cells #[.int .i64 0, .int .i64 0, .int .u64 0, .string ⟨#[]⟩] 25)) (w.heap.size + 1) (by simp)
  have HB := Lib.hid (((Below.refl w.heap.size w).alloc (Nat.le_refl _) (.cells #[.int .i64 0, .int .i64 0, .int .u64 0, .string ⟨#[]⟩] 25)).alloc (by simp) (.cells #[.int .u8 1] 5))
  clear E1
  go_enter Tryd.func43, Tryd.ntmps43
  go_wp2_with fail
  go_ret
  exact ⟨rfl, HB.out⟩
set_option maxHeartbeats 4000000 in
set_option maxRecDepth 100000 in
theorem rone_bool (n : Nat) (w : World) (hn : n ≤ 1) :
    Calls Tryd.prog 43 #[.agg #[.int .i64 1, .int .i64 n, .int .u64 0, .string ⟨#[]⟩]] w fun e w' => e = .returned (.string (S (one ⟨1, n, 0, []⟩))) ∧ Below w.heap.size w w' := by
  have E1 : ∀ (w0 : World) (H : Nat), H = w0.heap.size → (convert 55 9 (.slice (some ⟨H, 0, none⟩) 1 1)).run Tryd.prog (w0.alloc (.cells #[.int .u8 2] 5)) = .ok (.string (S [2])) (w0.alloc (.cells #[.int .u8 2] 5)) := fun w0 H hH => by
    subst hH; exact str_one 2 (by decide) w0 _ (Below.refl _ _)
  have e1 := E1 (w.alloc (.cells #[.int .i64 1, .int .i64 (n : Int), .int .u64 0, .string ⟨#[]⟩] 25)) (w.heap.size + 1) (by simp)
  have HB := Lib.hid (((Below.refl w.heap.size w).alloc (Nat.le_refl _) (.cells #[.int .i64 1, .int .i64 (n : Int), .int .u64 0, .string ⟨#[]⟩] 25)).alloc (by simp) (.cells #[.int .u8 2] 5))
  clear E1
  have E2 : ∀ (w0 : World) (H : Nat), H = w0.heap.size → (convert 55 9 (.slice (some ⟨H, 0, none⟩) 1 1)).run Tryd.prog (w0.alloc (.cells #[.int .u8 (n : Int)] 5)) = .ok (.string (S [n.toUInt8])) (w0.alloc (.cells #[.int .u8 (n : Int)] 5)) := fun w0 H hH => by
    subst hH; exact str_one n (by omega) w0 _ (Below.refl _ _)
  have e2 := E2 ((w.alloc (.cells #[.int .i64 1, .int .i64 (n : Int), .int .u64 0, .string ⟨#[]⟩] 25)).alloc (.cells #[.int .u8 2] 5)) (w.heap.size + 2) (by simp)
  have HB2 := Lib.hid (HB.out.alloc (by simp; omega) (.cells #[.int .u8 (n : Int)] 5))
  clear E2
  go_enter Tryd.func43, Tryd.ntmps43
  go_wp2_with fail
  go_ret
  refine ⟨congrArg (fun q => Ending.returned (.string q)) ?_, HB2.out⟩
  have e : one ⟨1, (n : Int), 0, []⟩ = [2] ++ [n.toUInt8] := by simp [one, rest]
  rw [e]; exact S_append _ _
set_option maxHeartbeats 4000000 in
set_option maxRecDepth 100000 in
theorem rone_int (n : Int) (w : World) (h0 : -9223372036854775808 ≤ n) (h1 : n ≤ 9223372036854775807) :
    Calls Tryd.prog 43 #[.agg #[.int .i64 2, .int .i64 n, .int .u64 0, .string ⟨#[]⟩]] w fun e w' => e = .returned (.string (S (one ⟨2, n, 0, []⟩))) ∧ Below w.heap.size w w' := by
  have hb8 : top n < 18446744073709551616 := by unfold top; omega
  have hx : IntKind.u64.wrap (IntKind.u64.wrap n + 9223372036854775808) = ((top n : Nat) : Int) := by
    simp only [IntKind.wrap_u64]; unfold top; omega
  have hx2 : (n % 18446744073709551616 + 9223372036854775808) % 18446744073709551616 = ((top n : Nat) : Int) := by
    unfold top; omega
  obtain ⟨T, hT⟩ : ∃ T, T = S (be 8 (top n)) := ⟨_, rfl⟩
  have hE := reight_be (top n) hb8
  rw [← hT] at hE
  have hTs : T.size = 8 := by rw [hT, S_size, be_len]
  have HT := Lib.hid hT
  have hsz : ¬ 9223372036854775807 < (1 : Nat) + T.size := by omega
  clear hT
  have E1 : ∀ (w0 : World) (H : Nat), H = w0.heap.size → (convert 55 9 (.slice (some ⟨H, 0, none⟩) 1 1)).run Tryd.prog (w0.alloc (.cells #[.int .u8 3] 5)) = .ok (.string (S [3])) (w0.alloc (.cells #[.int .u8 3] 5)) := fun w0 H hH => by
    subst hH; exact str_one 3 (by decide) w0 _ (Below.refl _ _)
  have e1 := E1 (w.alloc (.cells #[.int .i64 2, .int .i64 n, .int .u64 0, .string ⟨#[]⟩] 25)) (w.heap.size + 1) (by simp)
  have HB := Lib.hid (((Below.refl w.heap.size w).alloc (Nat.le_refl _) (.cells #[.int .i64 2, .int .i64 n, .int .u64 0, .string ⟨#[]⟩] 25)).alloc (by simp) (.cells #[.int .u8 3] 5))
  clear E1
  go_enter Tryd.func43, Tryd.ntmps43
  go_wp2_with fail
  refine (hE _).mono ?_
  rintro e w2 ⟨rfl, hb2⟩
  have HB2 := Lib.hid (HB.out.trans (hb2.mono HB.out.size))
  clear hb2
  go_wp2_with fail
  go_ret
  refine ⟨congrArg (fun q => Ending.returned (.string q)) ?_, HB2.out⟩
  have e : one ⟨2, n, 0, []⟩ = [3] ++ be 8 (top n) := by simp [one, rest]
  rw [e, HT.out]; exact S_append _ _
set_option maxHeartbeats 4000000 in
set_option maxRecDepth 100000 in
theorem rone_floatn (x : Nat) (w : World) (hx : x < 18446744073709551616) (hlt : 9223372036854775808 ≤ x) :
    Calls Tryd.prog 43 #[.agg #[.int .i64 3, .int .i64 0, .int .u64 x, .string ⟨#[]⟩]] w fun e w' => e = .returned (.string (S (one ⟨3, 0, x, []⟩))) ∧ Below w.heap.size w w' := by
  have hb8 : turn x < 18446744073709551616 := turn_lt hx
  have ht : turn x = 18446744073709551615 - x := by unfold turn; rw [if_neg (by omega)]
  have f1 : (9223372036854775808 : Int) ≤ (x : Int) := by omega
  obtain ⟨Y, hY⟩ : ∃ Y : Nat, Y = turn x := ⟨_, rfl⟩
  have hv : IntKind.u64.wrap (18446744073709551615 - (x : Int)) = (Y : Int) := by rw [IntKind.wrap_u64, hY, ht]; omega
  have hv2 : (18446744073709551615 - (x : Int) : Int) = (Y : Int) := by rw [hY, ht]; omega
  rw [← hY] at hb8
  have HY := Lib.hid hY
  clear hY ht hlt
  obtain ⟨T, hT⟩ : ∃ T, T = S (be 8 (Y)) := ⟨_, rfl⟩
  have hE := reight_be (Y) hb8
  rw [← hT] at hE
  have hTs : T.size = 8 := by rw [hT, S_size, be_len]
  have HT := Lib.hid hT
  have hsz : ¬ 9223372036854775807 < (1 : Nat) + T.size := by omega
  clear hT
  have E1 : ∀ (w0 : World) (H : Nat), H = w0.heap.size → (convert 55 9 (.slice (some ⟨H, 0, none⟩) 1 1)).run Tryd.prog (w0.alloc (.cells #[.int .u8 4] 5)) = .ok (.string (S [4])) (w0.alloc (.cells #[.int .u8 4] 5)) := fun w0 H hH => by
    subst hH; exact str_one 4 (by decide) w0 _ (Below.refl _ _)
  have e1 := E1 (w.alloc (.cells #[.int .i64 3, .int .i64 0, .int .u64 (x : Nat), .string ⟨#[]⟩] 25)) (w.heap.size + 1) (by simp)
  have HB := Lib.hid (((Below.refl w.heap.size w).alloc (Nat.le_refl _) (.cells #[.int .i64 3, .int .i64 0, .int .u64 (x : Nat), .string ⟨#[]⟩] 25)).alloc (by simp) (.cells #[.int .u8 4] 5))
  clear E1
  go_enter Tryd.func43, Tryd.ntmps43
  go_wp2_with fail
  refine (hE _).mono ?_
  rintro e w2 ⟨rfl, hb2⟩
  have HB2 := Lib.hid (HB.out.trans (hb2.mono HB.out.size))
  clear hb2
  go_wp2_with fail
  go_ret
  refine ⟨congrArg (fun q => Ending.returned (.string q)) ?_, HB2.out⟩
  have e : one ⟨3, 0, x, []⟩ = [4] ++ be 8 (turn x) := by simp [one, rest]
  rw [e, HT.out, HY.out]; exact S_append _ _
set_option maxHeartbeats 4000000 in
set_option maxRecDepth 100000 in
theorem rone_floatp (x : Nat) (w : World) (hx : x < 18446744073709551616) (hlt : x < 9223372036854775808) :
    Calls Tryd.prog 43 #[.agg #[.int .i64 3, .int .i64 0, .int .u64 x, .string ⟨#[]⟩]] w fun e w' => e = .returned (.string (S (one ⟨3, 0, x, []⟩))) ∧ Below w.heap.size w w' := by
  have hb8 : turn x < 18446744073709551616 := turn_lt hx
  have ht : turn x = x + 9223372036854775808 := by unfold turn; rw [if_pos hlt]
  have f1 : ¬ (9223372036854775808 : Int) ≤ (x : Int) := by omega
  obtain ⟨Y, hY⟩ : ∃ Y : Nat, Y = turn x := ⟨_, rfl⟩
  have hv : IntKind.u64.wrap ((x : Int) + 9223372036854775808) = (Y : Int) := by rw [IntKind.wrap_u64, hY, ht]; omega
  have hv2 : ((x : Int) + 9223372036854775808 : Int) = (Y : Int) := by rw [hY, ht]; omega
  rw [← hY] at hb8
  have HY := Lib.hid hY
  clear hY ht hlt
  obtain ⟨T, hT⟩ : ∃ T, T = S (be 8 (Y)) := ⟨_, rfl⟩
  have hE := reight_be (Y) hb8
  rw [← hT] at hE
  have hTs : T.size = 8 := by rw [hT, S_size, be_len]
  have HT := Lib.hid hT
  have hsz : ¬ 9223372036854775807 < (1 : Nat) + T.size := by omega
  clear hT
  have E1 : ∀ (w0 : World) (H : Nat), H = w0.heap.size → (convert 55 9 (.slice (some ⟨H, 0, none⟩) 1 1)).run Tryd.prog (w0.alloc (.cells #[.int .u8 4] 5)) = .ok (.string (S [4])) (w0.alloc (.cells #[.int .u8 4] 5)) := fun w0 H hH => by
    subst hH; exact str_one 4 (by decide) w0 _ (Below.refl _ _)
  have e1 := E1 (w.alloc (.cells #[.int .i64 3, .int .i64 0, .int .u64 (x : Nat), .string ⟨#[]⟩] 25)) (w.heap.size + 1) (by simp)
  have HB := Lib.hid (((Below.refl w.heap.size w).alloc (Nat.le_refl _) (.cells #[.int .i64 3, .int .i64 0, .int .u64 (x : Nat), .string ⟨#[]⟩] 25)).alloc (by simp) (.cells #[.int .u8 4] 5))
  clear E1
  go_enter Tryd.func43, Tryd.ntmps43
  go_wp2_with fail
  refine (hE _).mono ?_
  rintro e w2 ⟨rfl, hb2⟩
  have HB2 := Lib.hid (HB.out.trans (hb2.mono HB.out.size))
  clear hb2
  go_wp2_with fail
  go_ret
  refine ⟨congrArg (fun q => Ending.returned (.string q)) ?_, HB2.out⟩
  have e : one ⟨3, 0, x, []⟩ = [4] ++ be 8 (turn x) := by simp [one, rest]
  rw [e, HT.out, HY.out]; exact S_append _ _
end Ky
end Go.Proofs.YtppdebhcaodcnaaDoor
