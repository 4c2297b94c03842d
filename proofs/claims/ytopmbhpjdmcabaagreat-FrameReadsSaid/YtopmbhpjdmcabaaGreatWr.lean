/- The document's own writers (layer 2): zig, Uint, Int, Text. No condition but that a text's length is below 2^63 - 16. -/
import Derived.Test.YtopmbhpjdmcabaaGreatQa
namespace Go.Proofs.YtopmbhpjdmcabaaGreat
open Go.RowKit
namespace Wr
open Cod
theorem zig_any (n : Int) (h0 : -9223372036854775808 ≤ n) (h1 : n ≤ 9223372036854775807) (w : World) :
    Calls Tryz.prog 114 #[.int .i64 n] w fun e w' => e = .returned (.int .u64 (zig n)) ∧ w = w' := by
  rcases Int.lt_or_le n 0 with hn | hn
  · have hz : 2 * (-(n + 1)) + 1 = ((zig n : Nat) : Int) := by unfold zig; rw [if_neg (by omega)]; omega
    have HZ := hidm hz
    have g : ¬ n ≥ 0 := by omega
    clear hz
    go_enter Tryz.func114, Tryz.ntmps114
    go_wp2_with fail
    go_ret
    exact ⟨congrArg (fun q => Ending.returned (.int .u64 q)) HZ.out, rfl⟩
  · have hz : 2 * n = ((zig n : Nat) : Int) := by unfold zig; rw [if_pos hn]; omega
    have HZ := hidm hz
    have g : n ≥ 0 := hn
    clear hz
    go_enter Tryz.func114, Tryz.ntmps114
    go_wp2_with fail
    go_ret
    exact ⟨congrArg (fun q => Ending.returned (.int .u64 q)) HZ.out, rfl⟩
theorem str_one (n : Nat) (hn : n < 256) (w w' : World) (hb : Below (w.alloc (.cells #[.int .u8 n] 5)).heap.size (w.alloc (.cells #[.int .u8 n] 5)) w') :
    (convert 88 9 (.slice (some ⟨w.heap.size, 0, none⟩) 1 1)).run Tryz.prog w' = .ok (.string (S [n.toUInt8])) w' :=
  run_convert_bytes_back (P := Tryz.prog) w' 88 9 5 ⟨w.heap.size, 0, none⟩ 1 [n.toUInt8] Tryz.underlying88 Tryz.underlying5 Tryz.underlying9 (by
    intro j hj
    have hj0 : j = 0 := by simpa using hj
    subst hj0
    show World.cell? _ ⟨w.heap.size, 0, none⟩ = some (.int .u8 (n.toUInt8.toNat : Int))
    rw [toNat_lt hn, hb.cell (p := ⟨w.heap.size, 0, none⟩) (by simp)]
    simp [go_sem])
set_option maxRecDepth 100000 in
set_option maxHeartbeats 2000000 in
theorem ruint_any (n : Nat) : n < 18446744073709551616 → ∀ w : World,
    Calls Tryz.prog 34 #[.int .u64 n] w fun e w' => e = .returned (.string (S (uB n))) ∧ Below w.heap.size w w' := by
  induction n using Nat.strongRecOn with
  | _ n ih =>
    intro hn w
    rcases Nat.lt_or_ge n 128 with hlt | hge
    · have g : (n : Int) < 128 := by omega
      have hc := str_one n (by omega) w _ (Below.refl _ _)
      rw [uB_lt hlt]
      clear ih
      go_enter Tryz.func34, Tryz.ntmps34
      go_wp2_with fail
      go_ret
      exact ⟨rfl, (Below.refl _ _).alloc (Nat.le_refl _) _⟩
    · have g : ¬ (n : Int) < 128 := by omega
      obtain ⟨d, hd⟩ : ∃ d, d = n / 128 := ⟨_, rfl⟩
      obtain ⟨c, hc⟩ : ∃ c, c = 128 + n % 128 := ⟨_, rfl⟩
      have hrec := ih d (by omega) (by omega)
      have hx1 : (n : Int).tmod 128 = ((n % 128 : Nat) : Int) := by rw [Int.tmod_eq_emod_of_nonneg (by omega)]; omega
      have hx : IntKind.u8.wrap (IntKind.u64.wrap (128 + (n : Int).tmod 128)) = (c : Int) := by
        rw [hx1]; simp only [IntKind.wrap_u64, IntKind.wrap_u8]; omega
      have hy : IntKind.u64.wrap ((n : Int) / 128) = (d : Int) := by simp only [IntKind.wrap_u64]; omega
      have hcl : c < 256 := by omega
      clear ih hx1
      obtain ⟨a, ha⟩ : ∃ a, a = S (uB d) := ⟨_, rfl⟩
      rw [← ha] at hrec
      have hl : a.size ≤ 10 := by rw [ha, S_size]; exact uB_ten d (by omega)
      obtain ⟨b, hb0⟩ : ∃ b, b = S [c.toUInt8] := ⟨_, rfl⟩
      have hl2 : b.size = 1 := by rw [hb0, S_size]; rfl
      have HE : Hid (b ++ a = S (uB n)) := by
        refine hidm ?_
        rw [hb0, ha, S_append, uB_ge hge, ← hd, ← hc]; rfl
      have E1 : ∀ w0 : World, (convert 88 9 (.slice (some ⟨w0.heap.size, 0, none⟩) 1 1)).run Tryz.prog (w0.alloc (.cells #[.int .u8 c] 5)) = .ok (.string b) (w0.alloc (.cells #[.int .u8 c] 5)) := fun w0 => by
        rw [hb0]; exact str_one c hcl w0 _ (Below.refl _ _)
      have E2 : ∀ w0 w' : World, Below (w0.alloc (.cells #[.int .u8 c] 5)).heap.size (w0.alloc (.cells #[.int .u8 c] 5)) w' → (convert 88 9 (.slice (some ⟨w0.heap.size, 0, none⟩) 1 1)).run Tryz.prog w' = .ok (.string b) w' := fun w0 w' hb => by
        rw [hb0]; exact str_one c hcl w0 w' hb
      have E3 : ∀ w0 : World, (convert 88 9 (.slice (some ⟨w0.heap.size, 0, none⟩) 1 1)).run Tryz.prog (w0.alloc (.cells #[.int .u8 c] 5)).drew = .ok (.string b) (w0.alloc (.cells #[.int .u8 c] 5)).drew := fun w0 => E2 w0 _ (Below.refl _ _).drew
      have E4 := fun n => E2 w ((w.alloc (.cells #[.int .u8 c] 5)).drewN n) (below_drewN (Below.refl _ _) n)
      have HD := hidm hd
      have HC := hidm hc
      clear hd hc ha hb0
      go_enter Tryz.func34, Tryz.ntmps34
      go_wp2_with fail
      go_region_with (go_at_call 34; (with_reducible refine (hrec _).mono ?_); rintro e w' ⟨rfl, hb⟩; (try (have hcv := E2 w _ hb)); (try (have hcv := E2 w _ ((Below.refl _ _).drew.trans hb))))
      all_goals go_wp2_with fail
      all_goals go_ret
      all_goals refine ⟨congrArg (fun q => Ending.returned (.string q)) HE.out, ?_⟩
      all_goals first
        | exact ((Below.refl w.heap.size w).alloc (Nat.le_refl _) _).drew.trans (hb.mono (by simp))
        | exact ((Below.refl w.heap.size w).alloc (Nat.le_refl _) _).drew.drew.trans (hb.mono (by simp))
        | exact (((Below.refl w.heap.size w).drew.trans hb).alloc hb.size _)
        | exact (((Below.refl w.heap.size w).drew.trans hb).alloc hb.size _).drew
theorem rint_any (n : Int) (h0 : -9223372036854775808 ≤ n) (h1 : n ≤ 9223372036854775807) (w : World) :
    Calls Tryz.prog 93 #[.int .i64 n] w fun e w' => e = .returned (.string (S (iB n))) ∧ Below w.heap.size w w' := by
  have hr := fun w => ruint_any (zig n) (zig_lt h0 h1) w
  go_enter Tryz.func93, Tryz.ntmps93
  go_wp2_with fail
  refine (zig_any n h0 h1 w).mono ?_
  rintro e w' ⟨rfl, rfl⟩
  go_wp2_with fail
  refine (hr w).mono ?_
  rintro e w' ⟨rfl, hb⟩
  go_wp2_with fail
  go_ret
  exact ⟨rfl, hb⟩
theorem rtext_any (t : ByteArray) (ht : t.size ≤ 9223372036854775700) (w : World) :
    Calls Tryz.prog 35 #[.string t] w fun e w' => e = .returned (.string (S (tB t.data.toList))) ∧ Below w.heap.size w w' := by
  have hl := uB_ten t.size (by omega)
  have hn : ¬ 9223372036854775807 < (uB t.size).length + t.size := by omega
  go_enter Tryz.func35, Tryz.ntmps35
  go_wp2_with fail
  refine (ruint_any t.size (by omega) _).mono ?_
  rintro e w' ⟨rfl, hb⟩
  go_wp2_with fail
  go_ret
  exact ⟨congrArg (fun x => Ending.returned (.string x)) (S_tB t), hb⟩
theorem eB_get (n j : Nat) (h : j < 8) : (eB n)[j]? = some (n / 2 ^ (56 - 8 * j)).toUInt8 := by simp [eB, eTo, h]
theorem eB_drop (n i : Nat) (hi : i < 8) : (eB n).drop (8 - (i + 1)) = (n / 256 ^ i % 256).toUInt8 :: (eB n).drop (8 - i) := by
  have hl : (eB n).length = 8 := eTo_len _ _
  have h1 : 8 - (i + 1) < (eB n).length := by omega
  have hx : (eB n)[8 - (i + 1)] = (n / 2 ^ (56 - 8 * (8 - (i + 1)))).toUInt8 := by
    have := eB_get n (8 - (i + 1)) (by omega)
    rw [List.getElem?_eq_getElem h1] at this
    exact Option.some.inj this
  have e1 : 8 - (i + 1) + 1 = 8 - i := by omega
  have e2 : 56 - 8 * (8 - (i + 1)) = 8 * i := by omega
  have e3 : (256 : Nat) ^ i = 2 ^ (8 * i) := by rw [Nat.pow_mul]
  rw [List.drop_eq_getElem_cons h1, hx, e1, e2, e3]
  congr 1
  apply UInt8.toNat_inj.1
  show _ % 256 = _ % 256 % 256
  omega
set_option maxRecDepth 100000 in
set_option maxHeartbeats 2000000 in
theorem reight_any (n : Nat) (hn : n < 18446744073709551616) (w : World) :
    Calls Tryz.prog 69 #[.int .u64 n] w fun e w' => e = .returned (.string (S (eB n))) ∧ Below w.heap.size w w' := by
  go_enter Tryz.func69, Tryz.ntmps69
  go_wp2_with fail
  go_loopw [0, 3, 4] (fun nn ss ii wr => ∃ (i y : Nat) (t : ByteArray), nn = .int .u64 y ∧ ss = .string t ∧ ii = .int .i64 i ∧ i ≤ 8 ∧ t.size ≤ 8 ∧ y < 18446744073709551616 ∧ Hid (y = n / 256 ^ i) ∧ Hid (t = S ((eB n).drop (8 - i))) ∧ Hid (t.size = i) ∧ Hid (Below w.heap.size w wr)) (fun _ _ ii _ => (8 - intOf ii).toNat)
  case atStart => exact ⟨0, n, ⟨#[]⟩, rfl, rfl, rfl, by omega, by decide, hn, hidm (by simp), hidm rfl, hidm rfl, hidm (Below.refl _ _)⟩
  case round =>
    obtain ⟨i, y, t, rfl, rfl, rfl, hi, ht8, hy, HY, HT, HTS, HB⟩ := hrel
    rcases Nat.eq_or_lt_of_le hi with hie | hie
    · have f1 : ¬ (i : Int) < 8 := by omega
      have HI := hidm hie
      clear hie
      go_wp2_with fail
      go_ret
      refine ⟨congrArg (fun q => Ending.returned (.string q)) ?_, HB.out⟩
      rw [HT.out, HI.out]; rfl
    · have f1 : (i : Int) < 8 := by omega
      obtain ⟨c, hc⟩ : ∃ c, c = y % 256 := ⟨_, rfl⟩
      have hcl : c < 256 := by omega
      obtain ⟨d, hd⟩ : ∃ d, d = y / 256 := ⟨_, rfl⟩
      have hdl : d < 18446744073709551616 := by omega
      have hx1 : (y : Int).tmod 256 = (c : Int) := by rw [Int.tmod_eq_emod_of_nonneg (by omega)]; omega
      have hx2 : (y : Int) % 256 = (c : Int) := by omega
      have hx3 : (y : Int).tdiv 256 = (d : Int) := by rw [Int.tdiv_eq_ediv_of_nonneg (by omega)]; omega
      have hx4 : (y : Int) / 256 = (d : Int) := by omega
      obtain ⟨b, hb0⟩ : ∃ b, b = S [c.toUInt8] := ⟨_, rfl⟩
      have hl2 : b.size = 1 := by rw [hb0, S_size]; rfl
      have E1 : ∀ w0 : World, (convert 88 9 (.slice (some ⟨w0.heap.size, 0, none⟩) 1 1)).run Tryz.prog (w0.alloc (.cells #[.int .u8 c] 5)) = .ok (.string b) (w0.alloc (.cells #[.int .u8 c] 5)) := fun w0 => by
        rw [hb0]; exact str_one c hcl w0 _ (Below.refl _ _)
      have HN : Hid (b ++ t = S ((eB n).drop (8 - (i + 1)))) := by
        refine hidm ?_
        rw [eB_drop n i hie, hb0, HT.out, S_append, hc, HY.out]; rfl
      have HD : Hid (d = n / 256 ^ (i + 1)) := by
        refine hidm ?_
        rw [hd, HY.out, Nat.pow_succ, Nat.div_div_eq_div_mul]
      have HS : Hid ((b ++ t).size = i + 1) := by
        refine hidm ?_
        rw [ByteArray.size_append, hl2, HTS.out]; omega
      clear hc hd hb0
      go_wp2_with fail
      go_roundw
      case rel => exact ⟨i + 1, d, b ++ t, rfl, rfl, by go_num, hie, by rw [HS.out]; omega, hdl, HD, HN, HS, hidm (HB.out.alloc HB.out.size _)⟩
      case measure => simp [intOf]; omega
end Wr
end Go.Proofs.YtopmbhpjdmcabaaGreat
