/- The document's writers Uint and Text (layer 2). No condition but that a text's length is below 2^63 - 16. -/
import Derived.Test.YtkgiomdjihcfoaaQa
namespace Go.Proofs.Ytkgiomdjihcfoaa
open Go.RowKit
open Go.RowKit
namespace Wr
open Cod
theorem str_one (n : Nat) (hn : n < 256) (w w' : World) (hb : Below (w.alloc (.cells #[.int .u8 n] 5)).heap.size (w.alloc (.cells #[.int .u8 n] 5)) w') :
    (convert 57 9 (.slice (some ⟨w.heap.size, 0, none⟩) 1 1)).run Try.prog w' = .ok (.string (S [n.toUInt8])) w' :=
  run_convert_bytes_back (P := Try.prog) w' 57 9 5 ⟨w.heap.size, 0, none⟩ 1 [n.toUInt8] Try.underlying57 Try.underlying5 Try.underlying9 (by
    intro j hj
    have hj0 : j = 0 := by simpa using hj
    subst hj0
    show World.cell? _ ⟨w.heap.size, 0, none⟩ = some (.int .u8 (n.toUInt8.toNat : Int))
    rw [toNat_lt hn, hb.cell (p := ⟨w.heap.size, 0, none⟩) (by simp)]
    simp [go_sem])
set_option maxRecDepth 100000 in
set_option maxHeartbeats 2000000 in
theorem ruint_any (n : Nat) : n < 18446744073709551616 → ∀ w : World,
    Calls Try.prog 44 #[.int .u64 n] w fun e w' => e = .returned (.string (S (uB n))) ∧ Below w.heap.size w w' := by
  induction n using Nat.strongRecOn with
  | _ n ih =>
    intro hn w
    rcases Nat.lt_or_ge n 128 with hlt | hge
    · have g : (n : Int) < 128 := by omega
      have hc := str_one n (by omega) w _ (Below.refl _ _)
      rw [uB_lt hlt]
      clear ih
      go_enter Try.func44, Try.ntmps44
      go_wp2_with fail
      go_ret
      exact ⟨rfl, (Below.refl _ _).alloc (Nat.le_refl _) _⟩
    · have g : ¬ (n : Int) < 128 := by omega
      obtain ⟨d, hd⟩ : ∃ d, d = n / 128 := ⟨_, rfl⟩
      obtain ⟨c, hc⟩ : ∃ c, c = 128 + n % 128 := ⟨_, rfl⟩
      have hrec := ih d (by omega) (by omega)
      have hx1 : (n : Int).tmod 128 = ((n % 128 : Nat) : Int) := by rw [Int.tmod_eq_emod_of_nonneg (by omega)]; omega
      have hx : IntKind.u8.wrap (IntKind.u64.wrap (128 + (n : Int).tmod 128)) = (c : Int) := by
        rw [hx1]; simp only [IntKind.wrap_u64, IntKind.wrap_u8]; omega
      have hy : IntKind.u64.wrap ((n : Int) / 128) = (d : Int) := by simp only [IntKind.wrap_u64]; omega
      have hcl : c < 256 := by omega
      clear ih hx1
      obtain ⟨a, ha⟩ : ∃ a, a = S (uB d) := ⟨_, rfl⟩
      rw [← ha] at hrec
      have hl : a.size ≤ 10 := by rw [ha, S_size]; exact uB_ten d (by omega)
      obtain ⟨b, hb0⟩ : ∃ b, b = S [c.toUInt8] := ⟨_, rfl⟩
      have hl2 : b.size = 1 := by rw [hb0, S_size]; rfl
      have HE : Hid (b ++ a = S (uB n)) := by
        refine hidm ?_
        rw [hb0, ha, S_append, uB_ge hge, ← hd, ← hc]; rfl
      have E1 : ∀ w0 : World, (convert 57 9 (.slice (some ⟨w0.heap.size, 0, none⟩) 1 1)).run Try.prog (w0.alloc (.cells #[.int .u8 c] 5)) = .ok (.string b) (w0.alloc (.cells #[.int .u8 c] 5)) := fun w0 => by
        rw [hb0]; exact str_one c hcl w0 _ (Below.refl _ _)
      have E2 : ∀ w0 w' : World, Below (w0.alloc (.cells #[.int .u8 c] 5)).heap.size (w0.alloc (.cells #[.int .u8 c] 5)) w' → (convert 57 9 (.slice (some ⟨w0.heap.size, 0, none⟩) 1 1)).run Try.prog w' = .ok (.string b) w' := fun w0 w' hb => by
        rw [hb0]; exact str_one c hcl w0 w' hb
      have E3 : ∀ w0 : World, (convert 57 9 (.slice (some ⟨w0.heap.size, 0, none⟩) 1 1)).run Try.prog (w0.alloc (.cells #[.int .u8 c] 5)).drew = .ok (.string b) (w0.alloc (.cells #[.int .u8 c] 5)).drew := fun w0 => E2 w0 _ (Below.refl _ _).drew
      have E4 := fun n => E2 w ((w.alloc (.cells #[.int .u8 c] 5)).drewN n) (below_drewN (Below.refl _ _) n)
      have HD := hidm hd
      have HC := hidm hc
      clear hd hc ha hb0
      go_enter Try.func44, Try.ntmps44
      go_wp2_with fail
      go_region_with (go_at_call 44; (with_reducible refine (hrec _).mono ?_); rintro e w' ⟨rfl, hb⟩; (try (have hcv := E2 w _ hb)); (try (have hcv := E2 w _ ((Below.refl _ _).drew.trans hb))))
      all_goals go_wp2_with fail
      all_goals go_ret
      all_goals refine ⟨congrArg (fun q => Ending.returned (.string q)) HE.out, ?_⟩
      all_goals first
        | exact ((Below.refl w.heap.size w).alloc (Nat.le_refl _) _).drew.trans (hb.mono (by simp))
        | exact ((Below.refl w.heap.size w).alloc (Nat.le_refl _) _).drew.drew.trans (hb.mono (by simp))
        | exact (((Below.refl w.heap.size w).drew.trans hb).alloc hb.size _)
        | exact (((Below.refl w.heap.size w).drew.trans hb).alloc hb.size _).drew
theorem rtext_any (t : ByteArray) (ht : t.size ≤ 9223372036854775700) (w : World) :
    Calls Try.prog 43 #[.string t] w fun e w' => e = .returned (.string (S (tB t.data.toList))) ∧ Below w.heap.size w w' := by
  have hl := uB_ten t.size (by omega)
  have hn : ¬ 9223372036854775807 < (uB t.size).length + t.size := by omega
  go_enter Try.func43, Try.ntmps43
  go_wp2_with fail
  refine (ruint_any t.size (by omega) _).mono ?_
  rintro e w' ⟨rfl, hb⟩
  go_wp2_with fail
  go_ret
  exact ⟨congrArg (fun x => Ending.returned (.string x)) (S_tB t), hb⟩
end Wr
end Go.Proofs.Ytkgiomdjihcfoaa
