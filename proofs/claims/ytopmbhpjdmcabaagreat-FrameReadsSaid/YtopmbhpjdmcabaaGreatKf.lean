/- The document's Encode (layer 5). Condition: names are at most 2^48 bytes, and there are at most a million columns. -/
import Derived.Test.YtopmbhpjdmcabaaGreatMd
import Derived.Test.YtopmbhpjdmcabaaGreatWr
import Derived.Test.YtopmbhpjdmcabaaGreatMan
namespace Go.Proofs.YtopmbhpjdmcabaaGreat
open Go.RowKit
namespace Sch
open Cod
theorem rright_is {s : T} {b : Bool} (hb : rightB s = b) (hl : Lim s) (sl : Value) (w : World) (h : ColsAt s.cols sl w) :
    Calls Tryz.prog 29 #[.agg #[.string (S s.nm), sl, .int .i64 s.keys]] w fun e w' => e = .returned (.bool b) ∧ Below w.heap.size w w' := hb ▸ rright_any s hl sl w h
theorem rtext_is {l : List UInt8} {A : ByteArray} (hx : S (tB l) = A) (hl : l.length ≤ 281474976710656) (w : World) :
    Calls Tryz.prog 35 #[.string (S l)] w fun e w' => e = .returned (.string A) ∧ Below w.heap.size w w' := hx ▸ Wr.rtext_any (S l) (by rw [S_size]; omega) w
theorem ruint_is {n : Nat} {A : ByteArray} (hx : S (uB n) = A) (hn : n < 18446744073709551616) (w : World) :
    Calls Tryz.prog 34 #[.int .u64 n] w fun e w' => e = .returned (.string A) ∧ Below w.heap.size w w' := hx ▸ Wr.ruint_any n hn w
theorem ruint_lit0 {A : ByteArray} (hx : S (uB 0) = A) (w : World) :
    Calls Tryz.prog 34 #[.int .u64 0] w fun e w' => e = .returned (.string A) ∧ Below w.heap.size w w' := ruint_is (n := 0) hx (by omega) w
theorem ruint_lit1 {A : ByteArray} (hx : S (uB 1) = A) (w : World) :
    Calls Tryz.prog 34 #[.int .u64 1] w fun e w' => e = .returned (.string A) ∧ Below w.heap.size w w' := ruint_is (n := 1) hx (by omega) w
theorem e3_step {b : Nat} {wb : World} {s : T} {ao : Option Addr} {n cap k : Nat} {w1 w' : World} (h : w1.cell? ⟨b, 0, none⟩ = some (.string (S s.nm)) ∧ w1.cell? ⟨b, 1, none⟩ = some (.slice ao n cap) ∧ w1.cell? ⟨b, 2, none⟩ = some (.int .i64 (k : Int)) ∧ Below wb.heap.size wb w1 ∧ wb.heap.size ≤ w1.heap.size) (hb : Below w1.heap.size w1 w') : w'.cell? ⟨b, 0, none⟩ = some (.string (S s.nm)) ∧ w'.cell? ⟨b, 1, none⟩ = some (.slice ao n cap) ∧ w'.cell? ⟨b, 2, none⟩ = some (.int .i64 (k : Int)) ∧ Below wb.heap.size wb w' ∧ wb.heap.size ≤ w'.heap.size := by
  obtain ⟨c0, c1, c2, hB, hz⟩ := h
  exact ⟨cell_later hb c0, cell_later hb c1, cell_later hb c2, hB.trans (hb.mono hz), Nat.le_trans hz hb.size⟩
theorem e11_step {b : Nat} {wb : World} {x : C} {kk : Nat} {w1 w' : World} (h : w1.cell? ⟨b, 0, none⟩ = some (.string (S x.nm)) ∧ w1.cell? ⟨b, 1, none⟩ = some (.int .i64 (kk : Int)) ∧ Below wb.heap.size wb w1 ∧ wb.heap.size ≤ w1.heap.size) (hb : Below w1.heap.size w1 w') : w'.cell? ⟨b, 0, none⟩ = some (.string (S x.nm)) ∧ w'.cell? ⟨b, 1, none⟩ = some (.int .i64 (kk : Int)) ∧ Below wb.heap.size wb w' ∧ wb.heap.size ≤ w'.heap.size := by
  obtain ⟨c0, c1, hB, hz⟩ := h
  exact ⟨cell_later hb c0, cell_later hb c1, hB.trans (hb.mono hz), Nat.le_trans hz hb.size⟩
set_option maxHeartbeats 8000000 in
set_option maxRecDepth 100000 in
theorem rencode_any (s : T) (hl : Lim s) (sl : Value) (w : World) (h : ColsAt s.cols sl w) :
    Calls Tryz.prog 36 #[.agg #[.string (S s.nm), sl, .int .i64 s.keys]] w fun e w' => e = .returned (.string (S (encB s))) ∧ Below w.heap.size w w' := by
  obtain ⟨ao, cap, rfl, hcl, hcm⟩ := h.form
  have H := hidm h
  have HL := hidm hl
  have HS0 := hidm (Boxed.start s ao cap w)
  have hb0 : Below w.heap.size w (w.alloc (.cells #[.string (S s.nm), .slice ao s.cols.length cap, .int .i64 s.keys] 30)) := (Below.refl _ _).alloc (Nat.le_refl _) _
  have H0 := hidm (h.later hb0)
  obtain ⟨F, hF⟩ : ∃ F, F = S (encB s) := ⟨_, rfl⟩
  rw [← hF]
  have HF := hidm hF
  rcases hr : rightB s with _ | _
  · have HFF := hidm (show F = S [] from by rw [HF.out]; unfold encB; rw [hr]; rfl)
    have R := rright_is hr hl _ _ H0.out
    clear h hl hb0 hF hr
    go_enter Tryz.func36, Tryz.ntmps36
    go_wp2_with fail
    refine R.mono ?_
    rintro e w1 ⟨rfl, hb1⟩
    have HB1 := hidm (HS0.out.then hb1)
    clear hb1 R
    go_wp2_with fail
    go_ret
    exact ⟨congrArg (fun q => Ending.returned (.string q)) HFF.out.symm, HB1.out.below⟩
  · have HR := hidm hr
    have HFF := hidm (show F = S (bodyB s) from by rw [HF.out]; unfold encB; rw [hr]; rfl)
    have R := rright_is hr hl _ _ H0.out
    obtain ⟨p1, p2, p3, p4, p5⟩ := head_parts (right_head hr)
    have HNL := hidm (show s.nm.length ≤ 32 from name_len p1)
    obtain ⟨n, hn⟩ : ∃ n, n = s.cols.length := ⟨_, rfl⟩
    obtain ⟨k, hk⟩ : ∃ k : Nat, s.keys = (k : Int) := Int.eq_ofNat_of_zero_le (by omega)
    have HN := hidm hn
    have HK := hidm hk
    rw [← hn] at p2 p5 hcl
    rw [hk] at p3 p4 p5
    clear h hl hb0 hF hr p1
    have hn16 : n ≤ 16 := p2
    have hk8 : k ≤ 8 := by omega
    clear p2 p3 p4 p5
    rw [← hn, hk] at R ⊢
    clear hn hk
    obtain ⟨A1, hA1⟩ : ∃ A, S (tB s.nm) = A := ⟨_, rfl⟩
    obtain ⟨A2, hA2⟩ : ∃ A, S (uB k) = A := ⟨_, rfl⟩
    obtain ⟨A3, hA3⟩ : ∃ A, S (uB n) = A := ⟨_, rfl⟩
    have l1 : A1.size ≤ 100 := by rw [← hA1, S_size]; have := uB_ten s.nm.length (by have := HNL.out; omega); have := HNL.out; unfold tB; rw [List.length_append]; omega
    have l2 : A2.size ≤ 10 := by rw [← hA2, S_size]; exact uB_ten k (by omega)
    have l3 : A3.size ≤ 10 := by rw [← hA3, S_size]; exact uB_ten n (by omega)
    have HA1 := hidm hA1
    have HA2 := hidm hA2
    have HA3 := hidm hA3
    have HS3 := hidm (show A1 ++ A2 ++ A3 = S (preB s 0) from by
      rw [← hA1, ← hA2, ← hA3, S_append, S_append]; unfold preB; rw [HN.out, HK.out, Int.toNat_natCast]; simp)
    have m1 : ¬ 9223372036854775807 < A1.size + A2.size := by omega
    have m2 : ¬ 9223372036854775807 < A1.size + A2.size + A3.size := by omega
    have HSL := hidm (show (A1 ++ A2 ++ A3).size ≤ 2000 from by simp only [ByteArray.size_append]; omega)
    clear hA1 hA2 hA3 l1 l2 l3
    go_enter Tryz.func36, Tryz.ntmps36
    go_wp2_with fail
    refine R.mono ?_
    rintro e w1 ⟨rfl, hb1⟩
    have HB1 := hidm (HS0.out.then (by rw [← HN.out, HK.out]; exact hb1))
    have c0 := HB1.out.c0
    have c1 := HB1.out.c1
    have c2 := HB1.out.c2
    rw [← HN.out] at c1
    rw [HK.out] at c2
    have SS0 := hidm (show w1.cell? ⟨w.heap.size, 0, none⟩ = some (.string (S s.nm)) ∧ w1.cell? ⟨w.heap.size, 1, none⟩ = some (.slice ao n cap) ∧ w1.cell? ⟨w.heap.size, 2, none⟩ = some (.int .i64 (k : Int)) ∧ Below w1.heap.size w1 w1 ∧ w1.heap.size ≤ w1.heap.size from ⟨c0, c1, c2, Below.refl _ _, Nat.le_refl _⟩)
    have hwk : IntKind.u64.wrap (k : Int) = k := by simp only [IntKind.wrap_u64]; omega
    have hwn : IntKind.u64.wrap (n : Int) = n := by simp only [IntKind.wrap_u64]; omega
    clear hb1 R c0 c1 c2
    go_wp2_with fail
    refine wp_region_held_drew (S := fun u => u.cell? ⟨w.heap.size, 0, none⟩ = some (.string (S s.nm)) ∧ u.cell? ⟨w.heap.size, 1, none⟩ = some (.slice ao n cap) ∧ u.cell? ⟨w.heap.size, 2, none⟩ = some (.int .i64 (k : Int)) ∧ Below w1.heap.size w1 u ∧ w1.heap.size ≤ u.heap.size) (by kernel_rfl) ?_ (fun hHeld => ?_)
    · exact e3_step SS0.out ((Below.refl _ _).drew)
    refine Man.take1 (i := 0) (v := ?_) rfl (by kernel_rfl) (by kernel_rfl) (by kernel_rfl) (fun _ _ _ h => h) (by rfl) ?_ (by assumption) ?_
    rotate_left
    · (intro u hSu; (try dsimp only at hSu); go_simp; (try with_reducible rfl))
    (try simp only [Act.put, List.setIfInBounds_toArray, List.set_cons_zero, List.set_cons_succ])
    refine Man.take1 (i := 1) (v := ?_) rfl (by kernel_rfl) (by kernel_rfl) (by kernel_rfl) (fun _ _ _ h => h) (by rfl) ?_ (by assumption) ?_
    rotate_left
    · (intro u hSu; (try dsimp only at hSu); go_simp; (try with_reducible rfl))
    (try simp only [Act.put, List.setIfInBounds_toArray, List.set_cons_zero, List.set_cons_succ])
    refine Man.take1 (i := 3) (v := ?_) rfl (by kernel_rfl) (by kernel_rfl) (by kernel_rfl) (fun _ _ _ h => h) (by rfl) ?_ (by assumption) ?_
    rotate_left
    · (intro u hSu; (try dsimp only at hSu); go_simp; (try with_reducible rfl))
    (try simp only [Act.put, List.setIfInBounds_toArray, List.set_cons_zero, List.set_cons_succ])
    refine Man.take1 (i := 4) (v := ?_) rfl (by kernel_rfl) (by kernel_rfl) (by kernel_rfl) (fun _ _ _ h => h) (by rfl) ?_ (by assumption) ?_
    rotate_left
    · (intro u hSu; (try dsimp only at hSu); go_simp; (try with_reducible rfl))
    (try simp only [Act.put, List.setIfInBounds_toArray, List.set_cons_zero, List.set_cons_succ])
    refine Man.take1 (i := 5) (v := ?_) rfl (by kernel_rfl) (by kernel_rfl) (by kernel_rfl) (fun _ _ _ h => h) (by rfl) ?_ (by assumption) ?_
    rotate_left
    · (intro u hSu; (try dsimp only at hSu); go_simp; (try with_reducible rfl))
    (try simp only [Act.put, List.setIfInBounds_toArray, List.set_cons_zero, List.set_cons_succ])
    refine Man.take1 (i := 8) (v := ?_) rfl (by kernel_rfl) (by kernel_rfl) (by kernel_rfl) (fun _ _ _ h => h) (by rfl) ?_ (by assumption) ?_
    rotate_left
    · (intro u hSu; (try dsimp only at hSu); go_simp; (try with_reducible rfl))
    (try simp only [Act.put, List.setIfInBounds_toArray, List.set_cons_zero, List.set_cons_succ])
    refine Man.take1 (i := 9) (v := ?_) rfl (by kernel_rfl) (by kernel_rfl) (by kernel_rfl) (fun _ _ _ h => h) (by rfl) ?_ (by assumption) ?_
    rotate_left
    · (intro u hSu; (try dsimp only at hSu); go_simp; (try with_reducible rfl))
    (try simp only [Act.put, List.setIfInBounds_toArray, List.set_cons_zero, List.set_cons_succ])
    refine Man.take1 (i := 10) (v := ?_) rfl (by kernel_rfl) (by kernel_rfl) (by kernel_rfl) (fun _ _ _ h => h) (by rfl) ?_ (by assumption) ?_
    rotate_left
    · (intro u hSu; (try dsimp only at hSu); go_simp; (try with_reducible rfl))
    (try simp only [Act.put, List.setIfInBounds_toArray, List.set_cons_zero, List.set_cons_succ])
    refine Man.take1 (i := 11) (v := ?_) rfl (by kernel_rfl) (by kernel_rfl) (by kernel_rfl) (fun _ _ _ h => h) (by rfl) ?_ (by assumption) ?_
    rotate_left
    · (intro u hSu; (try dsimp only at hSu); go_simp; (try with_reducible rfl))
    (try simp only [Act.put, List.setIfInBounds_toArray, List.set_cons_zero, List.set_cons_succ])
    refine Man.one (i := 2) rfl (by kernel_rfl) (fun K hK => ?_)
    go_simp
    (go_at_call 35; (with_reducible refine (rtext_is HA1.out (by have := HNL.out; omega) _).mono ?_); rintro e w' ⟨rfl, hb⟩)
    refine hK.out _ _ ?_ (fun hNew => ?_)
    · exact e3_step hHeld hb
    clear hHeld hK K hb
    have hHeld := hNew
    clear hNew
    (try simp only [Act.put, List.setIfInBounds_toArray, List.set_cons_zero, List.set_cons_succ])
    refine Man.one (i := 6) rfl (by kernel_rfl) (fun K hK => ?_)
    go_simp
    (go_at_call 34; (with_reducible refine (ruint_is HA2.out (by omega) _).mono ?_); rintro e w' ⟨rfl, hb⟩)
    refine hK.out _ _ ?_ (fun hNew => ?_)
    · exact e3_step hHeld hb
    clear hHeld hK K hb
    have hHeld := hNew
    clear hNew
    (try simp only [Act.put, List.setIfInBounds_toArray, List.set_cons_zero, List.set_cons_succ])
    refine Man.take1 (i := 7) (v := ?_) rfl (by kernel_rfl) (by kernel_rfl) (by kernel_rfl) (fun _ _ _ h => h) (by rfl) ?_ (by assumption) ?_
    rotate_left
    · (intro u hSu; (try dsimp only at hSu); go_simp; (try with_reducible rfl))
    (try simp only [Act.put, List.setIfInBounds_toArray, List.set_cons_zero, List.set_cons_succ])
    refine Man.one (i := 12) rfl (by kernel_rfl) (fun K hK => ?_)
    go_simp
    (go_at_call 34; (with_reducible refine (ruint_is HA3.out (by omega) _).mono ?_); rintro e w' ⟨rfl, hb⟩)
    refine hK.out _ _ ?_ (fun hNew => ?_)
    · exact e3_step hHeld hb
    clear hHeld hK K hb
    have hHeld := hNew
    clear hNew
    (try simp only [Act.put, List.setIfInBounds_toArray, List.set_cons_zero, List.set_cons_succ])
    refine Man.take1 (i := 13) (v := ?_) rfl (by kernel_rfl) (by kernel_rfl) (by kernel_rfl) (fun _ _ _ h => h) (by rfl) ?_ (by assumption) ?_
    rotate_left
    · (intro u hSu; (try dsimp only at hSu); go_simp; (try with_reducible rfl))
    (try simp only [Act.put, List.setIfInBounds_toArray, List.set_cons_zero, List.set_cons_succ])
    refine Man.take1 (i := 14) (v := ?_) rfl (by kernel_rfl) (by kernel_rfl) (by kernel_rfl) (fun _ _ _ h => h) (by rfl) ?_ (by assumption) ?_
    rotate_left
    · (intro u hSu; (try dsimp only at hSu); go_simp; (try with_reducible rfl))
    (try simp only [Act.put, List.setIfInBounds_toArray, List.set_cons_zero, List.set_cons_succ])
    refine wpAnyH_done (by kernel_rfl) ?_ _
    obtain ⟨_, _, _, hqb, hqz⟩ := hHeld
    have HB2 := hidm (HB1.out.then hqb)
    clear hqb hqz SS0 m1 m2 hwk hwn
    go_wp2_with fail
    go_loopw [3, 4] (fun tt ii wr => ∃ (i : Nat) (B : ByteArray), ii = .int .i64 i ∧ tt = .string B ∧ i ≤ n ∧ Hid (B = S (preB s i)) ∧ Hid (B.size ≤ 2000) ∧ Hid (Boxed s ao cap w wr)) (fun _ ii _ => (n - (intOf ii).toNat))
    case atStart => exact ⟨0, _, rfl, rfl, by omega, HS3, HSL, HB2⟩
    case round =>
      clear HB2 HSL HS3
      obtain ⟨i, B, rfl, rfl, hi, HP, HPB, HB⟩ := hrel
      have c1 := HB.out.c1
      rw [← HN.out] at c1
      rcases Nat.lt_or_ge i n with hlt | hge
      · have f1 : (i : Int) < n := by omega
        have hia : i < s.cols.length := by have := HN.out; omega
        obtain ⟨b1, o1, cp, he1, _, q0, q1, q2⟩ := (H.out.later HB.out.below).at i hia
        simp only [Value.slice.injEq] at he1
        obtain ⟨rfl, _, rfl⟩ := he1
        obtain ⟨x, hx⟩ : ∃ x, x = s.cols[i] := ⟨_, rfl⟩
        rw [← hx] at q0 q1 q2
        have HX := hidm hx
        have hxr : colIs x = true := by rw [hx]; exact right_mem HR.out (List.getElem_mem hia)
        obtain ⟨hxn, hxk, hxk5⟩ := col_parts hxr
        have hxl := name_len hxn
        obtain ⟨kk, hkk⟩ : ∃ kk : Nat, x.k = (kk : Int) := Int.eq_ofNat_of_zero_le (by omega)
        rw [hkk] at q1 hxk hxk5
        have HKK := hidm hkk
        have hk5 : kk ≤ 5 := by omega
        have HXL := hidm hxl
        have HPL := hidm (preB_len HR.out (i + 1))
        obtain ⟨dd, hdd⟩ : ∃ d, d = x.nd := ⟨_, rfl⟩
        rw [← hdd] at q2
        have HDD := hidm hdd
        have HPS := hidm (preB_succ hia)
        rw [← HX.out, HKK.out, Int.toNat_natCast] at HPS
        clear hx hxr hxn hxk hxk5 hkk hdd
        rcases dd with _ | _
        · have HBT := hidm (show bitB x = 0 from by unfold bitB; rw [← HDD.out]; rfl)
          rw [HBT.out] at HPS
          obtain ⟨A1, hA1⟩ : ∃ A, S (tB x.nm) = A := ⟨_, rfl⟩
          obtain ⟨A2, hA2⟩ : ∃ A, S (uB kk) = A := ⟨_, rfl⟩
          obtain ⟨A3, hA3⟩ : ∃ A, S (uB 0) = A := ⟨_, rfl⟩
          have l1 : A1.size ≤ 100 := by rw [← hA1, S_size]; have := uB_ten x.nm.length (by have := HXL.out; omega); unfold tB; rw [List.length_append]; omega
          have l2 : A2.size ≤ 10 := by rw [← hA2, S_size]; exact uB_ten kk (by omega)
          have l3 : A3.size ≤ 10 := by rw [← hA3, S_size]; exact uB_ten 0 (by omega)
          have l0 := HPB.out
          have HA1 := hidm hA1
          have HA2 := hidm hA2
          have HA3 := hidm hA3
          have HP2 := hidm (show B ++ A1 ++ A2 ++ A3 = S (preB s (i + 1)) from by
            rw [HP.out, ← hA1, ← hA2, ← hA3, S_append, S_append, S_append, HPS.out]; simp)
          have HPB2 := hidm (show (B ++ A1 ++ A2 ++ A3).size ≤ 2000 from by rw [HP2.out, S_size]; have := HPL.out; omega)
          have m1 : ¬ 9223372036854775807 < B.size + A1.size := by omega
          have m2 : ¬ 9223372036854775807 < B.size + A1.size + A2.size := by omega
          have m3 : ¬ 9223372036854775807 < B.size + A1.size + A2.size + A3.size := by omega
          have hbA : Below wr.heap.size wr (wr.alloc (.cells #[.string (S x.nm), .int .i64 (kk : Int), .bool false] 81)) := (Below.refl _ _).alloc (Nat.le_refl _) _
          have SS0 := hidm (show (wr.alloc (.cells #[.string (S x.nm), .int .i64 (kk : Int), .bool false] 81)).cell? ⟨wr.heap.size, 0, none⟩ = some (.string (S x.nm)) ∧ (wr.alloc (.cells #[.string (S x.nm), .int .i64 (kk : Int), .bool false] 81)).cell? ⟨wr.heap.size, 1, none⟩ = some (.int .i64 (kk : Int)) ∧ Below wr.heap.size wr (wr.alloc (.cells #[.string (S x.nm), .int .i64 (kk : Int), .bool false] 81)) ∧ wr.heap.size ≤ (wr.alloc (.cells #[.string (S x.nm), .int .i64 (kk : Int), .bool false] 81)).heap.size from ⟨by simp [go_sem], by simp [go_sem], hbA, hbA.size⟩)
          have hwk : IntKind.u64.wrap (kk : Int) = kk := by simp only [IntKind.wrap_u64]; omega
          clear hA1 hA2 hA3 l0 l1 l2 l3 hxl hbA
          go_wp2_with fail
          refine wp_region_held_drew (S := fun u => u.cell? ⟨wr.heap.size, 0, none⟩ = some (.string (S x.nm)) ∧ u.cell? ⟨wr.heap.size, 1, none⟩ = some (.int .i64 (kk : Int)) ∧ Below wr.heap.size wr u ∧ wr.heap.size ≤ u.heap.size) (by kernel_rfl) ?_ (fun hHeld => ?_)
          · exact e11_step SS0.out ((Below.refl _ _).drew)
          refine Man.take1 (i := 0) (v := ?_) rfl (by kernel_rfl) (by kernel_rfl) (by kernel_rfl) (fun _ _ _ h => h) (by rfl) ?_ (by assumption) ?_
          rotate_left
          · (intro u hSu; (try dsimp only at hSu); go_simp; (try with_reducible rfl))
          (try simp only [Act.put, List.setIfInBounds_toArray, List.set_cons_zero, List.set_cons_succ])
          refine Man.take1 (i := 1) (v := ?_) rfl (by kernel_rfl) (by kernel_rfl) (by kernel_rfl) (fun _ _ _ h => h) (by rfl) ?_ (by assumption) ?_
          rotate_left
          · (intro u hSu; (try dsimp only at hSu); go_simp; (try with_reducible rfl))
          (try simp only [Act.put, List.setIfInBounds_toArray, List.set_cons_zero, List.set_cons_succ])
          refine Man.take1 (i := 2) (v := ?_) rfl (by kernel_rfl) (by kernel_rfl) (by kernel_rfl) (fun _ _ _ h => h) (by rfl) ?_ (by assumption) ?_
          rotate_left
          · (intro u hSu; (try dsimp only at hSu); go_simp; (try with_reducible rfl))
          (try simp only [Act.put, List.setIfInBounds_toArray, List.set_cons_zero, List.set_cons_succ])
          refine Man.take1 (i := 5) (v := ?_) rfl (by kernel_rfl) (by kernel_rfl) (by kernel_rfl) (fun _ _ _ h => h) (by rfl) ?_ (by assumption) ?_
          rotate_left
          · (intro u hSu; (try dsimp only at hSu); go_simp; (try with_reducible rfl))
          (try simp only [Act.put, List.setIfInBounds_toArray, List.set_cons_zero, List.set_cons_succ])
          refine Man.take1 (i := 6) (v := ?_) rfl (by kernel_rfl) (by kernel_rfl) (by kernel_rfl) (fun _ _ _ h => h) (by rfl) ?_ (by assumption) ?_
          rotate_left
          · (intro u hSu; (try dsimp only at hSu); go_simp; (try with_reducible rfl))
          (try simp only [Act.put, List.setIfInBounds_toArray, List.set_cons_zero, List.set_cons_succ])
          refine Man.take1 (i := 7) (v := ?_) rfl (by kernel_rfl) (by kernel_rfl) (by kernel_rfl) (fun _ _ _ h => h) (by rfl) ?_ (by assumption) ?_
          rotate_left
          · (intro u hSu; (try dsimp only at hSu); go_simp; (try with_reducible rfl))
          (try simp only [Act.put, List.setIfInBounds_toArray, List.set_cons_zero, List.set_cons_succ])
          refine Man.take1 (i := 10) (v := ?_) rfl (by kernel_rfl) (by kernel_rfl) (by kernel_rfl) (fun _ _ _ h => h) (by rfl) ?_ (by assumption) ?_
          rotate_left
          · (intro u hSu; (try dsimp only at hSu); go_simp; (try with_reducible rfl))
          (try simp only [Act.put, List.setIfInBounds_toArray, List.set_cons_zero, List.set_cons_succ])
          refine Man.one (i := 3) rfl (by kernel_rfl) (fun K hK => ?_)
          go_simp
          (go_at_call 35; (with_reducible refine (rtext_is HA1.out (by have := HXL.out; omega) _).mono ?_); rintro e w' ⟨rfl, hb⟩)
          refine hK.out _ _ ?_ (fun hNew => ?_)
          · exact e11_step hHeld hb
          clear hHeld hK K hb
          have hHeld := hNew
          clear hNew
          (try simp only [Act.put, List.setIfInBounds_toArray, List.set_cons_zero, List.set_cons_succ])
          refine Man.take1 (i := 4) (v := ?_) rfl (by kernel_rfl) (by kernel_rfl) (by kernel_rfl) (fun _ _ _ h => h) (by rfl) ?_ (by assumption) ?_
          rotate_left
          · (intro u hSu; (try dsimp only at hSu); go_simp; (try with_reducible rfl))
          (try simp only [Act.put, List.setIfInBounds_toArray, List.set_cons_zero, List.set_cons_succ])
          refine Man.one (i := 8) rfl (by kernel_rfl) (fun K hK => ?_)
          go_simp
          (go_at_call 34; (with_reducible refine (ruint_is HA2.out (by omega) _).mono ?_); rintro e w' ⟨rfl, hb⟩)
          refine hK.out _ _ ?_ (fun hNew => ?_)
          · exact e11_step hHeld hb
          clear hHeld hK K hb
          have hHeld := hNew
          clear hNew
          (try simp only [Act.put, List.setIfInBounds_toArray, List.set_cons_zero, List.set_cons_succ])
          refine Man.take1 (i := 9) (v := ?_) rfl (by kernel_rfl) (by kernel_rfl) (by kernel_rfl) (fun _ _ _ h => h) (by rfl) ?_ (by assumption) ?_
          rotate_left
          · (intro u hSu; (try dsimp only at hSu); go_simp; (try with_reducible rfl))
          (try simp only [Act.put, List.setIfInBounds_toArray, List.set_cons_zero, List.set_cons_succ])
          refine Man.one (i := 11) rfl (by kernel_rfl) (fun K hK => ?_)
          go_simp
          (go_at_call 34; (with_reducible refine (ruint_lit0 HA3.out _).mono ?_); rintro e w' ⟨rfl, hb⟩)
          refine hK.out _ _ ?_ (fun hNew => ?_)
          · exact e11_step hHeld hb
          clear hHeld hK K hb
          have hHeld := hNew
          clear hNew
          (try simp only [Act.put, List.setIfInBounds_toArray, List.set_cons_zero, List.set_cons_succ])
          refine Man.take1 (i := 12) (v := ?_) rfl (by kernel_rfl) (by kernel_rfl) (by kernel_rfl) (fun _ _ _ h => h) (by rfl) ?_ (by assumption) ?_
          rotate_left
          · (intro u hSu; (try dsimp only at hSu); go_simp; (try with_reducible rfl))
          (try simp only [Act.put, List.setIfInBounds_toArray, List.set_cons_zero, List.set_cons_succ])
          refine Man.take1 (i := 13) (v := ?_) rfl (by kernel_rfl) (by kernel_rfl) (by kernel_rfl) (fun _ _ _ h => h) (by rfl) ?_ (by assumption) ?_
          rotate_left
          · (intro u hSu; (try dsimp only at hSu); go_simp; (try with_reducible rfl))
          (try simp only [Act.put, List.setIfInBounds_toArray, List.set_cons_zero, List.set_cons_succ])
          refine wpAnyH_done (by kernel_rfl) ?_ _
          obtain ⟨_, _, hqb, hqz⟩ := hHeld
          have HB2 := hidm (HB.out.then hqb)
          clear hqb hqz SS0 m1 m2 m3 hwk
          go_wp2_with fail
          go_roundw
          case rel => exact ⟨i + 1, _, by go_num, rfl, by omega, HP2, HPB2, HB2⟩
          case measure => simp [intOf]; omega
        · have HBT := hidm (show bitB x = 1 from by unfold bitB; rw [← HDD.out]; rfl)
          rw [HBT.out] at HPS
          obtain ⟨A1, hA1⟩ : ∃ A, S (tB x.nm) = A := ⟨_, rfl⟩
          obtain ⟨A2, hA2⟩ : ∃ A, S (uB kk) = A := ⟨_, rfl⟩
          obtain ⟨A3, hA3⟩ : ∃ A, S (uB 1) = A := ⟨_, rfl⟩
          have l1 : A1.size ≤ 100 := by rw [← hA1, S_size]; have := uB_ten x.nm.length (by have := HXL.out; omega); unfold tB; rw [List.length_append]; omega
          have l2 : A2.size ≤ 10 := by rw [← hA2, S_size]; exact uB_ten kk (by omega)
          have l3 : A3.size ≤ 10 := by rw [← hA3, S_size]; exact uB_ten 1 (by omega)
          have l0 := HPB.out
          have HA1 := hidm hA1
          have HA2 := hidm hA2
          have HA3 := hidm hA3
          have HP2 := hidm (show B ++ A1 ++ A2 ++ A3 = S (preB s (i + 1)) from by
            rw [HP.out, ← hA1, ← hA2, ← hA3, S_append, S_append, S_append, HPS.out]; simp)
          have HPB2 := hidm (show (B ++ A1 ++ A2 ++ A3).size ≤ 2000 from by rw [HP2.out, S_size]; have := HPL.out; omega)
          have m1 : ¬ 9223372036854775807 < B.size + A1.size := by omega
          have m2 : ¬ 9223372036854775807 < B.size + A1.size + A2.size := by omega
          have m3 : ¬ 9223372036854775807 < B.size + A1.size + A2.size + A3.size := by omega
          have hbA : Below wr.heap.size wr (wr.alloc (.cells #[.string (S x.nm), .int .i64 (kk : Int), .bool true] 81)) := (Below.refl _ _).alloc (Nat.le_refl _) _
          have SS0 := hidm (show (wr.alloc (.cells #[.string (S x.nm), .int .i64 (kk : Int), .bool true] 81)).cell? ⟨wr.heap.size, 0, none⟩ = some (.string (S x.nm)) ∧ (wr.alloc (.cells #[.string (S x.nm), .int .i64 (kk : Int), .bool true] 81)).cell? ⟨wr.heap.size, 1, none⟩ = some (.int .i64 (kk : Int)) ∧ Below wr.heap.size wr (wr.alloc (.cells #[.string (S x.nm), .int .i64 (kk : Int), .bool true] 81)) ∧ wr.heap.size ≤ (wr.alloc (.cells #[.string (S x.nm), .int .i64 (kk : Int), .bool true] 81)).heap.size from ⟨by simp [go_sem], by simp [go_sem], hbA, hbA.size⟩)
          have hwk : IntKind.u64.wrap (kk : Int) = kk := by simp only [IntKind.wrap_u64]; omega
          clear hA1 hA2 hA3 l0 l1 l2 l3 hxl hbA
          go_wp2_with fail
          refine wp_region_held_drew (S := fun u => u.cell? ⟨wr.heap.size, 0, none⟩ = some (.string (S x.nm)) ∧ u.cell? ⟨wr.heap.size, 1, none⟩ = some (.int .i64 (kk : Int)) ∧ Below wr.heap.size wr u ∧ wr.heap.size ≤ u.heap.size) (by kernel_rfl) ?_ (fun hHeld => ?_)
          · exact e11_step SS0.out ((Below.refl _ _).drew)
          refine Man.take1 (i := 0) (v := ?_) rfl (by kernel_rfl) (by kernel_rfl) (by kernel_rfl) (fun _ _ _ h => h) (by rfl) ?_ (by assumption) ?_
          rotate_left
          · (intro u hSu; (try dsimp only at hSu); go_simp; (try with_reducible rfl))
          (try simp only [Act.put, List.setIfInBounds_toArray, List.set_cons_zero, List.set_cons_succ])
          refine Man.take1 (i := 1) (v := ?_) rfl (by kernel_rfl) (by kernel_rfl) (by kernel_rfl) (fun _ _ _ h => h) (by rfl) ?_ (by assumption) ?_
          rotate_left
          · (intro u hSu; (try dsimp only at hSu); go_simp; (try with_reducible rfl))
          (try simp only [Act.put, List.setIfInBounds_toArray, List.set_cons_zero, List.set_cons_succ])
          refine Man.take1 (i := 2) (v := ?_) rfl (by kernel_rfl) (by kernel_rfl) (by kernel_rfl) (fun _ _ _ h => h) (by rfl) ?_ (by assumption) ?_
          rotate_left
          · (intro u hSu; (try dsimp only at hSu); go_simp; (try with_reducible rfl))
          (try simp only [Act.put, List.setIfInBounds_toArray, List.set_cons_zero, List.set_cons_succ])
          refine Man.take1 (i := 5) (v := ?_) rfl (by kernel_rfl) (by kernel_rfl) (by kernel_rfl) (fun _ _ _ h => h) (by rfl) ?_ (by assumption) ?_
          rotate_left
          · (intro u hSu; (try dsimp only at hSu); go_simp; (try with_reducible rfl))
          (try simp only [Act.put, List.setIfInBounds_toArray, List.set_cons_zero, List.set_cons_succ])
          refine Man.take1 (i := 6) (v := ?_) rfl (by kernel_rfl) (by kernel_rfl) (by kernel_rfl) (fun _ _ _ h => h) (by rfl) ?_ (by assumption) ?_
          rotate_left
          · (intro u hSu; (try dsimp only at hSu); go_simp; (try with_reducible rfl))
          (try simp only [Act.put, List.setIfInBounds_toArray, List.set_cons_zero, List.set_cons_succ])
          refine Man.take1 (i := 7) (v := ?_) rfl (by kernel_rfl) (by kernel_rfl) (by kernel_rfl) (fun _ _ _ h => h) (by rfl) ?_ (by assumption) ?_
          rotate_left
          · (intro u hSu; (try dsimp only at hSu); go_simp; (try with_reducible rfl))
          (try simp only [Act.put, List.setIfInBounds_toArray, List.set_cons_zero, List.set_cons_succ])
          refine Man.take1 (i := 10) (v := ?_) rfl (by kernel_rfl) (by kernel_rfl) (by kernel_rfl) (fun _ _ _ h => h) (by rfl) ?_ (by assumption) ?_
          rotate_left
          · (intro u hSu; (try dsimp only at hSu); go_simp; (try with_reducible rfl))
          (try simp only [Act.put, List.setIfInBounds_toArray, List.set_cons_zero, List.set_cons_succ])
          refine Man.one (i := 3) rfl (by kernel_rfl) (fun K hK => ?_)
          go_simp
          (go_at_call 35; (with_reducible refine (rtext_is HA1.out (by have := HXL.out; omega) _).mono ?_); rintro e w' ⟨rfl, hb⟩)
          refine hK.out _ _ ?_ (fun hNew => ?_)
          · exact e11_step hHeld hb
          clear hHeld hK K hb
          have hHeld := hNew
          clear hNew
          (try simp only [Act.put, List.setIfInBounds_toArray, List.set_cons_zero, List.set_cons_succ])
          refine Man.take1 (i := 4) (v := ?_) rfl (by kernel_rfl) (by kernel_rfl) (by kernel_rfl) (fun _ _ _ h => h) (by rfl) ?_ (by assumption) ?_
          rotate_left
          · (intro u hSu; (try dsimp only at hSu); go_simp; (try with_reducible rfl))
          (try simp only [Act.put, List.setIfInBounds_toArray, List.set_cons_zero, List.set_cons_succ])
          refine Man.one (i := 8) rfl (by kernel_rfl) (fun K hK => ?_)
          go_simp
          (go_at_call 34; (with_reducible refine (ruint_is HA2.out (by omega) _).mono ?_); rintro e w' ⟨rfl, hb⟩)
          refine hK.out _ _ ?_ (fun hNew => ?_)
          · exact e11_step hHeld hb
          clear hHeld hK K hb
          have hHeld := hNew
          clear hNew
          (try simp only [Act.put, List.setIfInBounds_toArray, List.set_cons_zero, List.set_cons_succ])
          refine Man.take1 (i := 9) (v := ?_) rfl (by kernel_rfl) (by kernel_rfl) (by kernel_rfl) (fun _ _ _ h => h) (by rfl) ?_ (by assumption) ?_
          rotate_left
          · (intro u hSu; (try dsimp only at hSu); go_simp; (try with_reducible rfl))
          (try simp only [Act.put, List.setIfInBounds_toArray, List.set_cons_zero, List.set_cons_succ])
          refine Man.one (i := 11) rfl (by kernel_rfl) (fun K hK => ?_)
          go_simp
          (go_at_call 34; (with_reducible refine (ruint_lit1 HA3.out _).mono ?_); rintro e w' ⟨rfl, hb⟩)
          refine hK.out _ _ ?_ (fun hNew => ?_)
          · exact e11_step hHeld hb
          clear hHeld hK K hb
          have hHeld := hNew
          clear hNew
          (try simp only [Act.put, List.setIfInBounds_toArray, List.set_cons_zero, List.set_cons_succ])
          refine Man.take1 (i := 12) (v := ?_) rfl (by kernel_rfl) (by kernel_rfl) (by kernel_rfl) (fun _ _ _ h => h) (by rfl) ?_ (by assumption) ?_
          rotate_left
          · (intro u hSu; (try dsimp only at hSu); go_simp; (try with_reducible rfl))
          (try simp only [Act.put, List.setIfInBounds_toArray, List.set_cons_zero, List.set_cons_succ])
          refine Man.take1 (i := 13) (v := ?_) rfl (by kernel_rfl) (by kernel_rfl) (by kernel_rfl) (fun _ _ _ h => h) (by rfl) ?_ (by assumption) ?_
          rotate_left
          · (intro u hSu; (try dsimp only at hSu); go_simp; (try with_reducible rfl))
          (try simp only [Act.put, List.setIfInBounds_toArray, List.set_cons_zero, List.set_cons_succ])
          refine wpAnyH_done (by kernel_rfl) ?_ _
          obtain ⟨_, _, hqb, hqz⟩ := hHeld
          have HB2 := hidm (HB.out.then hqb)
          clear hqb hqz SS0 m1 m2 m3 hwk
          go_wp2_with fail
          go_roundw
          case rel => exact ⟨i + 1, _, by go_num, rfl, by omega, HP2, HPB2, HB2⟩
          case measure => simp [intOf]; omega
      · have f1 : ¬ (i : Int) < n := by omega
        obtain rfl : i = n := by omega
        go_wp2_with fail
        go_ret
        refine ⟨congrArg (fun q => Ending.returned (.string q)) ?_, HB.out.below⟩
        rw [HP.out, HFF.out, HN.out, preB_end]
end Sch
end Go.Proofs.YtopmbhpjdmcabaaGreat
