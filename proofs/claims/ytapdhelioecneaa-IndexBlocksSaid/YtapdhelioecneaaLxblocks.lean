/- IndexBlocks: no block is empty, none has more than twice the width, no two neighbours together no more than the width, all have as many as there are: for all widths, all scripts of calls. No other condition. -/
import Derived.Test.YtapdhelioecneaaWy
import Derived.Test.YtapdhelioecneaaU11
import Derived.Test.YtapdhelioecneaaFra
import Derived.WideKeyPair
import Derived.SizedLaws
namespace Go.Proofs.Ytapdhelioecneaa
open Go.ChangeShapes Go.WideShapes Go.ChangeAt Go.RowKit
open Go.ChangeMaps (open_string shut_string)
namespace LaIndexBlocks
open Idx
theorem ops_one {l : List Opv} {ad : Addr} {n cap : Nat} {w : World} (h : OpsAt l (.slice (some ad) n cap) w) (i : Nat) (hi : i < l.length) : OpsAt [l[i]] (.slice (some ⟨ad.block, ad.off + i * 8, none⟩) 1 (cap - i)) w ∧ ad.spot = none := by
  obtain ⟨b, off, c2, he, hb, h0, h1, h2, h3, h4, h5, h6, h7⟩ := h.at i hi
  obtain ⟨ao, cc, he2, hc, hm, _⟩ := h
  simp only [Value.slice.injEq, Option.some.injEq] at he he2
  obtain ⟨rfl, rfl, rfl⟩ := he
  obtain ⟨_, _, rfl⟩ := he2
  refine ⟨⟨_, _, rfl, by simp only [List.length_singleton]; omega, by omega, fun _ => ⟨b, off + i * 8, rfl, hb, fun j hj => ?_⟩⟩, rfl⟩
  have hj8 : j < 8 := by simpa using hj
  match j, hj8 with
  | 0, _ => exact h0
  | 1, _ => exact h1
  | 2, _ => exact h2
  | 3, _ => exact h3
  | 4, _ => exact h4
  | 5, _ => exact h5
  | 6, _ => exact h6
  | 7, _ => exact h7
theorem ints_later {l : List Int} {v : Value} {w w' : World} (h : IntsAt l v w) (hb : Below w.heap.size w w') : IntsAt l v w' := by
  obtain ⟨ao, cap, h1, h2, h3, h4⟩ := h
  refine ⟨ao, cap, h1, h2, h3, ?_⟩
  rcases h4 with h4 | ⟨b, off, h5, h6, h7⟩
  · exact .inl h4
  · exact .inr ⟨b, off, h5, Nat.lt_of_lt_of_le h6 hb.size, fun j hj => by rw [hb.cell (p := ⟨b, off + j, none⟩) h6]; exact h7 j hj⟩
theorem ints_at {l : List Int} {v : Value} {w : World} (h : IntsAt l v w) (i : Nat) (hi : i < l.length) : ∃ b off cap, v = .slice (some ⟨b, off, none⟩) l.length cap ∧ ∀ (j : Nat) (hj : j < l.length), w.cell? ⟨b, off + j, none⟩ = some (.int .i64 l[j]) := by
  obtain ⟨ao, cap, rfl, h2, h3, h4⟩ := h
  rcases h4 with rfl | ⟨b, off, rfl, h6, h7⟩
  · cases hi
  · exact ⟨b, off, cap, rfl, h7⟩
/-- The sum of the first ones. -/
theorem sum_next {l : List Int} {i : Nat} (hi : i < l.length) : (l.take (i + 1)).sum = (l.take i).sum + l[i] := by
  rw [List.take_succ_eq_append_getElem hi, List.sum_append]; simp
theorem sum_le {l : List Int} (h : ∀ x, x ∈ l → 1 ≤ x) (i : Nat) : 0 ≤ (l.take i).sum ∧ (l.take i).sum ≤ l.sum := by
  have key : ∀ m : List Int, (∀ x, x ∈ m → 1 ≤ x) → 0 ≤ m.sum := by
    intro m
    induction m with
    | nil => intro _; simp
    | cons x m ih =>
      intro hx
      have h1 := hx x List.mem_cons_self
      have h2 := ih (fun y hy => hx y (List.mem_cons_of_mem _ hy))
      simp only [List.sum_cons]; omega
  have h1 := key (l.take i) (fun x hx => h x (List.mem_of_mem_take hx))
  have h2 := key (l.drop i) (fun x hx => h x (List.mem_of_mem_drop hx))
  have h3 : l.sum = (l.take i).sum + (l.drop i).sum := by rw [← List.sum_append, List.take_append_drop]
  omega
theorem fit_step {M : List It} {i : Nat} (h : Fit i M) {o : Opv} (ho : o.inn) : Fit (i + 1) (buildL M [o]) := h.step ho
set_option maxHeartbeats 8000000 in
set_option maxRecDepth 100000 in
theorem walk_blocks {PX : Nat → Int → (Nat → Prop) → List It → World → Prop} (K : Con PX) {l : List Opv} {sl : Value} {w : World} (b : Nat) (hb1 : b ≤ 255) (h : OpsAt l sl w) (hin : ∀ o ∈ l, o.inn) :
    Calls Try.prog 4 #[.int .u8 b, sl] w fun e w' => e = .returned (.bool true) ∧ Below w.heap.size w w' := by
  obtain ⟨so, sc, rfl, _, _⟩ := h.form
  have HA := hide h
  have HIN := hide hin
  obtain ⟨n, hn⟩ : ∃ n, n = l.length := ⟨_, rfl⟩
  rw [← hn]
  have HN := hide hn
  clear h hin hn
  go_enter Try.func4, Try.ntmps4
  go_wp2_with fail
  obtain ⟨m, hm⟩ : ∃ m : Int, m = 2 + (b : Int) % 99 := ⟨_, rfl⟩
  have hm2 : 2 ≤ m := by rw [hm]; omega
  have hm3 : m ≤ 100 := by rw [hm]; omega
  rw [← hm]
  clear hm
  have HNC := hide (show newC m = 0 from by unfold newC; rw [if_neg (by omega)])
  refine (K.new m _ HNC.out).mono ?_
  rintro e w1 ⟨R, F1, rfl, hp, hf, hb⟩
  have G1 := hide hf
  have B1 := hide hb
  have S1 := hide (show ∃ F M, PX R m F M w1 ∧ Fit 0 M ∧ To F1 F w1 w1 from ⟨F1, [], hp, fit_nil 0, .refl⟩)
  clear hp hf hb HNC
  go_wp2_with fail
  go_loopw [8] (fun ii wr => ∃ i : Nat, ii = .int .i64 i ∧ i ≤ n ∧ i ≤ 120 ∧ Hid (∃ F M, PX R m F M wr ∧ Fit i M ∧ To F1 F w1 wr)) (fun ii _ => (n - (intOf ii).toNat))
  case atStart => exact ⟨0, rfl, by omega, by omega, S1⟩
  case round =>
    clear S1
    rename World => wr
    obtain ⟨i, rfl, hi, hi2, HS⟩ := hrel
    rcases Nat.lt_or_ge i n with hlt | hge
    · have g1 : (i : Int) < (n : Int) := by omega
      rcases Nat.lt_or_ge i 120 with hlt2 | hge2
      · have g2 : (i : Int) < 120 := by omega
        obtain ⟨F, M, hp, hft, ht⟩ := HS.out
        have HP := hide hp
        have HFT := hide hft
        have HT := hide ht
        clear hp hft ht HS
        have hil : i < l.length := by rw [← HN.out]; exact hlt
        obtain ⟨b0, off, cap, he, -⟩ := HA.out.at i hil
        rw [← HN.out] at he
        simp only [Value.slice.injEq] at he
        obtain ⟨rfl, -, rfl⟩ := he
        have HO := hide (ops_one HA.out i hil).1
        have HOI := hide (HIN.out _ (List.getElem_mem hil))
        obtain ⟨o, ho⟩ : ∃ o, o = l[i] := ⟨_, rfl⟩
        rw [← ho] at HO HOI
        have hcap : (n : Int) ≤ (sc : Int) ∧ (sc : Int) ≤ 9223372036854775807 := by
          obtain ⟨ao, cc, he2, hc, hm9, _⟩ := HA.out
          simp only [Value.slice.injEq] at he2
          obtain ⟨_, _, rfl⟩ := he2
          have := HN.out
          omega
        clear ho
        go_wp2_with fail
        refine (build_any K HO.out (fun o9 h9 => by rw [List.mem_singleton] at h9; rw [h9]; exact HOI.out) (B1.out.trans (HT.out.1.below G1.out B1.out.size)) HP.out (fun k hk => (HT.out.2.2 k hk).elim (fun e9 => G1.out k e9) (fun e9 => Nat.le_trans B1.out.size e9.1)) (HFT.out.mono (by omega))).mono ?_
        rintro e w4 ⟨rfl, F', hp, ht⟩
        have HP4 := hide hp
        have HT4 := hide (HT.out.trans ht)
        have HF4 := hide (fit_step HFT.out HOI.out)
        clear hp ht HP HT HFT HO HOI
        obtain ⟨M', hM'⟩ : ∃ M', M' = buildL M [o] := ⟨_, rfl⟩
        rw [← hM'] at HP4 HF4
        clear hM'
        have HF8 := hide (HF4.out.mono (show i + 1 ≤ 998 by omega))
        go_wp2_with fail
        refine (K.blocks HP4.out HF8.out).mono ?_
        rintro e w5 ⟨v, lb, rfl, hv, hlb, hb⟩
        have HP5 := hide (K.later HP4.out hb (Nat.le_refl _))
        have HT5 := hide (HT4.out.trans (.below hb))
        have HV := hide hv
        have HLB := hide hlb
        obtain ⟨vo, vc, rfl, -, -, -⟩ := hv
        obtain ⟨z, hz⟩ : ∃ z, z = lb.length := ⟨_, rfl⟩
        rw [← hz] at HV ⊢
        have HZ := hide hz
        have hz9 : z ≤ 998 := by rw [hz]; exact Nat.le_trans hlb.short HF8.out.n
        clear hlb hb hz HP4 HT4
        go_wp2_with fail
        go_loopw [10, 11] (fun nn kk u => ∃ (k : Nat) (s : Int), kk = .int .i64 k ∧ k ≤ z ∧ nn = .int .i64 s ∧ 0 ≤ s ∧ s ≤ 998 ∧ Hid (s = (lb.take k).sum) ∧ Hid (Below w5.heap.size w5 u)) (fun _ kk _ => (z - (intOf kk).toNat))
        case atStart => exact ⟨0, 0, rfl, by omega, rfl, by omega, by omega, hide rfl, hide (Below.refl _ _)⟩
        case round =>
          rename World => u0
          obtain ⟨k, s, rfl, hk, rfl, hs0, hs1, HSM, HB⟩ := hrel
          rcases Nat.lt_or_ge k z with hkz | hkz
          · have g3 : (k : Int) < (z : Int) := by omega
            have hkl : k < lb.length := by rw [← HZ.out]; exact hkz
            have hvu := ints_later HV.out HB.out
            rw [HZ.out] at hvu
            obtain ⟨v0, vf, vcap, he, hcell⟩ := ints_at hvu k hkl
            rw [← HZ.out] at he
            simp only [Value.slice.injEq, true_and] at he
            obtain ⟨rfl, rfl⟩ := he
            have k0 := hcell k hkl
            have HCELL := hide hcell
            have hx1 := (HLB.out.one _ (List.getElem_mem hkl)).1
            have hx2 := (HLB.out.one _ (List.getElem_mem hkl)).2
            have HSN := hide (sum_next hkl)
            have hsu : s + lb[k] ≤ 998 := by
              have h1 := (sum_le (fun x hx => (HLB.out.one x hx).1) (k + 1)).2
              rw [HSN.out, HLB.out.sum, ← HSM.out] at h1
              have := HF8.out.n
              omega
            have HTWO := hide (fun (j : Nat) (hj : j + 1 = k) => (by subst hj; exact HLB.out.two j hkl : m < (lb[j]'(by omega)) + lb[k]))
            obtain ⟨x, hx⟩ : ∃ x, x = lb[k] := ⟨_, rfl⟩
            rw [← hx] at k0 hx1 hx2 HSN hsu
            have HTW := hide (fun (j : Nat) (hj : j + 1 = k) => (by have h9 := HTWO.out j hj; rw [← hx] at h9; exact h9 : m < (lb[j]'(by omega)) + x))
            have HS2 := hide (show s + x = (lb.take (k + 1)).sum from by rw [HSN.out, ← HSM.out])
            clear hx hvu hcell HTWO HSN
            obtain ⟨ud, hud⟩ : ∃ ud, ud = u0.drew := ⟨_, rfl⟩
            have HUD := hide hud
            have HB2 := hide (show Below w5.heap.size w5 ud from by rw [hud]; exact HB.out.drew)
            have k1 : ud.cell? ⟨v0, vf + k, none⟩ = some (.int .i64 x) := by rw [hud]; exact k0
            clear hud
            by_cases hk0 : 0 < k
            · obtain ⟨j, hj⟩ : ∃ j, k = j + 1 := ⟨k - 1, by omega⟩
              have gj : (k : Int) - 1 = (j : Int) := by omega
              have gjn : (j : Int) < (z : Int) := by omega
              have wj : IntKind.i64.wrap (j : Int) = (j : Int) := by simp only [IntKind.wrap_i64]; omega
              have hjl : j < lb.length := by omega
              have y0 := HCELL.out j hjl
              have hxy := HTW.out j hj.symm
              have hy1 := (HLB.out.one _ (List.getElem_mem hjl)).1
              have hy2 := (HLB.out.one _ (List.getElem_mem hjl)).2
              obtain ⟨y, hy⟩ : ∃ y, y = lb[j] := ⟨_, rfl⟩
              rw [← hy] at y0 hxy hy1 hy2
              have HXY := hide hxy
              clear hy hj hjl hxy
              go_wp2_with fail
              have g4 : ¬ x < 1 := by omega
              have g5 : ¬ 2 * m < x := by omega
              have w2m : IntKind.i64.wrap (2 * m) = 2 * m := by simp only [IntKind.wrap_i64]; omega
              have g5d : decide (2 * m < x) = false := decide_eq_false g5
              have g4d : decide (x < 1) = false := decide_eq_false g4
              have g6 : ¬ y + x ≤ m := by have := HXY.out; omega
              have wyx : IntKind.i64.wrap (y + x) = y + x := by simp only [IntKind.wrap_i64]; omega
              have y1 : ud.cell? ⟨v0, vf + j, none⟩ = some (.int .i64 y) := by rw [HUD.out]; exact y0
              refine wp_region_held_drew (S := fun u => u.cell? ⟨v0, vf + k, none⟩ = some (.int .i64 x) ∧ u.cell? ⟨v0, vf + j, none⟩ = some (.int .i64 y)) (by kernel_rfl) (by rw [← HUD.out]; exact ⟨k1, y1⟩) (fun hHeld => ?_)
              rw [← HUD.out] at hHeld ⊢
              refine Man.t1 0 hHeld ?_
              (try simp only [Act.put, Mqa, Mqb, Mqc])
              refine Man.t1 1 hHeld ?_
              (try simp only [Act.put, Mqa, Mqb, Mqc])
              refine Man.t1 2 hHeld ?_
              (try simp only [Act.put, Mqa, Mqb, Mqc])
              refine Man.t1 3 hHeld ?_
              (try simp only [Act.put, Mqa, Mqb, Mqc])
              refine Man.t1 4 hHeld ?_
              (try simp only [Act.put, Mqa, Mqb, Mqc])
              refine Man.t1 5 hHeld ?_
              (try simp only [Act.put, Mqa, Mqb, Mqc])
              refine Man.t1 6 hHeld ?_
              (try simp only [Act.put, Mqa, Mqb, Mqc])
              refine Man.t1 7 hHeld ?_
              (try simp only [Act.put, Mqa, Mqb, Mqc])
              refine Man.t1 8 hHeld ?_
              (try simp only [Act.put, Mqa, Mqb, Mqc])
              refine Man.t1 9 hHeld ?_
              (try simp only [Act.put, Mqa, Mqb, Mqc])
              refine Man.t1 10 hHeld ?_
              (try simp only [Act.put, Mqa, Mqb, Mqc])
              refine Man.t1 11 hHeld ?_
              (try simp only [Act.put, Mqa, Mqb, Mqc])
              refine Man.t1 12 hHeld ?_
              (try simp only [Act.put, Mqa, Mqb, Mqc])
              refine Man.t1 13 hHeld ?_
              (try simp only [Act.put, Mqa, Mqb, Mqc])
              refine Man.t1 14 hHeld ?_
              (try simp only [Act.put, Mqa, Mqb, Mqc])
              refine Man.t1 15 hHeld ?_
              (try simp only [Act.put, Mqa, Mqb, Mqc])
              refine Man.t1 16 hHeld ?_
              (try simp only [Act.put, Mqa, Mqb, Mqc])
              refine Man.t1 17 hHeld ?_
              (try simp only [Act.put, Mqa, Mqb, Mqc])
              refine Man.t1 18 hHeld ?_
              (try simp only [Act.put, Mqa, Mqb, Mqc])
              refine Man.t1 19 hHeld ?_
              (try simp only [Act.put, Mqa, Mqb, Mqc])
              refine Man.t1 20 hHeld ?_
              (try simp only [Act.put, Mqa, Mqb, Mqc])
              refine Man.t1 21 hHeld ?_
              (try simp only [Act.put, Mqa, Mqb, Mqc])
              refine Man.t1 22 hHeld ?_
              (try simp only [Act.put, Mqa, Mqb, Mqc])
              refine Man.t1 23 hHeld ?_
              (try simp only [Act.put, Mqa, Mqb, Mqc])
              refine Man.t1 24 hHeld ?_
              (try simp only [Act.put, Mqa, Mqb, Mqc])
              refine Man.t1 25 hHeld ?_
              (try simp only [Act.put, Mqa, Mqb, Mqc])
              refine Man.t1 26 hHeld ?_
              (try simp only [Act.put, Mqa, Mqb, Mqc])
              refine Man.t1 27 hHeld ?_
              (try simp only [Act.put, Mqa, Mqb, Mqc])
              refine Man.t1 28 hHeld ?_
              (try simp only [Act.put, Mqa, Mqb, Mqc])
              refine Man.t1 29 hHeld ?_
              (try simp only [Act.put, Mqa, Mqb, Mqc])
              refine Man.t1 30 hHeld ?_
              (try simp only [Act.put, Mqa, Mqb, Mqc])
              refine Man.t1 31 hHeld ?_
              (try simp only [Act.put, Mqa, Mqb, Mqc])
              refine wpAnyH_done (by kernel_rfl) ?_ _
              go_wp2_with fail
              go_roundw
              case rel => exact ⟨k + 1, s + x, by go_num, by omega, rfl, by omega, hsu, HS2, HB2⟩
              case measure => simp [intOf]; omega
            · go_wp2_with fail
              have g4 : ¬ x < 1 := by omega
              have g5 : ¬ 2 * m < x := by omega
              have w2m : IntKind.i64.wrap (2 * m) = 2 * m := by simp only [IntKind.wrap_i64]; omega
              have g5d : decide (2 * m < x) = false := decide_eq_false g5
              have g4d : decide (x < 1) = false := decide_eq_false g4
              refine wp_region_held_drew (S := fun u => u.cell? ⟨v0, vf + k, none⟩ = some (.int .i64 x)) (by kernel_rfl) (by rw [← HUD.out]; exact k1) (fun hHeld => ?_)
              rw [← HUD.out] at hHeld ⊢
              refine Man.t1 0 hHeld ?_
              (try simp only [Act.put, Mqa, Mqb, Mqc])
              refine Man.t1 1 hHeld ?_
              (try simp only [Act.put, Mqa, Mqb, Mqc])
              refine Man.t1 2 hHeld ?_
              (try simp only [Act.put, Mqa, Mqb, Mqc])
              refine Man.t1 3 hHeld ?_
              (try simp only [Act.put, Mqa, Mqb, Mqc])
              refine Man.t1 4 hHeld ?_
              (try simp only [Act.put, Mqa, Mqb, Mqc])
              refine Man.t1 5 hHeld ?_
              (try simp only [Act.put, Mqa, Mqb, Mqc])
              refine Man.t1 6 hHeld ?_
              (try simp only [Act.put, Mqa, Mqb, Mqc])
              refine Man.t1 7 hHeld ?_
              (try simp only [Act.put, Mqa, Mqb, Mqc])
              refine Man.t1 8 hHeld ?_
              (try simp only [Act.put, Mqa, Mqb, Mqc])
              refine Man.t1 9 hHeld ?_
              (try simp only [Act.put, Mqa, Mqb, Mqc])
              refine Man.t1 10 hHeld ?_
              (try simp only [Act.put, Mqa, Mqb, Mqc])
              refine Man.t1 11 hHeld ?_
              (try simp only [Act.put, Mqa, Mqb, Mqc])
              refine Man.t1 12 hHeld ?_
              (try simp only [Act.put, Mqa, Mqb, Mqc])
              refine Man.t1 13 hHeld ?_
              (try simp only [Act.put, Mqa, Mqb, Mqc])
              refine Man.t1 14 hHeld ?_
              (try simp only [Act.put, Mqa, Mqb, Mqc])
              refine Man.t1 15 hHeld ?_
              (try simp only [Act.put, Mqa, Mqb, Mqc])
              refine Man.t1 16 hHeld ?_
              (try simp only [Act.put, Mqa, Mqb, Mqc])
              refine Man.t1 17 hHeld ?_
              (try simp only [Act.put, Mqa, Mqb, Mqc])
              refine Man.take0 (i := 18) rfl (by kernel_rfl) (by kernel_rfl) (by kernel_rfl) (fun _ _ _ h => h) (by rfl) hHeld ?_
              (try simp only [Act.put, Mqa, Mqb, Mqc])
              refine Man.take0 (i := 19) rfl (by kernel_rfl) (by kernel_rfl) (by kernel_rfl) (fun _ _ _ h => h) (by rfl) hHeld ?_
              (try simp only [Act.put, Mqa, Mqb, Mqc])
              refine Man.take0 (i := 20) rfl (by kernel_rfl) (by kernel_rfl) (by kernel_rfl) (fun _ _ _ h => h) (by rfl) hHeld ?_
              (try simp only [Act.put, Mqa, Mqb, Mqc])
              refine Man.take0 (i := 21) rfl (by kernel_rfl) (by kernel_rfl) (by kernel_rfl) (fun _ _ _ h => h) (by rfl) hHeld ?_
              (try simp only [Act.put, Mqa, Mqb, Mqc])
              refine Man.take0 (i := 22) rfl (by kernel_rfl) (by kernel_rfl) (by kernel_rfl) (fun _ _ _ h => h) (by rfl) hHeld ?_
              (try simp only [Act.put, Mqa, Mqb, Mqc])
              refine Man.take0 (i := 23) rfl (by kernel_rfl) (by kernel_rfl) (by kernel_rfl) (fun _ _ _ h => h) (by rfl) hHeld ?_
              (try simp only [Act.put, Mqa, Mqb, Mqc])
              refine Man.take0 (i := 24) rfl (by kernel_rfl) (by kernel_rfl) (by kernel_rfl) (fun _ _ _ h => h) (by rfl) hHeld ?_
              (try simp only [Act.put, Mqa, Mqb, Mqc])
              refine Man.take0 (i := 25) rfl (by kernel_rfl) (by kernel_rfl) (by kernel_rfl) (fun _ _ _ h => h) (by rfl) hHeld ?_
              (try simp only [Act.put, Mqa, Mqb, Mqc])
              refine Man.take0 (i := 26) rfl (by kernel_rfl) (by kernel_rfl) (by kernel_rfl) (fun _ _ _ h => h) (by rfl) hHeld ?_
              (try simp only [Act.put, Mqa, Mqb, Mqc])
              refine Man.take0 (i := 27) rfl (by kernel_rfl) (by kernel_rfl) (by kernel_rfl) (fun _ _ _ h => h) (by rfl) hHeld ?_
              (try simp only [Act.put, Mqa, Mqb, Mqc])
              refine Man.take0 (i := 28) rfl (by kernel_rfl) (by kernel_rfl) (by kernel_rfl) (fun _ _ _ h => h) (by rfl) hHeld ?_
              (try simp only [Act.put, Mqa, Mqb, Mqc])
              refine Man.take0 (i := 29) rfl (by kernel_rfl) (by kernel_rfl) (by kernel_rfl) (fun _ _ _ h => h) (by rfl) hHeld ?_
              (try simp only [Act.put, Mqa, Mqb, Mqc])
              refine Man.t1 30 hHeld ?_
              (try simp only [Act.put, Mqa, Mqb, Mqc])
              refine Man.t1 31 hHeld ?_
              (try simp only [Act.put, Mqa, Mqb, Mqc])
              refine wpAnyH_done (by kernel_rfl) ?_ _
              go_wp2_with fail
              go_roundw
              case rel => exact ⟨k + 1, s + x, by go_num, by omega, rfl, by omega, hsu, HS2, HB2⟩
              case measure => simp [intOf]; omega
          · obtain rfl : k = z := by omega
            have g3 : ¬ (k : Int) < (k : Int) := by omega
            go_wp2_with fail
            refine (K.len (K.later HP5.out HB.out (Nat.le_refl _)) HF8.out).mono ?_
            rintro e w7 ⟨rfl, hb⟩
            have hse : s = (M'.length : Int) := by
              rw [HSM.out, HZ.out, List.take_length, HLB.out.sum]
            have B7 := hide (HB.out.trans (hb.mono HB.out.size))
            clear hb HB
            obtain ⟨ln, hln⟩ : ∃ ln, ln = M'.length := ⟨_, rfl⟩
            rw [← hln] at hse ⊢
            clear hln HSM
            subst hse
            go_wp2_with fail
            go_roundw
            case rel => exact ⟨i + 1, by go_num, by omega, by omega, hide ⟨F', M', K.later HP5.out B7.out (Nat.le_refl _), HF4.out, HT5.out.trans (.below B7.out)⟩⟩
            case measure => simp [intOf]; omega
      · have g2 : ¬ (i : Int) < 120 := by omega
        obtain ⟨F, M, hp, hft, ht⟩ := HS.out
        have HBW := hide (B1.out.trans (ht.1.below G1.out B1.out.size))
        clear hp hft ht
        go_wp2_with fail
        refine (known_any K _).mono ?_
        rintro e w9 ⟨rfl, hb⟩
        have B9 := hide (HBW.out.trans (hb.mono HBW.out.size))
        clear hb
        go_wp2_with fail
        go_ret
        exact ⟨rfl, B9.out⟩
    · obtain rfl : i = n := by omega
      have g1 : ¬ (i : Int) < (i : Int) := by omega
      obtain ⟨F, M, hp, hft, ht⟩ := HS.out
      have HBW := hide (B1.out.trans (ht.1.below G1.out B1.out.size))
      clear hp hft ht
      go_wp2_with fail
      refine (known_any K _).mono ?_
      rintro e w9 ⟨rfl, hb⟩
      have B9 := hide (HBW.out.trans (hb.mono HBW.out.size))
      clear hb
      go_wp2_with fail
      go_ret
      exact ⟨rfl, B9.out⟩
theorem laidOut : laidOutB Try.prog = true := by kernel_rfl
set_option maxRecDepth 100000 in
theorem contract (H : Type) (enc : TypeId × Value → H) (W : World) (base : Nat) (args : Array Value) (ds gs : List (DataW H)) (before : List MemPlace)
    (hval : ∀ (j : Nat) t v, Try.f4.params[j]? = some t → args[j]? = some v → Value.okWide Try.prog W .any base t v)
    (hW : DataW.Whole enc Try.prog Try.f4.params.toList Rows.indexBlocksSpec.vars false W args.toList ds gs before)
    (hsz0 : (DataW.weightsEach Try.prog (Try.f4.params.toList ++ Rows.indexBlocksSpec.plain.varTypes Try.prog) (ds ++ gs)).all (· ≤ reachBytes) = true) :
    Calls Try.prog 4 args W fun e W' => ∃ v, e = .returned v ∧ Rows.indexBlocksSpec.post enc Try.prog Try.f4 false true false false W args v W' := by
  have hW' := hW
  obtain ⟨p, q, hA0, hV, rfl, hfz, hnd⟩ := hW
  have hA : DataW.TrodAll enc Try.prog W 0 (fun _ => true) true Try.f4.params.toList args.toList ds p := hA0
  rw [Try.params4] at hA hval hsz0
  obtain ⟨v0, vs0, d0, ds0, p0, q0, hargs, rfl, rfl, h0, r0⟩ := trodAll_cons hA
  obtain ⟨v1, vs1, d1, ds1, p1, q1, rfl, rfl, rfl, h1, r1⟩ := trodAll_cons r0
  obtain ⟨rfl, rfl, rfl⟩ := trodAll_nil r1
  obtain rfl : args = #[v0, v1] := by cases args; simp_all
  obtain ⟨rfl, rfl⟩ := trodVars_none hV
  have hsz := fun n hn => of_decide_eq_true (List.all_eq_true.1 hsz0 n hn)
  obtain ⟨b, rfl, hd0, hp0, wb⟩ := open_int Try.underlying5 (hval 0 5 v0 rfl rfl) h0
  have bb := bounds_u8 wb
  obtain ⟨b, rfl⟩ := Int.eq_ofNat_of_zero_le bb.1
  obtain ⟨l, hml, hil⟩ := Idx.open_ops (hval 1 22 v1 rfl rfl) h1 (fun n hn => hsz n (DataW.weights_mem_each (j := 1) (t := 22) rfl rfl n hn))
  clear hA0 hsz0
  simp only [List.append_nil] at hW'
  have hlt : ∀ x ∈ p0 ++ p1, x.block < W.heap.size := fun x hx => hW'.lt x (by simpa using hx)
  have walk := walk_blocks con_px b (by omega) hml hil
  refine walk.mono fun e W' ⟨he, hg⟩ => ?_
  subst he
  refine ⟨_, rfl, Fr.post_made (pa := p0 ++ p1) (pv := []) hW' (fun _ _ _ => trodAll_cons_mk (shut_bool Try.underlying4 _) trodAll_mk0) (fun sp hsp => ?_) (fun _ _ => rfl) (by simp) hg (ok_one (by kernel_rfl) rfl (okWide_bool_mk Try.underlying4 _))⟩
  have g0 : DataW.Trod enc Try.prog W' 0 sp true 5 _ d0 p0 := WideElems.Trod_stays laidOut (by kernel_rfl) (of_decide_eq_true (by kernel_rfl)) h0 (fun x hx => hg.same (hlt x (by simp [hx]))) (fun x hx => hsp x (by simp [hx]))
  have g1 : DataW.Trod enc Try.prog W' 0 sp true 22 _ d1 p1 := WideElems.Trod_stays laidOut (by kernel_rfl) (of_decide_eq_true (by kernel_rfl)) h1 (fun x hx => hg.same (hlt x (by simp [hx]))) (fun x hx => hsp x (by simp [hx]))
  have hT := (trodAll_cons_mk g0 (trodAll_cons_mk g1 trodAll_mk0))
  simp only [List.append_nil] at hT
  exact hT
set_option maxRecDepth 100000 in
theorem lifted (os : Os) (started : os.Started) (H : Type) (enc : TypeId × Value → H) :
    ReturnsInHanded {} Try.checked os 4 .any (Rows.indexBlocksSpec.pre6 enc Try.prog Try.f4 Rows.indexBlocksRow.domain false) (Rows.indexBlocksSpec.post enc Try.prog Try.f4 false true false false) := by
  refine returnsInHanded_of_change_sized (C := Try.checked) Fr.own started (by kernel_rfl) Try.func4
    (ChangeSpec.witness6 (enc := enc) (C := Try.checked) false ⟨#[], #[.int .u8 0, .slice none 0 0], []⟩ 8 (by kernel_rfl) (by kernel_rfl) (by kernel_rfl) (by kernel_rfl)) ?_
  intro W base args ds gs before hval hW _ hsz _
  exact contract H enc W base args ds gs before hval hW hsz
theorem said : Rows.IndexBlocksSaid :=
  OpenClaim.holds_of_wide 4 Try.f4 rfl rfl rfl rfl rfl rfl rfl ⟨rfl, rfl, rfl, rfl, rfl⟩ rfl rfl rfl rfl rfl (by kernel_rfl) Try.func4 (by kernel_rfl)
    (of_decide_eq_true (by kernel_rfl)) (by unfold Func.isWrapper; first | (rw [if_pos (by decide +kernel)]; kernel_rfl) | (rw [if_neg (by decide +kernel)]; exact ⟨rfl, rfl⟩))
    (fun os started H enc _ => lifted os started H enc)
end LaIndexBlocks
end Go.Proofs.Ytapdhelioecneaa
