/- The program's search in halves, among. Condition: no more than a million values a row, a thousand pieces. -/
import Derived.Test.YtoacombaddknfaaR5
namespace Go.Proofs.Ytoacombaddknfaa
open Go.RowKit
namespace Prd
open Spn (Sp hide At below_alloc Right)
open Cod (V RowAt S)
theorem cmp_neg (x y : Int) : Lib.compareInt x y < 0 ↔ x < y := by unfold Lib.compareInt; repeat' split <;> omega
theorem cmp_zero (x y : Int) : Lib.compareInt x y = 0 ↔ x = y := by unfold Lib.compareInt; repeat' split <;> omega
set_option maxHeartbeats 1000000 in
theorem amongq_any (x : Pm) (t : Int) (w : World) :
    Calls Try.prog 71 #[.agg #[.int .i64 x.s.1, .int .i64 x.s.2, .slice x.ro x.r.length x.rc], .int .i64 t] w fun e w' => e = .returned (.int .i64 (Lib.compareInt x.s.1 t)) ∧ Below w.heap.size w w' := by
  have HB := hide (below_alloc w (.cells #[.int .i64 x.s.1, .int .i64 x.s.2, .slice x.ro x.r.length x.rc] 56))
  have C1 := hide (fun w => Try.cmp_Compare_int x.s.1 t w)
  obtain ⟨c, hc⟩ : ∃ c, c = Lib.compareInt x.s.1 t := ⟨_, rfl⟩
  rw [← hc] at C1 ⊢
  clear hc
  go_enter Try.func71, Try.ntmps71
  go_wp2_with fail
  refine (C1.out _).mono ?_
  rintro e w1 ⟨rfl, rfl⟩
  go_wp2_with fail
  go_ret
  exact ⟨rfl, HB.out⟩
theorem amongq_is {x : Pm} {t c : Int} (h : Lib.compareInt x.s.1 t = c) (w : World) :
    Calls Try.prog 71 #[.agg #[.int .i64 x.s.1, .int .i64 x.s.2, .slice x.ro x.r.length x.rc], .int .i64 t] w fun e w' => e = .returned (.int .i64 c) ∧ Below w.heap.size w w' := h ▸ amongq_any x t w
/-- At place i stands one that begins at t. -/
def FoundAt (l : List Pm) (t : Int) (i : Nat) : Prop := ∃ hi : i < l.length, (l[i]).s.1 = t
/-- What the search comes to. -/
def SearchP (l : List Pm) (t : Int) (w : World) (e : Ending) (w' : World) : Prop := ∃ (i : Nat) (b : Bool), e = .returned (.tuple #[.int .i64 i, .bool b]) ∧ (b = true → FoundAt l t i) ∧ (b = false → ∀ x, x ∈ l → x.s.1 ≠ t) ∧ Below w.heap.size w w'
set_option maxHeartbeats 8000000 in
set_option maxRecDepth 100000 in
theorem bsearch_any {l : List Pm} {sl : Value} {w : World} (t : Int) (h : PcsAt l sl w) (hs : Small l) (hup : ∀ (i j : Nat) (hi : i < l.length) (hj : j < l.length), i ≤ j → (l[i]).s.1 ≤ (l[j]).s.1) :
    Calls Try.prog 70 #[sl, .int .i64 t, .func (.func 71) #[] #[]] w fun e w' => SearchP l t w e w' := by
  obtain ⟨so, sc, rfl, _, _⟩ := h.form
  have HA := hide h
  obtain ⟨n, hn⟩ : ∃ n, n = l.length := ⟨_, rfl⟩
  have hl : n ≤ 1000 := by rw [hn]; exact hs.n
  rw [← hn]
  have HN := hide hn
  have HU := hide hup
  clear h hn hs hup
  go_enter Try.func70, Try.ntmps70
  go_wp2_with fail
  go_loopw [9, 10] (fun iv jv wr => ∃ i j : Nat, iv = .int .i64 i ∧ jv = .int .i64 j ∧ i ≤ j ∧ j ≤ n ∧ Hid (∀ (q : Nat) (hq : q < l.length), q < i → (l[q]).s.1 < t) ∧ Hid (∀ (q : Nat) (hq : q < l.length), j ≤ q → t ≤ (l[q]).s.1) ∧ Hid (Below w.heap.size w wr)) (fun iv jv _ => (intOf jv).toNat - (intOf iv).toNat)
  case atStart => exact ⟨0, n, rfl, rfl, by omega, by omega, hide (fun q _ h0 => by omega), hide (fun q hq h0 => by have := HN.out; omega), hide (Below.refl _ _)⟩
  case round =>
    rename World => wr
    obtain ⟨i, j, rfl, rfl, hij, hj, HL, HG, HB⟩ := hrel
    rcases Nat.lt_or_ge i j with hlt | hge
    · have g1 : (i : Int) < (j : Int) := by omega
      obtain ⟨s, hsd⟩ : ∃ s, s = i + j := ⟨_, rfl⟩
      obtain ⟨q, hq⟩ : ∃ q, q = s / 2 := ⟨_, rfl⟩
      have e1 : (i : Int) + (j : Int) = (s : Int) := by omega
      have e2 : (s : Int) / 2 = (q : Int) := by omega
      have e3 : IntKind.i64.wrap (s : Int) = (s : Int) := by simp only [IntKind.wrap_i64]; omega
      have e4 : IntKind.u64.wrap (s : Int) = (s : Int) := by simp only [IntKind.wrap_u64]; omega
      have e5 : IntKind.i64.wrap (q : Int) = (q : Int) := by simp only [IntKind.wrap_i64]; omega
      have hqi : i ≤ q := by omega
      have hqj : q < j := by omega
      have hql : q < l.length := by rw [← HN.out]; omega
      have g2 : (q : Int) < (n : Int) := by omega
      have HSD := hide hsd
      have HQ := hide hq
      obtain ⟨b0, off, cap, he, hbw, k0, k1, k2⟩ := (HA.out.later HB.out (Nat.le_refl _)).at q hql
      rw [← HN.out] at he
      simp only [Value.slice.injEq] at he
      obtain ⟨rfl, _, rfl⟩ := he
      have HLX := hide (show (l[q]).s.1 < t → ∀ (z : Nat) (hz : z < l.length), z < q + 1 → (l[z]).s.1 < t from fun h9 z hz hzq => by have := HU.out z q hz hql (by omega); omega)
      have HGX := hide (show t ≤ (l[q]).s.1 → ∀ (z : Nat) (hz : z < l.length), q ≤ z → t ≤ (l[z]).s.1 from fun h9 z hz hzq => by have := HU.out q z hql hz hzq; omega)
      obtain ⟨x, hx⟩ : ∃ x, x = l[q] := ⟨_, rfl⟩
      rw [← hx] at k0 k1 k2 HLX HGX
      obtain ⟨c, hc⟩ : ∃ c, Lib.compareInt x.s.1 t = c := ⟨_, rfl⟩
      have HC := hide hc
      clear hsd hq hx
      by_cases hcn : c < 0
      · have HL2 := hide (HLX.out (by rw [← hc] at hcn; exact (cmp_neg _ _).1 hcn))
        clear hc
        go_wp2_with (go_at_call 71; refine (amongq_is HC.out _).mono ?_; rintro e w1 ⟨rfl, hb1⟩)
        have HB2 := hide (HB.out.trans (hb1.mono HB.out.size))
        clear hb1
        go_wp2_with fail
        go_roundw
        case rel => exact ⟨q + 1, j, by go_num, rfl, by omega, by omega, HL2, HG, HB2⟩
        case measure => simp [intOf]; omega
      · have HG2 := hide (HGX.out (by rw [← hc, cmp_neg] at hcn; omega))
        clear hc
        go_wp2_with (go_at_call 71; refine (amongq_is HC.out _).mono ?_; rintro e w1 ⟨rfl, hb1⟩)
        have HB2 := hide (HB.out.trans (hb1.mono HB.out.size))
        clear hb1
        go_wp2_with fail
        go_roundw
        case rel => exact ⟨i, q, rfl, by go_num, by omega, by omega, HL, HG2, HB2⟩
        case measure => simp [intOf]; omega
    · obtain rfl : i = j := by omega
      have g1 : ¬ (i : Int) < (i : Int) := by omega
      rcases Nat.lt_or_ge i n with hin | hin
      · have g2 : (i : Int) < (n : Int) := by omega
        have hil : i < l.length := by rw [← HN.out]; exact hin
        obtain ⟨b0, off, cap, he, hbw, k0, k1, k2⟩ := (HA.out.later HB.out (Nat.le_refl _)).at i hil
        rw [← HN.out] at he
        simp only [Value.slice.injEq] at he
        obtain ⟨rfl, _, rfl⟩ := he
        have HYES := hide (show (l[i]).s.1 = t → FoundAt l t i from fun h9 => ⟨hil, h9⟩)
        have HNO := hide (show (l[i]).s.1 ≠ t → ∀ x, x ∈ l → x.s.1 ≠ t from fun h9 x hx => by
          obtain ⟨z, hz, rfl⟩ := List.getElem_of_mem hx
          rcases Nat.lt_trichotomy z i with h8 | h8 | h8
          · have := HL.out z hz h8; omega
          · subst h8; exact h9
          · have a1 := HU.out i z hil hz (by omega)
            have a2 := HG.out i hil (Nat.le_refl _)
            omega)
        obtain ⟨x, hx⟩ : ∃ x, x = l[i] := ⟨_, rfl⟩
        have HX := hide hx
        rw [← hx] at k0 k1 k2
        obtain ⟨c, hc⟩ : ∃ c, Lib.compareInt x.s.1 t = c := ⟨_, rfl⟩
        have HC := hide hc
        clear hx
        by_cases hcz : c = 0
        · have HY := hide (HYES.out (by rw [← HX.out]; exact (cmp_zero _ _).1 (hc.trans hcz)))
          subst hcz
          clear hc
          go_wp2_with (go_at_call 71; refine (amongq_is HC.out _).mono ?_; rintro e w1 ⟨rfl, hb1⟩)
          have HB2 := hide (HB.out.trans (hb1.mono HB.out.size))
          clear hb1
          go_wp2_with fail
          go_ret2
          exact ⟨i, true, rfl, fun _ => HY.out, fun h9 => by simp at h9, HB2.out⟩
        · have HY := hide (HNO.out (by rw [← HX.out]; intro h9; exact hcz (hc.symm.trans ((cmp_zero _ _).2 h9))))
          have f9 : (c == 0) = false := by simpa using hcz
          clear hc
          go_wp2_with (go_at_call 71; refine (amongq_is HC.out _).mono ?_; rintro e w1 ⟨rfl, hb1⟩)
          have HB2 := hide (HB.out.trans (hb1.mono HB.out.size))
          clear hb1
          go_wp2_with fail
          go_ret2
          exact ⟨i, false, rfl, fun h9 => by simp at h9, fun _ => HY.out, HB2.out⟩
      · have g2 : ¬ (i : Int) < (n : Int) := by omega
        have HY := hide (show ∀ x, x ∈ l → x.s.1 ≠ t from fun x hx => by
          obtain ⟨z, hz, rfl⟩ := List.getElem_of_mem hx
          have := HL.out z hz (by have := HN.out; omega)
          omega)
        go_wp2_with fail
        go_ret2
        exact ⟨i, false, rfl, fun h9 => by simp at h9, fun _ => HY.out, HB.out⟩
theorem ok_up {l : List Pm} (h : Ok Good (pcs l)) (i j : Nat) (hi : i < l.length) (hj : j < l.length) (hij : i < j) : (l[i]).s.1 < (l[j]).s.1 := by
  have hi2 : i < (pcs l).length := by rw [pcs_len]; exact hi
  have hj2 : j < (pcs l).length := by rw [pcs_len]; exact hj
  have h1 := (List.pairwise_iff_getElem.1 h.up) i j hi2 hj2 hij
  have h2 := (h.one _ (List.getElem_mem hi2)).1.2.1
  rw [pcs_at l i hi] at h1 h2
  rw [pcs_at l j hj] at h1
  exact Int.lt_of_lt_of_le h2 h1
set_option maxHeartbeats 8000000 in
set_option maxRecDepth 100000 in
theorem mamong_any {l : List Pm} {sl : Value} {w : World} (h : PcsAt l sl w) (hr : Rows3 l w) (hs : Small l) (hok : Ok Good (pcs l)) (x : Pm) (hx : RowAt x.r x.sl w) (hxl : x.r.length ≤ 1000000) :
    Calls Try.prog 62 #[sl, .agg #[.int .i64 x.s.1, .int .i64 x.s.2, .slice x.ro x.r.length x.rc]] w fun e w' => e = .returned (.bool (decide (x.pc ∈ pcs l))) ∧ Below w.heap.size w w' := by
  have hb0 := below_alloc w (.cells #[.int .i64 x.s.1, .int .i64 x.s.2, .slice x.ro x.r.length x.rc] 56)
  have HB0 := hide hb0
  have HX0 := hide (Bx3.new w x 56)
  have hlt0 : w.heap.size < (w.alloc (.cells #[.int .i64 x.s.1, .int .i64 x.s.2, .slice x.ro x.r.length x.rc] 56)).heap.size := by simp
  have HLT0 := hide hlt0
  have C1 := hide (bsearch_any x.s.1 (h.later hb0 (Nat.le_refl _)) hs (fun i j hi hj hij => by
    rcases Nat.lt_or_ge i j with h9 | h9
    · exact Int.le_of_lt (ok_up hok i j hi hj h9)
    · obtain rfl : i = j := by omega
      exact Int.le_refl _))
  obtain ⟨so, sc, rfl, _, _⟩ := h.form
  have HA := hide h
  have HR := hide hr
  have HS := hide hs
  have HOK := hide hok
  have HRX := hide hx
  obtain ⟨n, hn⟩ : ∃ n, n = l.length := ⟨_, rfl⟩
  have hl : n ≤ 1000 := by rw [hn]; exact hs.n
  rw [← hn] at C1 ⊢
  have HN := hide hn
  obtain ⟨F, hF⟩ : ∃ F, F = decide (x.pc ∈ pcs l) := ⟨_, rfl⟩
  rw [← hF]
  have HF := hide hF
  clear h hr hs hok hx hb0 hlt0 hn hF
  go_enter Try.func62, Try.ntmps62
  go_wp2_with fail
  refine C1.out.mono ?_
  rintro e w1 ⟨i, b, rfl, hy, hno, hb⟩
  have HX1 := hide (HX0.out.later hb HLT0.out)
  have HB1 := hide (HB0.out.trans (hb.mono HB0.out.size))
  have HY := hide hy
  have HNO := hide hno
  clear hb C1 hy hno
  obtain ⟨wd, hwd⟩ : ∃ wd, wd = w1.drew := ⟨_, rfl⟩
  have HBD := hide (show Below w.heap.size w wd from by rw [hwd]; exact HB1.out.drew)
  have HXD := hide (show Bx3 x w.heap.size wd from by rw [hwd]; exact HX1.out.later (Below.refl (w1.heap.size) _).drew HX1.out.lt)
  cases b with
  | false =>
    have HE := hide (show F = false from by
      rw [HF.out, decide_eq_false_iff_not]
      intro h9
      obtain ⟨y, hy, e⟩ := List.mem_map.1 h9
      exact HNO.out rfl y hy (by rw [(pc_eq.1 e).1]))
    go_wp2_with fail
    refine wp_region_held_drew (S := fun u => u.cell? ⟨w.heap.size, 0, none⟩ = some (.int .i64 x.s.1)) (by kernel_rfl) (by rw [← hwd]; exact HXD.out.c0) (fun hHeld => ?_)
    rw [← hwd] at hHeld ⊢
    clear hwd
    refine Man.t1 0 hHeld ?_
    (try simp only [Act.put, Mqa, Mqb, Mqc])
    refine Man.t1 1 hHeld ?_
    (try simp only [Act.put, Mqa, Mqb, Mqc])
    refine Man.take0 (i := 2) rfl (by kernel_rfl) (by kernel_rfl) (by kernel_rfl) (fun _ _ _ h => h) (by rfl) hHeld ?_
    (try simp only [Act.put, Mqa, Mqb, Mqc])
    refine Man.take0 (i := 3) rfl (by kernel_rfl) (by kernel_rfl) (by kernel_rfl) (fun _ _ _ h => h) (by rfl) hHeld ?_
    (try simp only [Act.put, Mqa, Mqb, Mqc])
    refine Man.take0 (i := 4) rfl (by kernel_rfl) (by kernel_rfl) (by kernel_rfl) (fun _ _ _ h => h) (by rfl) hHeld ?_
    (try simp only [Act.put, Mqa, Mqb, Mqc])
    refine Man.take0 (i := 5) rfl (by kernel_rfl) (by kernel_rfl) (by kernel_rfl) (fun _ _ _ h => h) (by rfl) hHeld ?_
    (try simp only [Act.put, Mqa, Mqb, Mqc])
    refine Man.take0 (i := 6) rfl (by kernel_rfl) (by kernel_rfl) (by kernel_rfl) (fun _ _ _ h => h) (by rfl) hHeld ?_
    (try simp only [Act.put, Mqa, Mqb, Mqc])
    refine Man.take0 (i := 7) rfl (by kernel_rfl) (by kernel_rfl) (by kernel_rfl) (fun _ _ _ h => h) (by rfl) hHeld ?_
    (try simp only [Act.put, Mqa, Mqb, Mqc])
    refine Man.t1 8 hHeld ?_
    (try simp only [Act.put, Mqa, Mqb, Mqc])
    refine Man.t1 9 hHeld ?_
    (try simp only [Act.put, Mqa, Mqb, Mqc])
    refine wpAnyH_done (by kernel_rfl) ?_ _
    go_wp2_with fail
    go_ret
    exact ⟨Spn.ret_bool HE.out.symm, HBD.out⟩
  | true =>
    obtain ⟨hil, hat⟩ := HY.out rfl
    have g1 : (i : Int) < (n : Int) := by have := HN.out; omega
    obtain ⟨b0, off, cap, he, hbw, k0, k1, k2⟩ := HA.out.at i hil
    rw [← HN.out] at he
    simp only [Value.slice.injEq] at he
    obtain ⟨rfl, _, rfl⟩ := he
    have hmem := List.getElem_mem hil
    have HEQ := hide (show decide ((l[i]).pc = x.pc) = F from by
      rw [HF.out]
      refine decide_eq_decide.2 ⟨fun h9 => by rw [← h9]; exact List.mem_map.2 ⟨_, hmem, rfl⟩, fun h9 => ?_⟩
      obtain ⟨y, hy, e⟩ := List.mem_map.1 h9
      obtain ⟨z, hz, rfl⟩ := List.getElem_of_mem hy
      have e1 : (l[z]).s.1 = (l[i]).s.1 := by rw [hat, (pc_eq.1 e).1]
      rcases Nat.lt_trichotomy z i with h8 | h8 | h8
      · have := ok_up HOK.out z i hz hil h8; omega
      · subst h8; exact e
      · have := ok_up HOK.out i z hil hz h8; omega)
    have CP := hide (show ∀ u : World, Below w.heap.size w u → u.cell? ⟨b0, off + i * 3, none⟩ = some (.int .i64 (l[i]).s.1) ∧ u.cell? ⟨b0, off + i * 3 + 1, none⟩ = some (.int .i64 (l[i]).s.2) ∧ u.cell? ⟨b0, off + i * 3 + 2, none⟩ = some (.slice (l[i]).ro (l[i]).r.length (l[i]).rc) from fun u hu => ((HA.out.later hu (Nat.le_refl _)).got i hil).2)
    obtain ⟨y, hy⟩ : ∃ y, y = l[i] := ⟨_, rfl⟩
    rw [← hy] at CP HEQ hmem
    have HYR := hide (HR.out _ hmem)
    have HYL := hide (HS.out.r _ hmem)
    clear hy hat hmem k0 k1 k2 hbw
    have CE := hide (show ∀ u : World, Below w.heap.size w u → Bx3 x w.heap.size u → (u.cell? ⟨b0, off + i * 3, none⟩ = some (.int .i64 y.s.1) ∧ u.cell? ⟨b0, off + i * 3 + 1, none⟩ = some (.int .i64 y.s.2) ∧ u.cell? ⟨b0, off + i * 3 + 2, none⟩ = some (.slice y.ro y.r.length y.rc) ∧ u.cell? ⟨w.heap.size, 0, none⟩ = some (.int .i64 x.s.1) ∧ u.cell? ⟨w.heap.size, 1, none⟩ = some (.int .i64 x.s.2) ∧ u.cell? ⟨w.heap.size, 2, none⟩ = some (.slice x.ro x.r.length x.rc)) from fun u hu hxu => ⟨(CP.out u hu).1, (CP.out u hu).2.1, (CP.out u hu).2.2, hxu.c0, hxu.c1, hxu.c2⟩)
    go_wp2_with fail
    refine wp_region_held_drew (S := fun u => u.cell? ⟨b0, off + i * 3, none⟩ = some (.int .i64 y.s.1) ∧ u.cell? ⟨b0, off + i * 3 + 1, none⟩ = some (.int .i64 y.s.2) ∧ u.cell? ⟨b0, off + i * 3 + 2, none⟩ = some (.slice y.ro y.r.length y.rc) ∧ u.cell? ⟨w.heap.size, 0, none⟩ = some (.int .i64 x.s.1) ∧ u.cell? ⟨w.heap.size, 1, none⟩ = some (.int .i64 x.s.2) ∧ u.cell? ⟨w.heap.size, 2, none⟩ = some (.slice x.ro x.r.length x.rc)) (by kernel_rfl) (by rw [← hwd]; exact CE.out _ HBD.out HXD.out) (fun hHeld => ?_)
    rw [← hwd] at hHeld ⊢
    clear hwd
    refine Man.t1 0 hHeld ?_
    (try simp only [Act.put, Mqa, Mqb, Mqc])
    refine Man.t1 1 hHeld ?_
    (try simp only [Act.put, Mqa, Mqb, Mqc])
    refine Man.t1 2 hHeld ?_
    (try simp only [Act.put, Mqa, Mqb, Mqc])
    refine Man.t1 3 hHeld ?_
    (try simp only [Act.put, Mqa, Mqb, Mqc])
    refine Man.t1 4 hHeld ?_
    (try simp only [Act.put, Mqa, Mqb, Mqc])
    refine Man.t1 5 hHeld ?_
    (try simp only [Act.put, Mqa, Mqb, Mqc])
    refine Man.t1 6 hHeld ?_
    (try simp only [Act.put, Mqa, Mqb, Mqc])
    refine Man.one (i := 7) rfl (by kernel_rfl) (fun K9 hK => ?_)
    go_simp
    with_reducible refine (same1_is HEQ.out _ (HYR.out.later HBD.out) (HRX.out.later HBD.out) HYL.out hxl).mono ?_
    rintro e z1 ⟨rfl, hb⟩
    have HB2 := hide (HBD.out.trans (hb.mono HBD.out.size))
    have HX2 := hide (HXD.out.later hb HXD.out.lt)
    clear hb
    refine hK.out _ _ (CE.out _ HB2.out HX2.out) (fun hNew => ?_)
    clear hK K9 hHeld
    have hHeld := hNew
    clear hNew
    (try simp only [Act.put, Mqa, Mqb, Mqc])
    refine Man.t1 8 hHeld ?_
    (try simp only [Act.put, Mqa, Mqb, Mqc])
    refine Man.t1 9 hHeld ?_
    (try simp only [Act.put, Mqa, Mqb, Mqc])
    refine wpAnyH_done (by kernel_rfl) ?_ _
    go_wp2_with fail
    go_ret
    exact ⟨rfl, HB2.out⟩
end Prd
end Go.Proofs.Ytoacombaddknfaa
