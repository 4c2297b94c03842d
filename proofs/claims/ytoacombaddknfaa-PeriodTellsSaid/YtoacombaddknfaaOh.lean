/- The law's light and plain, the document's Drop. Condition: no more than a million values a row, a thousand pieces. -/
import Derived.Test.YtoacombaddknfaaOg
import Derived.Test.YtoacombaddknfaaIn
namespace Go.Proofs.Ytoacombaddknfaa
open Go.RowKit
namespace Prd
open Spn (Sp hide At below_alloc Right rcut)
open Cod (V RowAt S)
/-- What was made of them has their rows. -/
def From (l m : List Pm) : Prop := ∀ x, x ∈ m → ∃ y, y ∈ l ∧ x.r = y.r ∧ x.ro = y.ro ∧ x.rc = y.rc
theorem From.refl (l : List Pm) : From l l := fun x hx => ⟨x, hx, rfl, rfl, rfl⟩
theorem From.nil (l : List Pm) : From l [] := fun x hx => by cases hx
theorem From.app {l m n : List Pm} (h : From l m) (h' : From l n) : From l (m ++ n) := fun x hx => by
  rcases List.mem_append.1 hx with hx | hx
  · exact h x hx
  · exact h' x hx
theorem From.trans {l m n : List Pm} (h : From l m) (h' : From m n) : From l n := fun x hx => by
  obtain ⟨y, hy, e1, e2, e3⟩ := h' x hx
  obtain ⟨z, hz, f1, f2, f3⟩ := h y hy
  exact ⟨z, hz, e1.trans f1, e2.trans f2, e3.trans f3⟩
theorem From.rows {l m : List Pm} {w : World} (h : From l m) (hr : Rows3 l w) : Rows3 m w := fun x hx => by
  obtain ⟨y, hy, e1, e2, e3⟩ := h x hx
  have := hr y hy
  unfold Pm.sl at this ⊢
  rw [e1, e2, e3]; exact this
theorem From.small {l m : List Pm} (h : From l m) (hs : Small l) (hn : m.length ≤ 1000) : Small m := by
  refine ⟨hn, fun x hx => ?_, fun x hx => ?_⟩
  · obtain ⟨y, hy, e1, _, _⟩ := h x hx
    rw [e1]; exact hs.r y hy
  · obtain ⟨y, hy, e1, _, _⟩ := h x hx
    rw [e1]; exact hs.i y hy
theorem oper_ite {c : Prop} [Decidable c] {p q : Prop} (hc : c) (h : p) : if c then p else q := by rw [if_pos hc]; exact h
/-- Has no row many values, are there few pieces? -/
def lightB (l : List Pm) : Bool := decide (l.length ≤ 40) && l.all fun x => decide (x.r.length ≤ 20)
theorem lightB_iff (l : List Pm) : lightB l = true ↔ l.length ≤ 40 ∧ ∀ x, x ∈ l → x.r.length ≤ 20 := by simp [lightB]
set_option maxHeartbeats 4000000 in
set_option maxRecDepth 100000 in
theorem light_any {l : List Pm} {sl : Value} {w : World} (h : PcsAt l sl w) :
    Calls Try.prog 10 #[sl] w fun e w' => e = .returned (.bool (lightB l)) ∧ Below w.heap.size w w' := by
  obtain ⟨so, sc, rfl, _, _⟩ := h.form
  have HA := hide h
  obtain ⟨n, hn⟩ : ∃ n, n = l.length := ⟨_, rfl⟩
  rw [← hn]
  have HN := hide hn
  clear h hn
  by_cases h4 : n ≤ 40
  · have g0 : ¬ (40 : Int) < (n : Int) := by omega
    go_enter Try.func10, Try.ntmps10
    go_wp2_with fail
    go_loopw [3] (fun ii wr => ∃ i : Nat, ii = .int .i64 i ∧ i ≤ n ∧ Hid (Below w.heap.size w wr) ∧ Hid (∀ (j : Nat) (hj : j < l.length), j < i → (l[j]).r.length ≤ 20)) (fun ii _ => (n - (intOf ii).toNat))
    case atStart => exact ⟨0, rfl, by omega, hide (Below.refl _ _), hide (fun j hj h0 => by omega)⟩
    case round =>
      rename World => wr
      obtain ⟨i, rfl, hi, HB, HF⟩ := hrel
      rcases Nat.lt_or_ge i n with hlt | hge
      · have g1 : (i : Int) < (n : Int) := by omega
        have hil : i < l.length := by rw [← HN.out]; exact hlt
        obtain ⟨b0, off, cap, he, hbw, k0, k1, k2⟩ := (HA.out.later HB.out (Nat.le_refl _)).at i hil
        rw [← HN.out] at he
        simp only [Value.slice.injEq] at he
        obtain ⟨rfl, _, rfl⟩ := he
        obtain ⟨x, hx⟩ : ∃ x, x = l[i] := ⟨_, rfl⟩
        rw [← hx] at k0 k1 k2
        have HX := hide hx
        clear hx
        obtain ⟨q, hq⟩ : ∃ q, q = x.r.length := ⟨_, rfl⟩
        rw [← hq] at k2
        by_cases h2 : q ≤ 20
        · have g2 : ¬ (20 : Int) < (q : Int) := by omega
          have HF2 := hide (show ∀ (j : Nat) (hj : j < l.length), j < i + 1 → (l[j]).r.length ≤ 20 from fun j hj hji => by
            rcases Nat.lt_or_ge j i with h9 | h9
            · exact HF.out j hj h9
            · obtain rfl : j = i := by omega
              rw [← HX.out, ← hq]; exact h2)
          clear hq
          go_wp2_with fail
          go_roundw
          case rel => exact ⟨i + 1, by go_num, by omega, HB, HF2⟩
          case measure => simp [intOf]; omega
        · have g2 : (20 : Int) < (q : Int) := by omega
          have HC := hide (show lightB l = false from by
            cases hc : lightB l with
            | false => rfl
            | true =>
              have := ((lightB_iff l).1 hc).2 _ (List.getElem_mem hil)
              rw [← HX.out, ← hq] at this
              omega)
          clear hq
          go_wp2_with fail
          go_ret
          exact ⟨Spn.ret_bool HC.out.symm, HB.out⟩
      · obtain rfl : i = n := by omega
        have g1 : ¬ (i : Int) < (i : Int) := by omega
        have HC := hide (show lightB l = true from (lightB_iff l).2 ⟨by rw [← HN.out]; exact h4, fun x hx => by
          obtain ⟨j, hj, rfl⟩ := List.getElem_of_mem hx
          exact HF.out j hj (by rw [HN.out]; exact hj)⟩)
        go_wp2_with fail
        go_ret
        exact ⟨Spn.ret_bool HC.out.symm, HB.out⟩
  · have g0 : (40 : Int) < (n : Int) := by omega
    have HC := hide (show lightB l = false from by
      cases hc : lightB l with
      | false => rfl
      | true => have := ((lightB_iff l).1 hc).1; have := HN.out; omega)
    go_enter Try.func10, Try.ntmps10
    go_wp2_with fail
    go_ret
    exact ⟨Spn.ret_bool HC.out.symm, Below.refl _ _⟩
set_option maxHeartbeats 4000000 in
set_option maxRecDepth 100000 in
theorem plain_any {l : List Pm} {sl : Value} {w : World} (h : PcsAt l sl w) (hl : l.length ≤ 1000) :
    Calls Try.prog 12 #[sl] w fun e w' => ∃ v, e = .returned v ∧ PcsAt l v w' ∧ Below w.heap.size w w' := by
  obtain ⟨so, sc, rfl, _, _⟩ := h.form
  have HA := hide h
  have HL := hide hl
  obtain ⟨n, hn⟩ : ∃ n, n = l.length := ⟨_, rfl⟩
  rw [← hn] at hl ⊢
  have HN := hide hn
  clear h hn
  go_enter Try.func12, Try.ntmps12
  go_wp2_with fail
  go_loopw [3, 4] (fun ov ii wr => ∃ i : Nat, ii = .int .i64 i ∧ i ≤ n ∧ Hid (Row3 54 w.heap.size (l.take i) ov wr) ∧ Hid (Below w.heap.size w wr)) (fun _ ii _ => (n - (intOf ii).toNat))
  case atStart => exact ⟨0, rfl, by omega, hide (Row3.nil _ _ _), hide (Below.refl _ _)⟩
  case round =>
    rename World => wr
    obtain ⟨i, rfl, hi, HR, HB⟩ := hrel
    rcases Nat.lt_or_ge i n with hlt | hge
    · have g1 : (i : Int) < (n : Int) := by omega
      have hil : i < l.length := by rw [← HN.out]; exact hlt
      obtain ⟨b0, off, cap, he, _, _⟩ := (HA.out.later HB.out (Nat.le_refl _)).at i hil
      rw [← HN.out] at he
      simp only [Value.slice.injEq] at he
      obtain ⟨rfl, _, rfl⟩ := he
      have HTK := hide (List.take_succ_eq_append_getElem hil)
      obtain ⟨x, hx⟩ : ∃ x, x = l[i] := ⟨_, rfl⟩
      rw [← hx] at HTK
      have CE := hide (show ∀ u : World, Below w.heap.size w u → (u.cell? ⟨b0, off + i * 3, none⟩ = some (.int .i64 x.s.1) ∧ u.cell? ⟨b0, off + i * 3 + 1, none⟩ = some (.int .i64 x.s.2) ∧ u.cell? ⟨b0, off + i * 3 + 2, none⟩ = some (.slice x.ro x.r.length x.rc)) from fun u hu => by
        have h1 := ((HA.out.later hu (Nat.le_refl _)).got i hil).2
        rw [← hx] at h1
        exact h1)
      have HLM := hide (show (l.take i).length ≤ 1000 from by rw [List.length_take]; have := HL.out; omega)
      obtain ⟨m, hm⟩ : ∃ m, m = l.take i := ⟨_, rfl⟩
      rw [← hm] at HR HTK HLM
      clear hx hm
      obtain ⟨wd, hwd⟩ : ∃ wd, wd = wr.drew := ⟨_, rfl⟩
      have HBD := hide (show Below w.heap.size w wd from by rw [hwd]; exact HB.out.drew)
      have HRD := hide (show Row3 54 w.heap.size m u3 wd from by rw [hwd]; exact HR.out.later (Below.refl _ _).drew (Nat.le_refl _))
      go_wp2_with fail
      refine wp_region_held_drew (S := fun u => u.cell? ⟨b0, off + i * 3, none⟩ = some (.int .i64 x.s.1) ∧ u.cell? ⟨b0, off + i * 3 + 1, none⟩ = some (.int .i64 x.s.2) ∧ u.cell? ⟨b0, off + i * 3 + 2, none⟩ = some (.slice x.ro x.r.length x.rc)) (by kernel_rfl) (by rw [← hwd]; exact CE.out _ HBD.out) (fun hHeld => ?_)
      rw [← hwd] at hHeld ⊢
      clear hwd
      refine Man.t1 0 hHeld ?_
      (try simp only [Act.put, Mqa, Mqb, Mqc])
      refine Man.t1 1 hHeld ?_
      (try simp only [Act.put, Mqa, Mqb, Mqc])
      refine Man.t1 2 hHeld ?_
      (try simp only [Act.put, Mqa, Mqb, Mqc])
      refine Man.t1 3 hHeld ?_
      (try simp only [Act.put, Mqa, Mqb, Mqc])
      refine Man.t1 4 hHeld ?_
      (try simp only [Act.put, Mqa, Mqb, Mqc])
      refine Man.t1 5 hHeld ?_
      (try simp only [Act.put, Mqa, Mqb, Mqc])
      refine Man.t1 6 hHeld ?_
      (try simp only [Act.put, Mqa, Mqb, Mqc])
      refine Man.t1 7 hHeld ?_
      (try simp only [Act.put, Mqa, Mqb, Mqc])
      refine Man.t1 8 hHeld ?_
      (try simp only [Act.put, Mqa, Mqb, Mqc])
      refine Man.t1 9 hHeld ?_
      (try simp only [Act.put, Mqa, Mqb, Mqc])
      refine Man.t1 10 hHeld ?_
      (try simp only [Act.put, Mqa, Mqb, Mqc])
      refine Man.t1 11 hHeld ?_
      (try simp only [Act.put, Mqa, Mqb, Mqc])
      refine Man.one (i := 12) rfl (by kernel_rfl) (fun K9 hK => ?_)
      go_simp
      obtain ⟨z1, hz1⟩ : ∃ z1, z1 = wd.alloc (.cells #[.int .i64 x.s.1, .int .i64 x.s.2, .slice x.ro x.r.length x.rc] 54) := ⟨_, rfl⟩
      have HP1 := hide (show PcsAt [x] (.slice (some ⟨wd.heap.size, 0, none⟩) 1 1) z1 from by rw [hz1]; exact one3_at wd x _ rfl)
      have HQ1 := hide (show Below wd.heap.size wd z1 from by rw [hz1]; exact below_alloc _ _)
      have HB1 := hide (HBD.out.trans (HQ1.out.mono HBD.out.size))
      have HR1 := hide (HRD.out.later HQ1.out (Nat.le_refl _))
      rw [← hz1]
      clear hz1 HQ1
      refine hK.out _ _ (CE.out _ HB1.out) (fun hNew => ?_)
      clear hK K9 hHeld
      have hHeld := hNew
      clear hNew
      (try simp only [Act.put, Mqa, Mqb, Mqc])
      refine Man.one (i := 13) rfl (by kernel_rfl) (fun K9 hK => ?_)
      refine oper_ite (by rfl) ?_
      refine oper_row3 (l := m) (m := [x]) tyR _ _ rfl rfl rfl HR1.out HP1.out (by have := HLM.out; simp; omega) HB1.out.size (fun u z2 hu hg hob => ?_)
      have HR2 := hide hu
      have HB2 := hide (HB1.out.grown hg HB1.out.size (fun k hk => (HR1.out.lt k hk).1))
      clear hu hg hob HR1 HP1 HB1
      refine hK.out _ _ (CE.out _ HB2.out) (fun hNew => ?_)
      clear hK K9 hHeld
      have hHeld := hNew
      clear hNew
      (try simp only [Act.put, Mqa, Mqb, Mqc])
      refine Man.t1 14 hHeld ?_
      (try simp only [Act.put, Mqa, Mqb, Mqc])
      refine wpAnyH_done (by kernel_rfl) ?_ _
      go_wp2_with fail
      go_roundw
      case rel => exact ⟨i + 1, by go_num, by omega, by rw [HTK.out]; exact HR2, HB2⟩
      case measure => simp [intOf]; omega
    · obtain rfl : i = n := by omega
      have g1 : ¬ (i : Int) < (i : Int) := by omega
      have HF := hide (show PcsAt l u3 wr from by
        have := HR.out
        rw [HN.out, List.take_length] at this
        exact this.pieces)
      go_wp2_with fail
      go_ret
      exact ⟨u3, rfl, HF.out, HB.out⟩
end Prd
end Go.Proofs.Ytoacombaddknfaa
