/- '==' and '!=' between items; the document's Same, New; the law's plain. Condition: no more than a thousand items. -/
import Derived.Test.YtapdhelioecneaaU8
namespace Go.Proofs.Ytapdhelioecneaa
open Go.RowKit
namespace Idx
/-- '!=' between two items. -/
def neI (x y : It) : Bool := decide (x ≠ y)
theorem neI_no (x : It) : neI x x = false := by simp [neI]
theorem neI_yes {x y : It} (h : x ≠ y) : neI x y = true := by simp [neI, h]
theorem S_toL (k : List UInt8) : (S k).toList = k := by rw [ByteArray.toList_eq]
set_option maxHeartbeats 1000000 in
theorem run_neI (x y : It) (T : TypeId) (hT : T = 31 ∨ T = 36) (w : World) :
    (binOp .neq T (.agg #[.string (S x.k), .int .i64 x.s, .int .i64 x.e, .int .i64 x.id]) (.agg #[.string (S y.k), .int .i64 y.s, .int .i64 y.e, .int .i64 y.id])).run Try.prog w = .ok (.bool (neI x y)) w := by
  obtain ⟨k, s, e, d⟩ := x
  obtain ⟨k', s', e', d'⟩ := y
  have hn : neI ⟨k, s, e, d⟩ ⟨k', s', e', d'⟩ = !((decide (k = k')) && (s == s') && (e == e') && (d == d')) := by
    unfold neI
    by_cases h0 : k = k' <;> by_cases h1 : s = s' <;> by_cases h2 : e = e' <;> by_cases h3 : d = d' <;> simp [It.ext_iff', h0, h1, h2, h3]
  rw [hn]
  dsimp only
  have ea := S_toL k
  have ea' := S_toL k'
  generalize S k = a at ea ⊢
  generalize S k' = a' at ea' ⊢
  rw [← ea, ← ea']
  clear hn ea ea'
  rcases hT with rfl | rfl <;> (by_cases h0 : a.toList = a'.toList <;> by_cases h1 : s = s' <;> by_cases h2 : e = e' <;> by_cases h3 : d = d' <;> go_simp)
set_option maxHeartbeats 1000000 in
theorem run_eqI (x y : It) (T : TypeId) (hT : T = 31 ∨ T = 36) (w : World) :
    (binOp .eql T (.agg #[.string (S x.k), .int .i64 x.s, .int .i64 x.e, .int .i64 x.id]) (.agg #[.string (S y.k), .int .i64 y.s, .int .i64 y.e, .int .i64 y.id])).run Try.prog w = .ok (.bool (!neI x y)) w := by
  obtain ⟨k, s, e, d⟩ := x
  obtain ⟨k', s', e', d'⟩ := y
  have hn : (!neI ⟨k, s, e, d⟩ ⟨k', s', e', d'⟩) = ((decide (k = k')) && (s == s') && (e == e') && (d == d')) := by
    unfold neI
    by_cases h0 : k = k' <;> by_cases h1 : s = s' <;> by_cases h2 : e = e' <;> by_cases h3 : d = d' <;> simp [It.ext_iff', h0, h1, h2, h3]
  rw [hn]
  dsimp only
  have ea := S_toL k
  have ea' := S_toL k'
  generalize S k = a at ea ⊢
  generalize S k' = a' at ea' ⊢
  rw [← ea, ← ea']
  clear hn ea ea'
  rcases hT with rfl | rfl <;> (by_cases h0 : a.toList = a'.toList <;> by_cases h1 : s = s' <;> by_cases h2 : e = e' <;> by_cases h3 : d = d' <;> go_simp)
theorem run_neX (x y : It) (w : World) : (binOp .neq 31 (.agg #[.string (S x.k), .int .i64 x.s, .int .i64 x.e, .int .i64 x.id]) (.agg #[.string (S y.k), .int .i64 y.s, .int .i64 y.e, .int .i64 y.id])).run Try.prog w = .ok (.bool (neI x y)) w := run_neI x y 31 (.inl rfl) w
theorem run_neR (x y : It) (w : World) : (binOp .neq 36 (.agg #[.string (S x.k), .int .i64 x.s, .int .i64 x.e, .int .i64 x.id]) (.agg #[.string (S y.k), .int .i64 y.s, .int .i64 y.e, .int .i64 y.id])).run Try.prog w = .ok (.bool (neI x y)) w := run_neI x y 36 (.inr rfl) w
theorem run_eqX (x y : It) (w : World) : (binOp .eql 31 (.agg #[.string (S x.k), .int .i64 x.s, .int .i64 x.e, .int .i64 x.id]) (.agg #[.string (S y.k), .int .i64 y.s, .int .i64 y.e, .int .i64 y.id])).run Try.prog w = .ok (.bool (!neI x y)) w := run_eqI x y 31 (.inl rfl) w
theorem run_eqR (x y : It) (w : World) : (binOp .eql 36 (.agg #[.string (S x.k), .int .i64 x.s, .int .i64 x.e, .int .i64 x.id]) (.agg #[.string (S y.k), .int .i64 y.s, .int .i64 y.e, .int .i64 y.id])).run Try.prog w = .ok (.bool (!neI x y)) w := run_eqI x y 36 (.inr rfl) w
attribute [go_sem ↓] run_neX run_neR run_eqX run_eqR
theorem oper_ite {c : Prop} [Decidable c] {p q : Prop} (hc : c) (h : p) : if c then p else q := by rw [if_pos hc]; exact h
/-- The document's New: an index without items; or 1. -/
def newC (n : Int) : Int := if n < 2 ∨ 100 < n then 1 else 0
set_option maxHeartbeats 2000000 in
theorem rnew_any (n : Int) (w : World) :
    Calls Try.prog 11 #[.int .i64 n] w fun e w' => e = .returned (.tuple #[.pointer (some ⟨w.heap.size, 0, none⟩), .int .i64 (newC n)]) ∧ (∃ F, RX w.heap.size F [] w' ∧ ∀ k, F k → w.heap.size ≤ k) ∧ Below w.heap.size w w' := by
  have HR := hide (show ∃ F, RX w.heap.size F [] (w.alloc (.cells #[.slice none 0 0] 55)) ∧ ∀ k, F k → w.heap.size ≤ k from ⟨fun k => k = w.heap.size, ⟨⟨.slice none 0 0, by go_keep, by go_keep, Row4.nil _ _ _, by simp [Value.ownBlock], fun g hg => by simp [Value.ownBlock] at hg⟩, by simp, rfl, fun k hk => by simp [hk]⟩, fun k hk => by omega⟩)
  have HB := hide (below_alloc w (.cells #[.slice none 0 0] 55))
  go_enter Try.func11, Try.ntmps11
  by_cases g1 : n < 2
  · have HC := hide (show newC n = 1 from by unfold newC; rw [if_pos (.inl g1)])
    go_wp2_with fail
    go_ret2
    exact ⟨by rw [HC.out]; rfl, HR.out, HB.out⟩
  · by_cases g2 : 100 < n
    · have HC := hide (show newC n = 1 from by unfold newC; rw [if_pos (.inr g2)])
      go_wp2_with fail
      go_ret2
      exact ⟨by rw [HC.out]; rfl, HR.out, HB.out⟩
    · have HC := hide (show newC n = 0 from by unfold newC; rw [if_neg (by omega)])
      go_wp2_with fail
      go_ret2
      exact ⟨by rw [HC.out]; rfl, HR.out, HB.out⟩
set_option maxHeartbeats 4000000 in
set_option maxRecDepth 100000 in
theorem same_any {l m : List It} {sl sm : Value} {w : World} (h : ItemsAt l sl w) (h' : ItemsAt m sm w) (hl : l.length ≤ 1000) :
    Calls Try.prog 18 #[sl, sm] w fun e w' => e = .returned (.bool (decide (l = m))) ∧ Below w.heap.size w w' := by
  obtain ⟨so, sc, rfl, _, _⟩ := h.form
  obtain ⟨mo, mc, rfl, _, _⟩ := h'.form
  have HA := hide h
  have HA' := hide h'
  obtain ⟨n, hn⟩ : ∃ n, n = l.length := ⟨_, rfl⟩
  obtain ⟨k, hk⟩ : ∃ k, k = m.length := ⟨_, rfl⟩
  rw [← hn] at hl ⊢
  rw [← hk]
  have HN := hide hn
  have HK := hide hk
  clear h h' hn hk
  by_cases hnk : n = k
  · subst hnk
    have HNM := hide (show l.length = m.length from HN.out.symm.trans HK.out)
    have g0 : ((n : Int) != (n : Int)) = false := by simp
    go_enter Try.func18, Try.ntmps18
    go_wp2_with fail
    go_loopw [5] (fun ii wr => ∃ i : Nat, ii = .int .i64 i ∧ i ≤ n ∧ Hid (Below w.heap.size w wr) ∧ Hid (∀ (j : Nat) (hj : j < l.length), j < i → l[j] = m[j]'(by rw [← HNM.out]; exact hj))) (fun ii _ => (n - (intOf ii).toNat))
    case atStart => exact ⟨0, rfl, by omega, hide (Below.refl _ _), hide (fun j hj h0 => by omega)⟩
    case round =>
      rename World => wr
      obtain ⟨i, rfl, hi, HB, HF⟩ := hrel
      rcases Nat.lt_or_ge i n with hlt | hge
      · have g1 : (i : Int) < (n : Int) := by omega
        have hil : i < l.length := by rw [← HN.out]; exact hlt
        have him : i < m.length := by rw [← HK.out]; exact hlt
        obtain ⟨b0, off, cap, he, hbw, k0, k1, k2, k3⟩ := (HA.out.later HB.out (Nat.le_refl _)).at i hil
        rw [← HN.out] at he
        simp only [Value.slice.injEq] at he
        obtain ⟨rfl, _, rfl⟩ := he
        obtain ⟨b1, off1, cap1, he1, hbw1, j0, j1, j2, j3⟩ := (HA'.out.later HB.out (Nat.le_refl _)).at i him
        rw [← HK.out] at he1
        simp only [Value.slice.injEq] at he1
        obtain ⟨rfl, _, rfl⟩ := he1
        obtain ⟨x, hx⟩ : ∃ x, x = l[i] := ⟨_, rfl⟩
        obtain ⟨y, hy⟩ : ∃ y, y = m[i] := ⟨_, rfl⟩
        rw [← hx] at k0 k1 k2 k3
        rw [← hy] at j0 j1 j2 j3
        have HX := hide hx
        have HY := hide hy
        have HB2 := hide HB.out.drew
        clear hx hy
        by_cases hxy : x = y
        · have g2 : neI x y = false := by rw [hxy]; exact neI_no y
          have HF2 := hide (show ∀ (j : Nat) (hj : j < l.length), j < i + 1 → l[j] = m[j]'(by rw [← HNM.out]; exact hj) from fun j hj hji => by
            rcases Nat.lt_or_ge j i with h9 | h9
            · exact HF.out j hj h9
            · obtain rfl : j = i := by omega
              rw [← HX.out, ← HY.out]; exact hxy)
          clear hxy
          go_wp2_with fail
          go_region
          go_wp2_with fail
          go_roundw
          case rel => exact ⟨i + 1, by go_num, by omega, HB2, HF2⟩
          case measure => simp [intOf]; omega
        · have g2 : neI x y = true := neI_yes hxy
          have HC := hide (show decide (l = m) = false from decide_eq_false (fun e => hxy (by rw [HX.out, HY.out]; simp only [e])))
          clear hxy
          go_wp2_with fail
          go_region
          go_wp2_with fail
          go_ret
          exact ⟨ret_bool HC.out.symm, HB2.out⟩
      · obtain rfl : i = n := by omega
        have g1 : ¬ (i : Int) < (i : Int) := by omega
        have HC := hide (show decide (l = m) = true from decide_eq_true (List.ext_getElem HNM.out (fun j h1 h2 => HF.out j h1 (by rw [HN.out]; exact h1))))
        go_wp2_with fail
        go_ret
        exact ⟨ret_bool HC.out.symm, HB.out⟩
  · have g0 : ((n : Int) != (k : Int)) = true := by rw [bne_iff_ne]; omega
    have HC := hide (show decide (l = m) = false from decide_eq_false (fun e => hnk (by rw [HN.out, HK.out, e])))
    go_enter Try.func18, Try.ntmps18
    go_wp2_with fail
    go_ret
    exact ⟨ret_bool HC.out.symm, Below.refl _ _⟩
set_option maxHeartbeats 4000000 in
set_option maxRecDepth 100000 in
theorem plain_any {l : List It} {sl : Value} {w : World} (h : ItemsAt l sl w) (hl : l.length ≤ 1000) :
    Calls Try.prog 19 #[sl] w fun e w' => ∃ v, e = .returned v ∧ ItemsAt l v w' ∧ Below w.heap.size w w' := by
  obtain ⟨so, sc, rfl, _, _⟩ := h.form
  have HA := hide h
  have HL := hide hl
  obtain ⟨n, hn⟩ : ∃ n, n = l.length := ⟨_, rfl⟩
  rw [← hn] at hl ⊢
  have HN := hide hn
  clear h hn
  go_enter Try.func19, Try.ntmps19
  go_wp2_with fail
  go_loopw [3, 4] (fun ov ii wr => ∃ i : Nat, ii = .int .i64 i ∧ i ≤ n ∧ Hid (Row4 36 w.heap.size (l.take i) ov wr) ∧ Hid (Below w.heap.size w wr)) (fun _ ii _ => (n - (intOf ii).toNat))
  case atStart => exact ⟨0, rfl, by omega, hide (Row4.nil _ _ _), hide (Below.refl _ _)⟩
  case round =>
    rename World => wr
    obtain ⟨i, rfl, hi, HR, HB⟩ := hrel
    rcases Nat.lt_or_ge i n with hlt | hge
    · have g1 : (i : Int) < (n : Int) := by omega
      have hil : i < l.length := by rw [← HN.out]; exact hlt
      obtain ⟨b0, off, cap, he, _, _⟩ := (HA.out.later HB.out (Nat.le_refl _)).at i hil
      rw [← HN.out] at he
      simp only [Value.slice.injEq] at he
      obtain ⟨rfl, _, rfl⟩ := he
      have HTK := hide (List.take_succ_eq_append_getElem hil)
      obtain ⟨x, hx⟩ : ∃ x, x = l[i] := ⟨_, rfl⟩
      rw [← hx] at HTK
      have CE := hide (show ∀ u : World, Below w.heap.size w u → (u.cell? ⟨b0, off + i * 4, none⟩ = some (.string (S x.k)) ∧ u.cell? ⟨b0, off + i * 4 + 1, none⟩ = some (.int .i64 x.s) ∧ u.cell? ⟨b0, off + i * 4 + 2, none⟩ = some (.int .i64 x.e) ∧ u.cell? ⟨b0, off + i * 4 + 3, none⟩ = some (.int .i64 x.id)) from fun u hu => by
        have h1 := ((HA.out.later hu (Nat.le_refl _)).got i hil).2
        rw [← hx] at h1
        exact h1)
      have HLM := hide (show (l.take i).length ≤ 1000 from by rw [List.length_take]; have := HL.out; omega)
      obtain ⟨m, hm⟩ : ∃ m, m = l.take i := ⟨_, rfl⟩
      rw [← hm] at HR HTK HLM
      clear hx hm
      obtain ⟨wd, hwd⟩ : ∃ wd, wd = wr.drew := ⟨_, rfl⟩
      have HBD := hide (show Below w.heap.size w wd from by rw [hwd]; exact HB.out.drew)
      have HRD := hide (show Row4 36 w.heap.size m u3 wd from by rw [hwd]; exact HR.out.later (Below.refl _ _).drew (Nat.le_refl _))
      go_wp2_with fail
      refine wp_region_held_drew (S := fun u => u.cell? ⟨b0, off + i * 4, none⟩ = some (.string (S x.k)) ∧ u.cell? ⟨b0, off + i * 4 + 1, none⟩ = some (.int .i64 x.s) ∧ u.cell? ⟨b0, off + i * 4 + 2, none⟩ = some (.int .i64 x.e) ∧ u.cell? ⟨b0, off + i * 4 + 3, none⟩ = some (.int .i64 x.id)) (by kernel_rfl) (by rw [← hwd]; exact CE.out _ HBD.out) (fun hHeld => ?_)
      rw [← hwd] at hHeld ⊢
      clear hwd
      refine Man.t1 0 hHeld ?_
      (try simp only [Act.put, Mqa, Mqb, Mqc])
      refine Man.t1 1 hHeld ?_
      (try simp only [Act.put, Mqa, Mqb, Mqc])
      refine Man.t1 2 hHeld ?_
      (try simp only [Act.put, Mqa, Mqb, Mqc])
      refine Man.t1 3 hHeld ?_
      (try simp only [Act.put, Mqa, Mqb, Mqc])
      refine Man.t1 4 hHeld ?_
      (try simp only [Act.put, Mqa, Mqb, Mqc])
      refine Man.t1 5 hHeld ?_
      (try simp only [Act.put, Mqa, Mqb, Mqc])
      refine Man.t1 6 hHeld ?_
      (try simp only [Act.put, Mqa, Mqb, Mqc])
      refine Man.t1 7 hHeld ?_
      (try simp only [Act.put, Mqa, Mqb, Mqc])
      refine Man.t1 8 hHeld ?_
      (try simp only [Act.put, Mqa, Mqb, Mqc])
      refine Man.t1 9 hHeld ?_
      (try simp only [Act.put, Mqa, Mqb, Mqc])
      refine Man.t1 10 hHeld ?_
      (try simp only [Act.put, Mqa, Mqb, Mqc])
      refine Man.t1 11 hHeld ?_
      (try simp only [Act.put, Mqa, Mqb, Mqc])
      refine Man.t1 12 hHeld ?_
      (try simp only [Act.put, Mqa, Mqb, Mqc])
      refine Man.t1 13 hHeld ?_
      (try simp only [Act.put, Mqa, Mqb, Mqc])
      refine Man.t1 14 hHeld ?_
      (try simp only [Act.put, Mqa, Mqb, Mqc])
      refine Man.t1 15 hHeld ?_
      (try simp only [Act.put, Mqa, Mqb, Mqc])
      refine Man.t1 16 hHeld ?_
      (try simp only [Act.put, Mqa, Mqb, Mqc])
      refine Man.t1 17 hHeld ?_
      (try simp only [Act.put, Mqa, Mqb, Mqc])
      refine Man.t1 18 hHeld ?_
      (try simp only [Act.put, Mqa, Mqb, Mqc])
      refine Man.t1 19 hHeld ?_
      (try simp only [Act.put, Mqa, Mqb, Mqc])
      refine Man.t1 20 hHeld ?_
      (try simp only [Act.put, Mqa, Mqb, Mqc])
      refine Man.t1 21 hHeld ?_
      (try simp only [Act.put, Mqa, Mqb, Mqc])
      refine Man.one (i := 22) rfl (by kernel_rfl) (fun K9 hK => ?_)
      go_simp
      obtain ⟨z1, hz1⟩ : ∃ z1, z1 = wd.alloc (.cells #[.string (S x.k), .int .i64 x.s, .int .i64 x.e, .int .i64 x.id] 36) := ⟨_, rfl⟩
      have HP1 := hide (show ItemsAt [x] (.slice (some ⟨wd.heap.size, 0, none⟩) 1 1) z1 from by rw [hz1]; exact one4_at wd x _ rfl)
      have HQ1 := hide (show Below wd.heap.size wd z1 from by rw [hz1]; exact below_alloc _ _)
      have HB1 := hide (HBD.out.trans (HQ1.out.mono HBD.out.size))
      have HR1 := hide (HRD.out.later HQ1.out (Nat.le_refl _))
      rw [← hz1]
      clear hz1 HQ1
      refine hK.out _ _ (CE.out _ HB1.out) (fun hNew => ?_)
      clear hK K9 hHeld
      have hHeld := hNew
      clear hNew
      (try simp only [Act.put, Mqa, Mqb, Mqc])
      refine Man.one (i := 23) rfl (by kernel_rfl) (fun K9 hK => ?_)
      refine oper_ite (by rfl) ?_
      refine oper_row4 (l := m) (m := [x]) tyR _ _ rfl rfl rfl HR1.out HP1.out (by have := HLM.out; simp; omega) HB1.out.size (fun u z2 hu hg hob => ?_)
      have HR2 := hide hu
      have HB2 := hide (HB1.out.grown hg HB1.out.size (fun k hk => (HR1.out.lt k hk).1))
      clear hu hg hob HR1 HP1 HB1
      refine hK.out _ _ (CE.out _ HB2.out) (fun hNew => ?_)
      clear hK K9 hHeld
      have hHeld := hNew
      clear hNew
      (try simp only [Act.put, Mqa, Mqb, Mqc])
      refine Man.t1 24 hHeld ?_
      (try simp only [Act.put, Mqa, Mqb, Mqc])
      refine wpAnyH_done (by kernel_rfl) ?_ _
      go_wp2_with fail
      go_roundw
      case rel => exact ⟨i + 1, by go_num, by omega, by rw [HTK.out]; exact HR2, HB2⟩
      case measure => simp [intOf]; omega
    · obtain rfl : i = n := by omega
      have g1 : ¬ (i : Int) < (i : Int) := by omega
      have HF := hide (show ItemsAt l u3 wr from by
        have := HR.out
        rw [HN.out, List.take_length] at this
        exact this.items)
      go_wp2_with fail
      go_ret
      exact ⟨u3, rfl, HF.out, HB.out⟩
end Idx
end Go.Proofs.Ytapdhelioecneaa
