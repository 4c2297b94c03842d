/- The program's order of items, what an item tells, a block out of items. Condition: texts no longer than 2^47. -/
import Derived.Test.YtapdhelioecneaaU9
import Derived.Test.YtapdhelioecneaaSc
import Derived.Lib.MinMax
namespace Go.Proofs.Ytapdhelioecneaa
open Go.RowKit
namespace Idx
theorem met_until (x : Value) (w : World) : (method 244 31 x "memoir/index.until").run Try.prog w = .ok (90, x) w := by kernel_rfl
theorem met_compare (x : Value) (w : World) : (method 244 31 x "memoir/index.compare").run Try.prog w = .ok (89, x) w := by kernel_rfl
set_option maxHeartbeats 1000000 in
theorem until_any (x : It) (w : World) : Calls Try.prog 90 #[.agg #[.string (S x.k), .int .i64 x.s, .int .i64 x.e, .int .i64 x.id]] w fun e w' => e = .returned (.int .i64 x.e) ∧ Below w.heap.size w w' := by
  have HB := hide (below_alloc w (.cells #[.string (S x.k), .int .i64 x.s, .int .i64 x.e, .int .i64 x.id] 31))
  go_enter Try.func90, Try.ntmps90
  go_wp2_with fail
  go_ret
  exact ⟨rfl, HB.out⟩
set_option maxHeartbeats 1000000 in
theorem nan_any (a : ByteArray) (w : World) : Calls Try.prog 94 #[.string a] w fun e w' => e = .returned (.bool false) ∧ w' = w := by
  go_enter Try.func94, Try.ntmps94
  go_wp2_with fail
  go_ret
  exact ⟨by simp, rfl⟩
set_option maxHeartbeats 1000000 in
theorem cmps_any (a b : List UInt8) (w : World) : Calls Try.prog 92 #[.string (S a), .string (S b)] w fun e w' => e = .returned (.int .i64 (cmpL a b)) ∧ w' = w := by
  have C1 := hide (fun u => nan_any (S a) u)
  have C2 := hide (fun u => nan_any (S b) u)
  obtain ⟨c, hc⟩ : ∃ c, c = cmpL a b := ⟨_, rfl⟩
  rw [← hc]
  have HC := hide hc
  clear hc
  rcases h1 : Op.bytesLess a b with _ | _
  · rcases h2 : Op.bytesLess b a with _ | _
    · have HE := hide (show c = 0 from by rw [HC.out]; unfold cmpL; rw [if_neg (by rw [h1]; simp), if_pos (less_tri a b h1 h2)])
      have f3 : (a == b) = true := by rw [less_tri a b h1 h2]; simp
      go_enter Try.func92, Try.ntmps92
      go_wp2_with fail
      refine (C1.out _).mono ?_
      rintro e w1 ⟨rfl, rfl⟩
      go_wp2_with fail
      refine (C2.out _).mono ?_
      rintro e w1 ⟨rfl, rfl⟩
      go_wp2_with fail
      go_ret
      exact ⟨by rw [HE.out]; rfl, rfl⟩
    · have HE := hide (show c = 1 from by rw [HC.out]; unfold cmpL; rw [if_neg (by rw [h1]; simp), if_neg (fun e => by rw [e, less_irrefl] at h2; cases h2)])
      have f3 : (a == b) = false := by rw [beq_eq_false_iff_ne]; intro e; rw [e, less_irrefl] at h2; cases h2
      go_enter Try.func92, Try.ntmps92
      go_wp2_with fail
      refine (C1.out _).mono ?_
      rintro e w1 ⟨rfl, rfl⟩
      go_wp2_with fail
      refine (C2.out _).mono ?_
      rintro e w1 ⟨rfl, rfl⟩
      go_wp2_with fail
      go_ret
      exact ⟨by rw [HE.out]; rfl, rfl⟩
  · have HE := hide (show c = -1 from by rw [HC.out]; unfold cmpL; rw [if_pos h1])
    go_enter Try.func92, Try.ntmps92
    go_wp2_with fail
    refine (C1.out _).mono ?_
    rintro e w1 ⟨rfl, rfl⟩
    go_wp2_with fail
    refine (C2.out _).mono ?_
    rintro e w1 ⟨rfl, rfl⟩
    go_wp2_with fail
    go_ret
    exact ⟨by rw [HE.out]; rfl, rfl⟩
/-- The first that is not zero. -/
def orI (a b : Int) : Int := if a = 0 then b else a
set_option maxHeartbeats 2000000 in
theorem or_any (a b : Int) (k : Nat) (w : World) (h0 : w.cell? ⟨k, 0, none⟩ = some (.int .i64 a)) (h1 : w.cell? ⟨k, 1, none⟩ = some (.int .i64 b)) : Calls Try.prog 91 #[.slice (some ⟨k, 0, none⟩) 2 2] w fun e w' => e = .returned (.int .i64 (orI a b)) ∧ Below w.heap.size w w' := by
  obtain ⟨c, hc⟩ : ∃ c, c = orI a b := ⟨_, rfl⟩
  rw [← hc]
  have HC := hide hc
  clear hc
  have H0 := hide h0
  have H1 := hide h1
  clear h0 h1
  go_enter Try.func91, Try.ntmps91
  go_wp2_with fail
  go_loop [8] (fun ii => ∃ i : Nat, ii = .int .i64 i ∧ i ≤ 2 ∧ Hid (0 < i → a = 0) ∧ Hid (1 < i → b = 0)) (fun ii => (2 - (intOf ii).toNat))
  case atStart => exact ⟨0, rfl, by omega, hide (fun h => by omega), hide (fun h => by omega)⟩
  case round =>
    obtain ⟨i, rfl, hi, HA, HB⟩ := hrel
    have hi3 : i = 0 ∨ i = 1 ∨ i = 2 := by omega
    rcases hi3 with rfl | rfl | rfl
    · have q0 := H0.out
      by_cases ha : a = 0
      · have g1 : (a == 0) = true := by rw [ha]; rfl
        have HA2 := hide (show 0 < 1 → a = 0 from fun _ => ha)
        clear ha
        go_wp2_with fail
        go_round
        case rel => exact ⟨1, rfl, by omega, HA2, hide (fun h => by omega)⟩
        case measure => simp [intOf]
      · have g1 : (a == 0) = false := by rw [beq_eq_false_iff_ne]; exact ha
        have HE := hide (show c = a from by rw [HC.out]; unfold orI; rw [if_neg ha])
        clear ha
        go_wp2_with fail
        go_ret
        exact ⟨by rw [HE.out]; rfl, Below.refl _ _⟩
    · have q1 := H1.out
      have ha := HA.out (by omega)
      by_cases hb : b = 0
      · have g1 : (b == 0) = true := by rw [hb]; rfl
        have HA2 := hide (show 0 < 2 → a = 0 from fun _ => ha)
        have HB2 := hide (show 1 < 2 → b = 0 from fun _ => hb)
        clear ha hb
        go_wp2_with fail
        go_round
        case rel => exact ⟨2, rfl, by omega, HA2, HB2⟩
        case measure => simp [intOf]
      · have g1 : (b == 0) = false := by rw [beq_eq_false_iff_ne]; exact hb
        have HE := hide (show c = b from by rw [HC.out]; unfold orI; rw [if_pos ha])
        clear ha hb
        go_wp2_with fail
        go_ret
        exact ⟨by rw [HE.out]; rfl, Below.refl _ _⟩
    · have HE := hide (show c = 0 from by rw [HC.out]; unfold orI; rw [if_pos (HA.out (by omega)), HB.out (by omega)])
      go_wp2_with fail
      go_ret
      exact ⟨by rw [HE.out]; rfl, Below.refl _ _⟩
/-- How an item stands to a key and a start. -/
def cmpI (x : It) (k : List UInt8) (s : Int) : Int := orI (cmpL x.k k) (Lib.compareInt x.s s)
theorem orI_neg (a b : Int) : orI a b < 0 ↔ a < 0 ∨ a = 0 ∧ b < 0 := by unfold orI; split <;> omega
theorem orI_zero (a b : Int) : orI a b = 0 ↔ a = 0 ∧ b = 0 := by unfold orI; split <;> omega
theorem cmpN_neg (x y : Int) : Lib.compareInt x y < 0 ↔ x < y := by unfold Lib.compareInt; repeat' split <;> omega
theorem cmpN_zero (x y : Int) : Lib.compareInt x y = 0 ↔ x = y := by unfold Lib.compareInt; repeat' split <;> omega
theorem cmpI_neg (x : It) (k : List UInt8) (s : Int) : cmpI x k s < 0 ↔ aheadB x k s = true := by
  rw [ahead_iff]; unfold cmpI; rw [orI_neg, cmpL_neg, cmpL_zero, cmpN_neg]
theorem cmpI_zero (x : It) (k : List UInt8) (s : Int) : cmpI x k s = 0 ↔ x.k = k ∧ x.s = s := by
  unfold cmpI; rw [orI_zero, cmpL_zero, cmpN_zero]
/-- Two items in boxes. -/
structure Cb (x y : It) (w u : World) : Prop where
  a : Bx x w.heap.size u
  b : Bx y (w.heap.size + 1) u
  l : Below w.heap.size w u
def CbS (x y : It) (w u : World) : Prop := u.cell? ⟨w.heap.size, 0, none⟩ = some (.string (S x.k)) ∧ u.cell? ⟨w.heap.size, 1, none⟩ = some (.int .i64 x.s) ∧ u.cell? ⟨w.heap.size + 1, 0, none⟩ = some (.string (S y.k)) ∧ u.cell? ⟨w.heap.size + 1, 1, none⟩ = some (.int .i64 y.s)
theorem Cb.ob {x y : It} {w u : World} (h : Cb x y w u) : u.cell? ⟨w.heap.size, 0, none⟩ = some (.string (S x.k)) ∧ u.cell? ⟨w.heap.size, 1, none⟩ = some (.int .i64 x.s) ∧ u.cell? ⟨w.heap.size + 1, 0, none⟩ = some (.string (S y.k)) ∧ u.cell? ⟨w.heap.size + 1, 1, none⟩ = some (.int .i64 y.s) := ⟨h.a.c0, h.a.c1, h.b.c0, h.b.c1⟩
theorem Cb.later {x y : It} {w u u' : World} (h : Cb x y w u) (hb : Below u.heap.size u u') : Cb x y w u' := ⟨h.a.later hb h.a.lt, h.b.later hb h.b.lt, h.l.trans (hb.mono h.l.size)⟩
theorem Cb.new (x y : It) (w : World) : Cb x y w ((w.alloc (.cells #[.string (S x.k), .int .i64 x.s, .int .i64 x.e, .int .i64 x.id] 31)).alloc (.cells #[.string (S y.k), .int .i64 y.s, .int .i64 y.e, .int .i64 y.id] 31)) := by
  have h1 := below_alloc (w.alloc (.cells #[.string (S x.k), .int .i64 x.s, .int .i64 x.e, .int .i64 x.id] 31)) (.cells #[.string (S y.k), .int .i64 y.s, .int .i64 y.e, .int .i64 y.id] 31)
  have h2 := Bx.new (w.alloc (.cells #[.string (S x.k), .int .i64 x.s, .int .i64 x.e, .int .i64 x.id] 31)) y 31
  rw [show (w.alloc (.cells #[.string (S x.k), .int .i64 x.s, .int .i64 x.e, .int .i64 x.id] 31)).heap.size = w.heap.size + 1 from by simp] at h2
  exact ⟨(Bx.new w x 31).later h1 (by simp), h2, (below_alloc _ _).trans (h1.mono (by simp))⟩
theorem Cb.newD (x y : It) (w : World) : Cb x y w ((w.alloc (.cells #[.string (S x.k), .int .i64 x.s, .int .i64 x.e, .int .i64 x.id] 31)).alloc (.cells #[.string (S y.k), .int .i64 y.s, .int .i64 y.e, .int .i64 y.id] 31)).drew := (Cb.new x y w).later (Below.refl _ _).drew
set_option maxHeartbeats 2000000 in
set_option maxRecDepth 100000 in
theorem compare_any (x y : It) (w : World) : Calls Try.prog 89 #[.agg #[.string (S x.k), .int .i64 x.s, .int .i64 x.e, .int .i64 x.id], .agg #[.string (S y.k), .int .i64 y.s, .int .i64 y.e, .int .i64 y.id]] w fun e w' => e = .returned (.int .i64 (cmpI x y.k y.s)) ∧ Below w.heap.size w w' := by
  have T0 := hide (Cb.newD x y w)
  obtain ⟨c, hc⟩ : ∃ c, c = cmpL x.k y.k := ⟨_, rfl⟩
  obtain ⟨d, hd⟩ : ∃ d, d = Lib.compareInt x.s y.s := ⟨_, rfl⟩
  have HE := hide (show cmpI x y.k y.s = orI c d from by rw [hc, hd]; rfl)
  rw [HE.out]
  have C1 := hide (fun u => cmps_any x.k y.k u)
  have C2 := hide (fun u => Try.cmp_Compare_int x.s y.s u)
  rw [← hc] at C1
  rw [← hd] at C2
  clear hc hd
  go_enter Try.func89, Try.ntmps89
  go_wp2_with fail
  refine wp_region_held_drew (S := fun u => u.cell? ⟨w.heap.size, 0, none⟩ = some (.string (S x.k)) ∧ u.cell? ⟨w.heap.size, 1, none⟩ = some (.int .i64 x.s) ∧ u.cell? ⟨w.heap.size + 1, 0, none⟩ = some (.string (S y.k)) ∧ u.cell? ⟨w.heap.size + 1, 1, none⟩ = some (.int .i64 y.s)) (by kernel_rfl) T0.out.ob (fun hHeld => ?_)
  obtain ⟨wd, hwd⟩ : ∃ wd, wd = ((w.alloc (.cells #[.string (S x.k), .int .i64 x.s, .int .i64 x.e, .int .i64 x.id] 31)).alloc (.cells #[.string (S y.k), .int .i64 y.s, .int .i64 y.e, .int .i64 y.id] 31)).drew := ⟨_, rfl⟩
  rw [← hwd] at T0 hHeld ⊢
  clear hwd
  refine Man.t1 0 hHeld ?_
  (try simp only [Act.put, Mqa, Mqb, Mqc])
  refine Man.t1 1 hHeld ?_
  (try simp only [Act.put, Mqa, Mqb, Mqc])
  refine Man.t1 2 hHeld ?_
  (try simp only [Act.put, Mqa, Mqb, Mqc])
  refine Man.t1 3 hHeld ?_
  (try simp only [Act.put, Mqa, Mqb, Mqc])
  refine Man.t1 5 hHeld ?_
  (try simp only [Act.put, Mqa, Mqb, Mqc])
  refine Man.t1 6 hHeld ?_
  (try simp only [Act.put, Mqa, Mqb, Mqc])
  refine Man.t1 7 hHeld ?_
  (try simp only [Act.put, Mqa, Mqb, Mqc])
  refine Man.t1 8 hHeld ?_
  (try simp only [Act.put, Mqa, Mqb, Mqc])
  refine Man.one (i := 4) rfl (by kernel_rfl) (fun K9 hK => ?_)
  go_simp
  with_reducible refine (C1.out _).mono ?_
  rintro e w1 ⟨rfl, e9⟩
  have e8 := e9.symm
  clear e9
  subst e8
  refine hK.out _ _ hHeld (fun hNew => ?_)
  clear hK K9 hHeld
  have hHeld := hNew
  clear hNew
  (try simp only [Act.put, Mqa, Mqb, Mqc])
  refine Man.one (i := 9) rfl (by kernel_rfl) (fun K9 hK => ?_)
  go_simp
  with_reducible refine (C2.out _).mono ?_
  rintro e w1 ⟨rfl, e9⟩
  have e8 := e9.symm
  clear e9
  subst e8
  refine hK.out _ _ hHeld (fun hNew => ?_)
  clear hK K9 hHeld
  have hHeld := hNew
  clear hNew
  (try simp only [Act.put, Mqa, Mqb, Mqc])
  refine Man.one (i := 10) rfl (by kernel_rfl) (fun K9 hK => ?_)
  go_simp
  have HQ := hide (below_alloc wd (.cells #[.int .i64 c, .int .i64 d] 3))
  have HK1 := hide (show (wd.alloc (.cells #[.int .i64 c, .int .i64 d] 3)).cell? ⟨wd.heap.size, 0, none⟩ = some (.int .i64 c) ∧ (wd.alloc (.cells #[.int .i64 c, .int .i64 d] 3)).cell? ⟨wd.heap.size, 1, none⟩ = some (.int .i64 d) from ⟨by go_keep, by go_keep⟩)
  have T1 := hide (T0.out.later HQ.out)
  refine hK.out _ _ T1.out.ob (fun hNew => ?_)
  clear hK K9 hHeld
  have hHeld := hNew
  clear hNew
  (try simp only [Act.put, Mqa, Mqb, Mqc])
  refine Man.one (i := 11) rfl (by kernel_rfl) (fun K9 hK => ?_)
  go_simp
  with_reducible refine (or_any c d _ _ HK1.out.1 HK1.out.2).mono ?_
  rintro e w2 ⟨rfl, hb⟩
  have T2 := hide (T1.out.later hb)
  clear hb
  refine hK.out _ _ T2.out.ob (fun hNew => ?_)
  clear hK K9 hHeld
  have hHeld := hNew
  clear hNew
  (try simp only [Act.put, Mqa, Mqb, Mqc])
  refine Man.t1 12 hHeld ?_
  (try simp only [Act.put, Mqa, Mqb, Mqc])
  refine wpAnyH_done (by kernel_rfl) ?_ _
  go_wp2_with fail
  go_ret
  exact ⟨rfl, T2.out.l⟩
theorem compare_is {x : It} {k : List UInt8} {s c : Int} (h : cmpI x k s = c) (e d : Int) (w : World) : Calls Try.prog 89 #[.agg #[.string (S x.k), .int .i64 x.s, .int .i64 x.e, .int .i64 x.id], .agg #[.string (S k), .int .i64 s, .int .i64 e, .int .i64 d]] w fun e w' => e = .returned (.int .i64 c) ∧ Below w.heap.size w w' := h ▸ compare_any x ⟨k, s, e, d⟩ w
set_option maxHeartbeats 2000000 in
theorem of_any (x : It) (lo hi : List UInt8) (w : World) : Calls Try.prog 56 #[.agg #[.string (S x.k), .int .i64 x.s, .int .i64 x.e, .int .i64 x.id], .string (S lo), .string (S hi)] w fun e w' => e = .returned (.bool (amongB x.k lo hi)) ∧ Below w.heap.size w w' := by
  have HB := hide (below_alloc w (.cells #[.string (S x.k), .int .i64 x.s, .int .i64 x.e, .int .i64 x.id] 31))
  rcases h1 : Op.bytesLess x.k lo with _ | _
  · by_cases h2 : hi = []
    · subst h2
      have HE := hide (show amongB x.k lo [] = true from by unfold amongB; rw [h1]; simp)
      rw [HE.out]
      go_enter Try.func56, Try.ntmps56
      go_wp2_with fail
      go_ret
      exact ⟨rfl, HB.out⟩
    · have f2 : (hi == []) = false := by simpa using h2
      have f3 : ¬ hi.toArray = #[] := by simpa using h2
      rcases h3 : Op.bytesLess x.k hi with _ | _
      · have HE := hide (show amongB x.k lo hi = false from by unfold amongB; rw [h1, h3]; simp [h2])
        rw [HE.out]
        go_enter Try.func56, Try.ntmps56
        go_wp2_with fail
        go_ret
        exact ⟨ret_bool (by first | rfl | simp [h2]), HB.out⟩
      · have HE := hide (show amongB x.k lo hi = true from by unfold amongB; rw [h1, h3]; simp)
        rw [HE.out]
        go_enter Try.func56, Try.ntmps56
        go_wp2_with fail
        go_ret
        exact ⟨ret_bool (by first | rfl | simp [h2]), HB.out⟩
  · have HE := hide (show amongB x.k lo hi = false from by unfold amongB; rw [h1]; simp)
    rw [HE.out]
    go_enter Try.func56, Try.ntmps56
    go_wp2_with fail
    go_ret
    exact ⟨rfl, HB.out⟩
theorem of_is {x : It} {lo hi : List UInt8} {b : Bool} (h : amongB x.k lo hi = b) (w : World) : Calls Try.prog 56 #[.agg #[.string (S x.k), .int .i64 x.s, .int .i64 x.e, .int .i64 x.id], .string (S lo), .string (S hi)] w fun e w' => e = .returned (.bool b) ∧ Below w.heap.size w w' := h ▸ of_any x lo hi w
end Idx
end Go.Proofs.Ytapdhelioecneaa
