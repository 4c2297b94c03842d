/- Contracts of the calls that look at intervals, and cut nothing: Has, Meet, Join of the program and of the document. No condition. -/
import Derived.Test.YtoacombaddknfaaIb
import Derived.Lib.MinMax
namespace Go.Proofs.Ytoacombaddknfaa
open Go.RowKit
namespace Spn
/-- An interval as a value. -/
def agp (s : Sp) : Value := .agg #[.int .i64 s.1, .int .i64 s.2]
theorem hide {p : Prop} (h : p) : Hid p := h
/-- Block k holds this interval. -/
structure At (s : Sp) (k : Nat) (w : World) : Prop where
  c0 : w.cell? ⟨k, 0, none⟩ = some (.int .i64 s.1)
  c1 : w.cell? ⟨k, 1, none⟩ = some (.int .i64 s.2)
  z : w.frozen? ⟨k, 0, none⟩ = false
  z1 : w.frozen? ⟨k, 1, none⟩ = false
  lt : k < w.heap.size
theorem At.later {s : Sp} {k n : Nat} {w w' : World} (h : At s k w) (hb : Below n w w') (hk : k < n) : At s k w' :=
  ⟨by rw [hb.cell (p := ⟨k, 0, none⟩) hk]; exact h.c0, by rw [hb.cell (p := ⟨k, 1, none⟩) hk]; exact h.c1, by rw [hb.frozen (p := ⟨k, 0, none⟩) hk]; exact h.z, by rw [hb.frozen (p := ⟨k, 1, none⟩) hk]; exact h.z1, Nat.lt_of_lt_of_le h.lt hb.size⟩
theorem At.new (w : World) (a b : Int) (T : TypeId) : At (a, b) w.heap.size (w.alloc (.cells #[.int .i64 a, .int .i64 b] T)) :=
  ⟨by go_keep, by go_keep, by go_keep, by go_keep, by simp⟩
theorem At.new' (w : World) (a b : Int) (T : TypeId) {k : Nat} (hk : k = w.heap.size) : At (a, b) k (w.alloc (.cells #[.int .i64 a, .int .i64 b] T)) := by subst hk; exact At.new w a b T
theorem below_alloc (w : World) (o : Obj) : Below w.heap.size w (w.alloc o) := (Below.refl _ _).alloc (Nat.le_refl _) _
theorem box1 {w w1 : World} {a b : Int} {T : TypeId} (hb : Below (w.alloc (.cells #[.int .i64 a, .int .i64 b] T)).heap.size (w.alloc (.cells #[.int .i64 a, .int .i64 b] T)) w1) :
    At (a, b) w.heap.size w1 ∧ Below w.heap.size w w1 := by
  have hlt : w.heap.size < (w.alloc (.cells #[.int .i64 a, .int .i64 b] T)).heap.size := by simp
  exact ⟨(At.new w a b T).later hb hlt, (below_alloc w _).trans (hb.mono (Nat.le_of_lt hlt))⟩
/-- Three boxes. -/
structure Three (w : World) (x y z : Sp) (w1 : World) : Prop where
  x : At x w.heap.size w1
  y : At y (w.heap.size + 1) w1
  z : At z (w.heap.size + 1 + 1) w1
  b : Below w.heap.size w w1
theorem Three.later {w w1 w2 : World} {x y z : Sp} (h : Three w x y z w1) (hb : Below w1.heap.size w1 w2) : Three w x y z w2 :=
  ⟨h.x.later hb h.x.lt, h.y.later hb h.y.lt, h.z.later hb h.z.lt, h.b.trans (hb.mono (Nat.le_of_lt h.x.lt))⟩
theorem Three.new (w : World) (a b c d e f : Int) (T U V : TypeId) : Three w (a, b) (c, d) (e, f) (((w.alloc (.cells #[.int .i64 a, .int .i64 b] T)).alloc (.cells #[.int .i64 c, .int .i64 d] U)).alloc (.cells #[.int .i64 e, .int .i64 f] V)) := by
  have h1 := At.new w a b T
  have h2 := At.new' (w.alloc (.cells #[.int .i64 a, .int .i64 b] T)) c d U (k := w.heap.size + 1) (by simp)
  have h3 := At.new' ((w.alloc (.cells #[.int .i64 a, .int .i64 b] T)).alloc (.cells #[.int .i64 c, .int .i64 d] U)) e f V (k := w.heap.size + 1 + 1) (by simp)
  have b1 := below_alloc w (.cells #[.int .i64 a, .int .i64 b] T)
  have b2 := below_alloc (w.alloc (.cells #[.int .i64 a, .int .i64 b] T)) (.cells #[.int .i64 c, .int .i64 d] U)
  have b3 := below_alloc ((w.alloc (.cells #[.int .i64 a, .int .i64 b] T)).alloc (.cells #[.int .i64 c, .int .i64 d] U)) (.cells #[.int .i64 e, .int .i64 f] V)
  exact ⟨(h1.later b2 h1.lt).later b3 (by simp; omega), h2.later b3 h2.lt, h3, (b1.trans (b2.mono (by simp))).trans (b3.mono (by simp; omega))⟩
theorem Three.off {w w1 : World} {x y z : Sp} (h : Three w x y z w1) : w.heap.size + 1 + 1 < w1.heap.size := h.z.lt
set_option maxRecDepth 100000 in
set_option maxHeartbeats 2000000 in
theorem has_any (a b t : Int) (w : World) :
    Calls Try.prog 33 #[.agg #[.int .i64 a, .int .i64 b], .int .i64 t] w fun e w' => e = .returned (.bool (decide (Has (a, b) t))) ∧ Below w.heap.size w w' := by
  by_cases h : Right (a, b)
  · by_cases h2 : a ≤ t
    · have C1 := fun w => right_yes h w
      go_enter Try.func33, Try.ntmps33
      go_wp2_with fail
      refine (C1 _).mono ?_
      rintro e w1 ⟨rfl, hb⟩
      obtain ⟨⟨k0, k1, _, _, _⟩, kb⟩ := box1 hb
      clear hb
      go_wp2_with fail
      go_ret
      exact ⟨ret_bool (decide_eq_decide.2 ⟨fun h9 => ⟨h, h2, h9⟩, fun h9 => h9.2.2⟩), kb⟩
    · have C1 := fun w => right_yes h w
      go_enter Try.func33, Try.ntmps33
      go_wp2_with fail
      refine (C1 _).mono ?_
      rintro e w1 ⟨rfl, hb⟩
      obtain ⟨⟨k0, k1, _, _, _⟩, kb⟩ := box1 hb
      clear hb
      go_wp2_with fail
      go_ret
      exact ⟨ret_bool (by rw [eq_comm, decide_eq_false_iff_not]; unfold Has; simp only; omega), kb⟩
  · have C1 := fun w => right_no h w
    go_enter Try.func33, Try.ntmps33
    go_wp2_with fail
    refine (C1 _).mono ?_
    rintro e w1 ⟨rfl, hb⟩
    obtain ⟨⟨k0, k1, _, _, _⟩, kb⟩ := box1 hb
    clear hb
    go_wp2_with fail
    go_ret
    exact ⟨ret_bool (by rw [eq_comm, decide_eq_false_iff_not]; exact fun h9 => h h9.1), kb⟩
set_option maxRecDepth 100000 in
set_option maxHeartbeats 2000000 in
theorem rhas_any (a b t : Int) (w : World) :
    Calls Try.prog 29 #[.agg #[.int .i64 a, .int .i64 b], .int .i64 t] w fun e w' => e = .returned (.bool (decide (Has (a, b) t))) ∧ Below w.heap.size w w' := by
  by_cases h : Right (a, b)
  · by_cases h2 : a ≤ t
    · have C1 := fun w => rright_yes h w
      go_enter Try.func29, Try.ntmps29
      go_wp2_with fail
      refine (C1 _).mono ?_
      rintro e w1 ⟨rfl, hb⟩
      obtain ⟨⟨k0, k1, _, _, _⟩, kb⟩ := box1 hb
      clear hb
      go_wp2_with fail
      go_ret
      exact ⟨ret_bool (decide_eq_decide.2 ⟨fun h9 => ⟨h, h2, h9⟩, fun h9 => h9.2.2⟩), kb⟩
    · have C1 := fun w => rright_yes h w
      go_enter Try.func29, Try.ntmps29
      go_wp2_with fail
      refine (C1 _).mono ?_
      rintro e w1 ⟨rfl, hb⟩
      obtain ⟨⟨k0, k1, _, _, _⟩, kb⟩ := box1 hb
      clear hb
      go_wp2_with fail
      go_ret
      exact ⟨ret_bool (by rw [eq_comm, decide_eq_false_iff_not]; unfold Has; simp only; omega), kb⟩
  · have C1 := fun w => rright_no h w
    go_enter Try.func29, Try.ntmps29
    go_wp2_with fail
    refine (C1 _).mono ?_
    rintro e w1 ⟨rfl, hb⟩
    obtain ⟨⟨k0, k1, _, _, _⟩, kb⟩ := box1 hb
    clear hb
    go_wp2_with fail
    go_ret
    exact ⟨ret_bool (by rw [eq_comm, decide_eq_false_iff_not]; exact fun h9 => h h9.1), kb⟩
theorem meet_yes {x y : Sp} (h : Meets x y) : meet x y = (mid x y, true) := if_pos h
theorem meet_no {x y : Sp} (h : ¬ Meets x y) : meet x y = ((0, 0), false) := if_neg h
theorem join_yes {x y : Sp} (h : Joins x y) : join x y = (wide x y, true) := if_pos h
theorem join_no {x y : Sp} (h : ¬ Joins x y) : join x y = ((0, 0), false) := if_neg h
theorem shut_pair {x y : Sp} {p q : Bool} (hx : x = y) (hp : p = q) : Ending.returned (.tuple #[agp x, .bool p]) = .returned (.tuple #[agp y, .bool q]) := by rw [hx, hp]
/-- Four boxes. -/
structure Four (w : World) (x y z v : Sp) (w1 : World) : Prop where
  t : Three w x y z w1
  v : At v (w.heap.size + 1 + 1 + 1) w1
theorem Four.later {w w1 w2 : World} {x y z v : Sp} (h : Four w x y z v w1) (hb : Below w1.heap.size w1 w2) : Four w x y z v w2 :=
  ⟨h.t.later hb, h.v.later hb h.v.lt⟩
theorem Four.new (w : World) (a b c d e f g h : Int) (T U V X : TypeId) : Four w (a, b) (c, d) (e, f) (g, h) ((((w.alloc (.cells #[.int .i64 a, .int .i64 b] T)).alloc (.cells #[.int .i64 c, .int .i64 d] U)).alloc (.cells #[.int .i64 e, .int .i64 f] V)).alloc (.cells #[.int .i64 g, .int .i64 h] X)) :=
  ⟨(Three.new w a b c d e f T U V).later (below_alloc _ _), At.new' _ g h X (by simp)⟩
theorem Three.four {w w1 : World} {x y z : Sp} (h3 : Three w x y z w1) (hs : w1.heap.size = w.heap.size + 1 + 1 + 1) (g h : Int) (X : TypeId) : Four w x y z (g, h) (w1.alloc (.cells #[.int .i64 g, .int .i64 h] X)) :=
  ⟨h3.later (below_alloc _ _), At.new' _ g h X hs.symm⟩
set_option maxRecDepth 100000 in
set_option maxHeartbeats 2000000 in
theorem meet_any (a b c d : Int) (w : World) :
    Calls Try.prog 59 #[.agg #[.int .i64 a, .int .i64 b], .agg #[.int .i64 c, .int .i64 d]] w fun e w' => e = .returned (.tuple #[agp (meet (a, b) (c, d)).1, .bool (meet (a, b) (c, d)).2]) ∧ Below w.heap.size w w' := by
  obtain ⟨m, hm⟩ : ∃ m, m = max a c := ⟨_, rfl⟩
  obtain ⟨n, hn⟩ : ∃ n, n = min b d := ⟨_, rfl⟩
  have f1 := hm.symm
  have f2 := hn.symm
  have E : mid (a, b) (c, d) = (m, n) := by simp only [mid]; rw [hm, hn]
  clear hm hn
  by_cases h1 : Right (a, b)
  · by_cases h2 : Right (c, d)
    · by_cases h3 : Right (m, n)
      · have C1 := fun w => right_yes h1 w
        have C2 := fun w => right_yes h2 w
        have C3 := fun w => right_yes h3 w
        go_enter Try.func59, Try.ntmps59
        go_wp2_with fail
        refine (C1 _).mono ?_
        rintro e w1 ⟨rfl, hb⟩
        have H1 := hide ((Four.new w _ _ _ _ _ _ _ _ _ _ _ _).later hb)
        clear hb
        obtain ⟨⟨x0, x1, _, _, _⟩, ⟨y0, y1, _, _, _⟩, ⟨z0, z1, zf, zg, _⟩, _⟩ := H1.out.t
        obtain ⟨v0, v1, _, _, _⟩ := H1.out.v
        go_wp2_with fail
        refine (C2 _).mono ?_
        rintro e w2 ⟨rfl, hb⟩
        have H2 := hide (H1.out.later hb)
        clear H1 x0 x1 y0 y1 z0 z1 zf zg v0 v1
        clear hb
        obtain ⟨⟨x0, x1, _, _, _⟩, ⟨y0, y1, _, _, _⟩, ⟨z0, z1, zf, zg, _⟩, _⟩ := H2.out.t
        obtain ⟨v0, v1, _, _, _⟩ := H2.out.v
        go_wp2_with fail
        refine (C3 _).mono ?_
        rintro e w3 ⟨rfl, hb⟩
        have H3 := hide (H2.out.later hb)
        clear H2 x0 x1 y0 y1 z0 z1 zf zg v0 v1
        clear hb
        obtain ⟨⟨x0, x1, _, _, _⟩, ⟨y0, y1, _, _, _⟩, ⟨z0, z1, zf, zg, _⟩, _⟩ := H3.out.t
        obtain ⟨v0, v1, _, _, _⟩ := H3.out.v
        go_wp2_with fail
        refine bodyPost_ret (v := .tuple #[agp ((m, n) : Sp), .bool true]) (by simp [results, Try.results59, go_sem, agp, *]) rfl ?_
        refine ⟨by rw [meet_yes ⟨h1, h2, by rw [E]; exact h3⟩, E], ?_⟩
        exact (H3.out.t.b.setCell (by show w.heap.size ≤ w.heap.size + 1 + 1; omega) _).setCell (by show w.heap.size ≤ w.heap.size + 1 + 1; omega) _
      · have C1 := fun w => right_yes h1 w
        have C2 := fun w => right_yes h2 w
        have C3 := fun w => right_no h3 w
        go_enter Try.func59, Try.ntmps59
        go_wp2_with fail
        refine (C1 _).mono ?_
        rintro e w1 ⟨rfl, hb⟩
        have H1 := hide ((Four.new w _ _ _ _ _ _ _ _ _ _ _ _).later hb)
        clear hb
        obtain ⟨⟨x0, x1, _, _, _⟩, ⟨y0, y1, _, _, _⟩, ⟨z0, z1, zf, zg, _⟩, _⟩ := H1.out.t
        obtain ⟨v0, v1, _, _, _⟩ := H1.out.v
        go_wp2_with fail
        refine (C2 _).mono ?_
        rintro e w2 ⟨rfl, hb⟩
        have H2 := hide (H1.out.later hb)
        clear H1 x0 x1 y0 y1 z0 z1 zf zg v0 v1
        clear hb
        obtain ⟨⟨x0, x1, _, _, _⟩, ⟨y0, y1, _, _, _⟩, ⟨z0, z1, zf, zg, _⟩, _⟩ := H2.out.t
        obtain ⟨v0, v1, _, _, _⟩ := H2.out.v
        go_wp2_with fail
        refine (C3 _).mono ?_
        rintro e w3 ⟨rfl, hb⟩
        have H3 := hide (H2.out.later hb)
        clear H2 x0 x1 y0 y1 z0 z1 zf zg v0 v1
        clear hb
        obtain ⟨⟨x0, x1, _, _, _⟩, ⟨y0, y1, _, _, _⟩, ⟨z0, z1, zf, zg, _⟩, _⟩ := H3.out.t
        obtain ⟨v0, v1, _, _, _⟩ := H3.out.v
        go_wp2_with fail
        refine bodyPost_ret (v := .tuple #[agp ((0, 0) : Sp), .bool false]) (by simp [results, Try.results59, go_sem, agp, *]) rfl ?_
        refine ⟨by rw [meet_no (fun h => h3 (by rw [← E]; exact h.2.2))], ?_⟩
        exact (H3.out.t.b.setCell (by show w.heap.size ≤ w.heap.size + 1 + 1; omega) _).setCell (by show w.heap.size ≤ w.heap.size + 1 + 1; omega) _
    · have C1 := fun w => right_yes h1 w
      have C2 := fun w => right_no h2 w
      go_enter Try.func59, Try.ntmps59
      go_wp2_with fail
      refine (C1 _).mono ?_
      rintro e w1 ⟨rfl, hb⟩
      have H1 := hide ((Four.new w _ _ _ _ _ _ _ _ _ _ _ _).later hb)
      clear hb
      obtain ⟨⟨x0, x1, _, _, _⟩, ⟨y0, y1, _, _, _⟩, ⟨z0, z1, zf, zg, _⟩, _⟩ := H1.out.t
      obtain ⟨v0, v1, _, _, _⟩ := H1.out.v
      go_wp2_with fail
      refine (C2 _).mono ?_
      rintro e w2 ⟨rfl, hb⟩
      have H2 := hide (H1.out.later hb)
      clear H1 x0 x1 y0 y1 z0 z1 zf zg v0 v1
      clear hb
      obtain ⟨⟨x0, x1, _, _, _⟩, ⟨y0, y1, _, _, _⟩, ⟨z0, z1, zf, zg, _⟩, _⟩ := H2.out.t
      obtain ⟨v0, v1, _, _, _⟩ := H2.out.v
      go_wp2_with fail
      refine bodyPost_ret (v := .tuple #[agp ((0, 0) : Sp), .bool false]) (by simp [results, Try.results59, go_sem, agp, *]) rfl ?_
      refine ⟨by rw [meet_no (fun h => h2 h.2.1)], ?_⟩
      exact (H2.out.t.b.setCell (by show w.heap.size ≤ w.heap.size + 1 + 1; omega) _).setCell (by show w.heap.size ≤ w.heap.size + 1 + 1; omega) _
  · have C1 := fun w => right_no h1 w
    go_enter Try.func59, Try.ntmps59
    go_wp2_with fail
    refine (C1 _).mono ?_
    rintro e w1 ⟨rfl, hb⟩
    have H1 := hide ((Four.new w _ _ _ _ _ _ _ _ _ _ _ _).later hb)
    clear hb
    obtain ⟨⟨x0, x1, _, _, _⟩, ⟨y0, y1, _, _, _⟩, ⟨z0, z1, zf, zg, _⟩, _⟩ := H1.out.t
    obtain ⟨v0, v1, _, _, _⟩ := H1.out.v
    go_wp2_with fail
    refine bodyPost_ret (v := .tuple #[agp ((0, 0) : Sp), .bool false]) (by simp [results, Try.results59, go_sem, agp, *]) rfl ?_
    refine ⟨by rw [meet_no (fun h => h1 h.1)], ?_⟩
    exact (H1.out.t.b.setCell (by show w.heap.size ≤ w.heap.size + 1 + 1; omega) _).setCell (by show w.heap.size ≤ w.heap.size + 1 + 1; omega) _
set_option maxRecDepth 100000 in
set_option maxHeartbeats 2000000 in
theorem rmeet_any (a b c d : Int) (w : World) :
    Calls Try.prog 30 #[.agg #[.int .i64 a, .int .i64 b], .agg #[.int .i64 c, .int .i64 d]] w fun e w' => e = .returned (.tuple #[agp (meet (a, b) (c, d)).1, .bool (meet (a, b) (c, d)).2]) ∧ Below w.heap.size w w' := by
  obtain ⟨m, hm⟩ : ∃ m, m = max a c := ⟨_, rfl⟩
  obtain ⟨n, hn⟩ : ∃ n, n = min b d := ⟨_, rfl⟩
  have f1 := hm.symm
  have f2 := hn.symm
  have E : mid (a, b) (c, d) = (m, n) := by simp only [mid]; rw [hm, hn]
  clear hm hn
  by_cases h1 : Right (a, b)
  · by_cases h2 : Right (c, d)
    · by_cases h3 : m < n
      · have C1 := fun w => rright_yes h1 w
        have C2 := fun w => rright_yes h2 w
        go_enter Try.func30, Try.ntmps30
        go_wp2_with fail
        refine (C1 _).mono ?_
        rintro e w1 ⟨rfl, hb⟩
        have H1 := hide ((Three.new w _ _ _ _ _ _ _ _ _).later hb)
        clear hb
        obtain ⟨⟨x0, x1, _, _, _⟩, ⟨y0, y1, _, _, _⟩, ⟨z0, z1, zf, zg, _⟩, _⟩ := H1.out
        go_wp2_with fail
        refine (C2 _).mono ?_
        rintro e w2 ⟨rfl, hb⟩
        have H2 := hide (H1.out.later hb)
        clear H1 x0 x1 y0 y1 z0 z1 zf zg
        clear hb
        obtain ⟨⟨x0, x1, _, _, _⟩, ⟨y0, y1, _, _, _⟩, ⟨z0, z1, zf, zg, _⟩, _⟩ := H2.out
        go_wp2_with fail
        refine bodyPost_ret (v := .tuple #[agp ((m, n) : Sp), .bool true]) (by simp [results, Try.results30, go_sem, agp, *]) rfl ?_
        refine ⟨by rw [meet_yes ((meets_iff _ _).2 ⟨h1, h2, by rw [f1, f2]; exact h3⟩), E], ?_⟩
        refine Below.alloc (Below.setCell (Below.setCell H2.out.b ?_ _) ?_ _) ?_ _
        · show w.heap.size ≤ w.heap.size + 1 + 1; omega
        · show w.heap.size ≤ w.heap.size + 1 + 1; omega
        · have := H2.out.x.lt; simp; omega
      · have C1 := fun w => rright_yes h1 w
        have C2 := fun w => rright_yes h2 w
        go_enter Try.func30, Try.ntmps30
        go_wp2_with fail
        refine (C1 _).mono ?_
        rintro e w1 ⟨rfl, hb⟩
        have H1 := hide ((Three.new w _ _ _ _ _ _ _ _ _).later hb)
        clear hb
        obtain ⟨⟨x0, x1, _, _, _⟩, ⟨y0, y1, _, _, _⟩, ⟨z0, z1, zf, zg, _⟩, _⟩ := H1.out
        go_wp2_with fail
        refine (C2 _).mono ?_
        rintro e w2 ⟨rfl, hb⟩
        have H2 := hide (H1.out.later hb)
        clear H1 x0 x1 y0 y1 z0 z1 zf zg
        clear hb
        obtain ⟨⟨x0, x1, _, _, _⟩, ⟨y0, y1, _, _, _⟩, ⟨z0, z1, zf, zg, _⟩, _⟩ := H2.out
        go_wp2_with fail
        refine bodyPost_ret (v := .tuple #[agp ((0, 0) : Sp), .bool false]) (by simp [results, Try.results30, go_sem, agp, *]) rfl ?_
        refine ⟨by rw [meet_no (fun h => by have := ((meets_iff _ _).1 h).2.2; rw [f1, f2] at this; omega)], ?_⟩
        refine Below.alloc (Below.setCell (Below.setCell H2.out.b ?_ _) ?_ _) ?_ _
        · show w.heap.size ≤ w.heap.size + 1 + 1; omega
        · show w.heap.size ≤ w.heap.size + 1 + 1; omega
        · have := H2.out.x.lt; simp; omega
    · have C1 := fun w => rright_yes h1 w
      have C2 := fun w => rright_no h2 w
      go_enter Try.func30, Try.ntmps30
      go_wp2_with fail
      refine (C1 _).mono ?_
      rintro e w1 ⟨rfl, hb⟩
      have H1 := hide ((Three.new w _ _ _ _ _ _ _ _ _).later hb)
      clear hb
      obtain ⟨⟨x0, x1, _, _, _⟩, ⟨y0, y1, _, _, _⟩, ⟨z0, z1, zf, zg, _⟩, _⟩ := H1.out
      go_wp2_with fail
      refine (C2 _).mono ?_
      rintro e w2 ⟨rfl, hb⟩
      have H2 := hide (H1.out.later hb)
      clear H1 x0 x1 y0 y1 z0 z1 zf zg
      clear hb
      obtain ⟨⟨x0, x1, _, _, _⟩, ⟨y0, y1, _, _, _⟩, ⟨z0, z1, zf, zg, _⟩, _⟩ := H2.out
      go_wp2_with fail
      refine bodyPost_ret (v := .tuple #[agp ((0, 0) : Sp), .bool false]) (by simp [results, Try.results30, go_sem, agp, *]) rfl ?_
      refine ⟨by rw [meet_no (fun h => h2 h.2.1)], ?_⟩
      exact (H2.out.b.setCell (by show w.heap.size ≤ w.heap.size + 1 + 1; omega) _).setCell (by show w.heap.size ≤ w.heap.size + 1 + 1; omega) _
  · have C1 := fun w => rright_no h1 w
    go_enter Try.func30, Try.ntmps30
    go_wp2_with fail
    refine (C1 _).mono ?_
    rintro e w1 ⟨rfl, hb⟩
    have H1 := hide ((Three.new w _ _ _ _ _ _ _ _ _).later hb)
    clear hb
    obtain ⟨⟨x0, x1, _, _, _⟩, ⟨y0, y1, _, _, _⟩, ⟨z0, z1, zf, zg, _⟩, _⟩ := H1.out
    go_wp2_with fail
    refine bodyPost_ret (v := .tuple #[agp ((0, 0) : Sp), .bool false]) (by simp [results, Try.results30, go_sem, agp, *]) rfl ?_
    refine ⟨by rw [meet_no (fun h => h1 h.1)], ?_⟩
    exact (H1.out.b.setCell (by show w.heap.size ≤ w.heap.size + 1 + 1; omega) _).setCell (by show w.heap.size ≤ w.heap.size + 1 + 1; omega) _
end Spn
end Go.Proofs.Ytoacombaddknfaa
