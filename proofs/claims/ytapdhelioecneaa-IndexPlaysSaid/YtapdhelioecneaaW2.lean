/- A block out of items. Condition: no more than a thousand items. -/
import Derived.Test.YtapdhelioecneaaW1
import Derived.Test.YtapdhelioecneaaMp
namespace Go.Proofs.Ytapdhelioecneaa
open Go.RowKit
namespace Idx
/-- A box of two cells. -/
structure B2 (v0 v1 : Value) (k : Nat) (w : World) : Prop where
  c0 : w.cell? ⟨k, 0, none⟩ = some v0
  c1 : w.cell? ⟨k, 1, none⟩ = some v1
  z0 : w.frozen? ⟨k, 0, none⟩ = false
  z1 : w.frozen? ⟨k, 1, none⟩ = false
  lt : k < w.heap.size
theorem B2.kept {v0 v1 : Value} {k : Nat} {w w' : World} (h : B2 v0 v1 k w) (hs : w.heap.size ≤ w'.heap.size) (e : w'.heap[k]? = w.heap[k]?) : B2 v0 v1 k w' :=
  ⟨by rw [World.cell?_of_block (a := ⟨k, 0, none⟩) e]; exact h.c0, by rw [World.cell?_of_block (a := ⟨k, 1, none⟩) e]; exact h.c1, by rw [World.frozen?_of_block (a := ⟨k, 0, none⟩) e]; exact h.z0, by rw [World.frozen?_of_block (a := ⟨k, 1, none⟩) e]; exact h.z1, Nat.lt_of_lt_of_le h.lt hs⟩
theorem B2.later {v0 v1 : Value} {k : Nat} {w w' : World} (h : B2 v0 v1 k w) (hb : Below w.heap.size w w') : B2 v0 v1 k w' := h.kept hb.size (hb.block k h.lt)
theorem B2.new (w : World) (v0 v1 : Value) (T : TypeId) {k : Nat} (hk : k = w.heap.size) : B2 v0 v1 k (w.alloc (.cells #[v0, v1] T)) := by subst hk; exact ⟨by go_keep, by go_keep, by go_keep, by go_keep, by simp⟩
theorem heap_set_other (w : World) (k j i : Nat) (u : Value) (h : i ≠ k) : (w.setCell ⟨k, j, none⟩ u).heap[i]? = w.heap[i]? := Below.heap_setCell _ _ _ _ h
theorem cell_set_same {w : World} {k j : Nat} {v u : Value} (h : w.cell? ⟨k, j, none⟩ = some v) : (w.setCell ⟨k, j, none⟩ u).cell? ⟨k, j, none⟩ = some u := World.cell?_setCell_same _ _ _ h
theorem cell_set_other {w : World} {k j i b : Nat} {v u : Value} (h : b ≠ k ∨ i ≠ j) (hv : w.cell? ⟨b, i, none⟩ = some v) : (w.setCell ⟨k, j, none⟩ u).cell? ⟨b, i, none⟩ = some v := (World.cell?_setCell_other _ _ _ _ (by simp; omega)).trans hv
theorem B2.set1 {v0 v1 : Value} {k : Nat} {w : World} (h : B2 v0 v1 k w) (u : Value) : B2 v0 u k (w.setCell ⟨k, 1, none⟩ u) := ⟨cell_set_other (.inr (by omega)) h.c0, cell_set_same h.c1, by rw [World.frozen?_setCell]; exact h.z0, by rw [World.frozen?_setCell]; exact h.z1, by simpa using h.lt⟩
theorem B2.set0 {v0 v1 : Value} {k : Nat} {w : World} (h : B2 v0 v1 k w) (u : Value) : B2 u v1 k (w.setCell ⟨k, 0, none⟩ u) := ⟨cell_set_same h.c0, cell_set_other (.inr (by omega)) h.c1, by rw [World.frozen?_setCell]; exact h.z0, by rw [World.frozen?_setCell]; exact h.z1, by simpa using h.lt⟩
theorem B2.other {v0 v1 : Value} {k b j : Nat} {w : World} (h : B2 v0 v1 k w) (hb : k ≠ b) (u : Value) : B2 v0 v1 k (w.setCell ⟨b, j, none⟩ u) := h.kept (by simp) (heap_set_other _ _ _ _ _ hb)
/-- Two cells that are returned out of a box. -/
theorem load_2 {T : TypeId} {v0 v1 : Value} {k : Nat} {w : World} (h : B2 v0 v1 k w) {d : TypeDesc} (hu : Try.prog.underlying T = some d) (hd : d.isRow = true) (hi : (Try.prog.info? T).map (·.size) = some 2) : (loadVar T ⟨k, 0, none⟩).run Try.prog w = .ok (.agg #[v0, v1]) w := by
  refine run_loadVar_mid (P := Try.prog) w k 0 T [v0, v1] _ (fun j v hj => ?_) hu hd hi
  match j, hj with
  | 0, hj => simp at hj; subst hj; exact h.c0
  | 1, hj => simp at hj; subst hj; exact h.c1
  | j + 2, hj => simp at hj
theorem load_blk {v0 v1 : Value} {k : Nat} {w : World} (h : B2 v0 v1 k w) : (loadVar 91 ⟨k, 0, none⟩).run Try.prog w = .ok (.agg #[v0, v1]) w := load_2 h Try.underlying91 rfl (by kernel_rfl)
theorem load_pla {v0 v1 : Value} {k : Nat} {w : World} (h : B2 v0 v1 k w) : (loadVar 74 ⟨k, 0, none⟩).run Try.prog w = .ok (.agg #[v0, v1]) w := load_2 h Try.underlying74 rfl (by kernel_rfl)
theorem results_cell {P : Program} {fn : Func} {p : Tmp} {ty : TypeId} (h : fn.results = #[.cell p ty]) (tmps : Array Value) (w : World) {ad : Addr} {v : Value} (hp : tmps.getD p undef = .pointer (some ad)) (hl : (loadVar ty ad).run P w = .ok v w) :
    (results fn tmps).run P w = .ok v w := by
  have hp' : tmps[p]?.getD undef = .pointer (some ad) := by simpa using hp
  simp [results, h, asAddr, hp', hl]
/-- The boxes of blockOf. -/
structure Bo (sl : Value) (m : Int) (w u : World) : Prop where
  r : B2 (.slice none 0 0) (.int .i64 0) w.heap.size u
  b : B2 sl (.int .i64 m) (w.heap.size + 1) u
  l : Below w.heap.size w u
theorem Bo.later {sl : Value} {m : Int} {w u u' : World} (h : Bo sl m w u) (hb : Below u.heap.size u u') : Bo sl m w u' := ⟨h.r.later hb, h.b.later hb, h.l.trans (hb.mono h.l.size)⟩
theorem Bo.new (sl : Value) (w : World) : Bo sl 0 w ((w.alloc (.cells #[.slice none 0 0, .int .i64 0] 91)).alloc (.cells #[sl, .int .i64 0] 91)) := by
  have h1 := below_alloc (w.alloc (.cells #[.slice none 0 0, .int .i64 0] 91)) (.cells #[sl, .int .i64 0] 91)
  exact ⟨(B2.new w _ _ 91 rfl).later h1, B2.new _ _ _ 91 (by simp), (below_alloc _ _).trans (h1.mono (by simp))⟩
theorem Bo.set {sl : Value} {m : Int} {w u : World} (h : Bo sl m w u) (m' : Int) : Bo sl m' w (u.setCell ⟨w.heap.size + 1, 1, none⟩ (.int .i64 m')) := ⟨h.r.other (by omega) _, h.b.set1 _, h.l.setCell (p := ⟨w.heap.size + 1, 1, none⟩) (by show w.heap.size ≤ w.heap.size + 1; omega) _⟩
/-- The box of an item beside them. -/
structure Bo2 (sl : Value) (m : Int) (x : It) (k : Nat) (w u : World) : Prop where
  o : Bo sl m w u
  x : Bx x k u
theorem Bo2.later {sl : Value} {m : Int} {x : It} {k : Nat} {w u u' : World} (h : Bo2 sl m x k w u) (hb : Below u.heap.size u u') : Bo2 sl m x k w u' := ⟨h.o.later hb, h.x.later hb h.x.lt⟩
theorem Bo2.ob {sl : Value} {m : Int} {x : It} {k : Nat} {w u : World} (h : Bo2 sl m x k w u) : u.cell? ⟨w.heap.size + 1, 1, none⟩ = some (.int .i64 m) ∧ u.frozen? ⟨w.heap.size + 1, 1, none⟩ = false ∧ u.cell? ⟨k, 0, none⟩ = some (.string (S x.k)) ∧ u.cell? ⟨k, 1, none⟩ = some (.int .i64 x.s) ∧ u.cell? ⟨k, 2, none⟩ = some (.int .i64 x.e) ∧ u.cell? ⟨k, 3, none⟩ = some (.int .i64 x.id) := ⟨h.o.b.c1, h.o.b.z1, h.x.c0, h.x.c1, h.x.c2, h.x.c3⟩
set_option maxHeartbeats 4000000 in
set_option maxRecDepth 100000 in
theorem block_any {l : List It} {sl : Value} {w : World} (h : ItemsAt l sl w) (hl : l.length ≤ 1000) : Calls Try.prog 47 #[sl] w fun e w' => e = .returned (.agg #[sl, .int .i64 (maxE l)]) ∧ Below w.heap.size w w' := by
  have IU := met_until
  obtain ⟨ao, cap, rfl, hcl, hcm⟩ := h.form
  have HA := hide h
  have HT := hide (Bo.new (.slice ao l.length cap) w)
  obtain ⟨n, hn⟩ : ∃ n, n = l.length := ⟨_, rfl⟩
  rw [← hn] at hcl hl HT ⊢
  have HN := hide hn
  clear h hn
  go_enter Try.func47, Try.ntmps47
  go_wp2_with fail
  go_loopw [10] (fun ii wr => ∃ i : Nat, ii = .int .i64 i ∧ i ≤ n ∧ Hid (Bo (.slice ao n cap) (maxE (l.take i)) w wr)) (fun ii _ => (n - (intOf ii).toNat))
  case atStart => exact ⟨0, rfl, by omega, HT⟩
  case round =>
    clear HT
    rename World => wr
    obtain ⟨i, rfl, hi, HO⟩ := hrel
    rcases Nat.lt_or_ge i n with hlt | hge
    · have g1 : (i : Int) < (n : Int) := by omega
      have hil : i < l.length := by rw [← HN.out]; exact hlt
      obtain ⟨b0, off, cap', he, hbw, k0, k1, k2, k3⟩ := (HA.out.later HO.out.l (Nat.le_refl _)).at i hil
      rw [← HN.out] at he
      simp only [Value.slice.injEq, true_and] at he
      obtain ⟨rfl, rfl⟩ := he
      have HTK := hide (maxE_take hil)
      obtain ⟨x, hx⟩ : ∃ x, x = l[i] := ⟨_, rfl⟩
      rw [← hx] at k0 k1 k2 k3 HTK
      obtain ⟨m, hm⟩ : ∃ m, m = maxE (l.take i) := ⟨_, rfl⟩
      rw [← hm] at HTK HO
      clear hx hbw hm
      obtain ⟨k, hk⟩ : ∃ k, k = wr.heap.size := ⟨_, rfl⟩
      have T0 := hide (show Bo2 (.slice (some ⟨b0, off, none⟩) n cap) m x k w (wr.alloc (.cells #[.string (S x.k), .int .i64 x.s, .int .i64 x.e, .int .i64 x.id] 31)).drew from (show Bo2 (.slice (some ⟨b0, off, none⟩) n cap) m x k w (wr.alloc (.cells #[.string (S x.k), .int .i64 x.s, .int .i64 x.e, .int .i64 x.id] 31)) from ⟨HO.out.later (below_alloc _ _), by rw [hk]; exact Bx.new wr x 31⟩).later (Below.refl _ _).drew)
      have HKE := hide hk
      have KNE := hide (show k ≠ w.heap.size + 1 from by have := HO.out.b.lt; omega)
      clear hk
      go_wp2_with fail
      rw [← HKE.out]
      refine Mp.region (S := fun u => u.cell? ⟨w.heap.size + 1, 1, none⟩ = some (.int .i64 m) ∧ u.frozen? ⟨w.heap.size + 1, 1, none⟩ = false ∧ u.cell? ⟨k, 0, none⟩ = some (.string (S x.k)) ∧ u.cell? ⟨k, 1, none⟩ = some (.int .i64 x.s) ∧ u.cell? ⟨k, 2, none⟩ = some (.int .i64 x.e) ∧ u.cell? ⟨k, 3, none⟩ = some (.int .i64 x.id)) 7 (by kernel_rfl) T0.out.ob (fun hHeld => ?_)
      obtain ⟨wd, hwd⟩ : ∃ wd, wd = (wr.alloc (.cells #[.string (S x.k), .int .i64 x.s, .int .i64 x.e, .int .i64 x.id] 31)).drew := ⟨_, rfl⟩
      rw [← hwd] at T0 hHeld ⊢
      clear hwd
      refine Mp.t1 0 hHeld ?_
      (try simp only [Act.put, Mqa, Mqb, Mqc])
      refine Mp.t1 1 hHeld ?_
      (try simp only [Act.put, Mqa, Mqb, Mqc])
      refine Mp.t1 2 hHeld ?_
      (try simp only [Act.put, Mqa, Mqb, Mqc])
      refine Mp.t1 3 hHeld ?_
      (try simp only [Act.put, Mqa, Mqb, Mqc])
      refine Mp.one (i := 4) rfl (by kernel_rfl) (fun K9 hK => ?_)
      go_simp
      with_reducible refine (until_any x _).mono ?_
      rintro e w1 ⟨rfl, hb⟩
      have T1 := hide (T0.out.later hb)
      clear hb
      refine hK.out _ _ T1.out.ob (fun hNew => ?_)
      clear hK K9 hHeld
      have hHeld := hNew
      clear hNew
      (try simp only [Act.put, Mqa, Mqb, Mqc])
      refine Mp.one (i := 5) rfl (by kernel_rfl) (fun K9 hK => ?_)
      go_simp
      refine hK.out _ _ hHeld (fun hNew => ?_)
      clear hK K9 hHeld
      have hHeld := hNew
      clear hNew
      (try simp only [Act.put, Mqa, Mqb, Mqc])
      refine Mp.t1 6 hHeld ?_
      (try simp only [Act.put, Mqa, Mqb, Mqc])
      refine Mp.last rfl (by kernel_rfl) (fun K9 hK => ?_)
      go_simp
      have T2 := hide (T1.out.o.set (max m x.e))
      refine hK.out _ _ ?_
      clear hK K9 hHeld
      (try simp only [Act.put, Mqa, Mqb, Mqc])
      refine Mp.done (by kernel_rfl) ?_ _
      go_wp2_with fail
      go_roundw
      case rel => exact ⟨i + 1, by go_num, by omega, by rw [HTK.out]; exact T2⟩
      case measure => simp [intOf]; omega
    · obtain rfl : i = n := by omega
      have g1 : ¬ (i : Int) < (i : Int) := by omega
      have HE := hide (show maxE (l.take i) = maxE l from by rw [HN.out, List.take_length])
      rw [HE.out] at HO
      clear HE
      obtain ⟨c0, c1, z0, z1, _⟩ := HO.out.r
      obtain ⟨d0, d1, _, _, _⟩ := HO.out.b
      go_wp2_with fail
      refine bodyPost_ret (results_cell rfl _ _ rfl (load_blk ((HO.out.r.set0 _).set1 _))) rfl ?_
      exact ⟨rfl, (HO.out.l.setCell (p := ⟨w.heap.size, 0, none⟩) (Nat.le_refl _) _).setCell (p := ⟨w.heap.size, 1, none⟩) (Nat.le_refl _) _⟩
end Idx
end Go.Proofs.Ytapdhelioecneaa
