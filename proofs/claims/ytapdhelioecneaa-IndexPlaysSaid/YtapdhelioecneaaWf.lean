/- The searches in halves, among items and among blocks. Condition: no more than a thousand of them. -/
import Derived.Test.YtapdhelioecneaaWe
import Derived.Test.YtapdhelioecneaaW3
namespace Go.Proofs.Ytapdhelioecneaa
open Go.RowKit
namespace Idx
theorem BksAt.form {l : List Bkm} {v : Value} {w : World} (h : BksAt l v w) : ∃ ao cap, v = .slice ao l.length cap ∧ l.length ≤ cap ∧ cap ≤ 9223372036854775807 := by
  obtain ⟨ao, cap, h1, hc, hm, _⟩ := h
  exact ⟨ao, cap, h1, hc, hm⟩
/-- What a search in halves comes to. -/
def SrP (l : List It) (k : List UInt8) (s : Int) (w : World) (e : Ending) (w' : World) : Prop := ∃ (i : Nat) (f : Bool), e = .returned (.tuple #[.int .i64 i, .bool f]) ∧ SrI l k s i f ∧ Below w.heap.size w w'
theorem up_le {l : List It} (h : Up l) {k : List UInt8} {s : Int} {i j : Nat} (hi : i < l.length) (hj : j < l.length) (hij : i ≤ j) (hx : aheadB l[j] k s = true) : aheadB l[i] k s = true := by
  rcases Nat.eq_or_lt_of_le hij with e | hlt
  · subst e; exact hx
  · exact ahead_trans (up_at h i j hi hj hlt) hx
structure Hb (m : Int) (x t : It) (g off n cap : Nat) (w u : World) : Prop where
  c : u.cell? ⟨w.heap.size, 0, none⟩ = some (.slice (some ⟨g, off, none⟩) n cap) ∧ u.cell? ⟨g, off, none⟩ = some (.string (S x.k)) ∧ u.cell? ⟨g, off + 1, none⟩ = some (.int .i64 x.s) ∧ u.cell? ⟨g, off + 2, none⟩ = some (.int .i64 x.e) ∧ u.cell? ⟨g, off + 3, none⟩ = some (.int .i64 x.id) ∧ u.cell? ⟨(w.heap.size + 1), 0, none⟩ = some (.string (S t.k)) ∧ u.cell? ⟨(w.heap.size + 1), 1, none⟩ = some (.int .i64 t.s) ∧ u.cell? ⟨(w.heap.size + 1), 2, none⟩ = some (.int .i64 t.e) ∧ u.cell? ⟨(w.heap.size + 1), 3, none⟩ = some (.int .i64 t.id)
  l : Below w.heap.size w u
  lt : g < w.heap.size
theorem Hb.later {m : Int} {x t : It} {g off n cap : Nat} {w u u' : World} (h : Hb m x t g off n cap w u) (hb : Below u.heap.size u u') : Hb m x t g off n cap w u' := by
  obtain ⟨⟨c0, c1, c2, c3, c4, c5, c6, c7, c8⟩, hl, hg⟩ := h
  exact ⟨⟨cell_later hb c0, cell_later hb c1, cell_later hb c2, cell_later hb c3, cell_later hb c4, cell_later hb c5, cell_later hb c6, cell_later hb c7, cell_later hb c8⟩, hl.trans (hb.mono hl.size), hg⟩
set_option maxHeartbeats 2000000 in
set_option maxRecDepth 100000 in
theorem begins_any {b : Bkm} {w : World} (t : It) (h : ItemsAt b.xs b.th w) (h1 : 1 ≤ b.xs.length) (hl : b.xs.length ≤ 1000) : Calls Try.prog 59 #[.agg #[.slice b.ao b.xs.length b.cap, .int .i64 (maxE b.xs)], .agg #[.string (S t.k), .int .i64 t.s, .int .i64 t.e, .int .i64 t.id]] w fun e w' => e = .returned (.int .i64 (cmpI (b0 b) t.k t.s)) ∧ Below w.heap.size w w' := by
  obtain ⟨g, off, cap', he, hg, k0, k1, k2, k3⟩ := h.at 0 (by omega)
  rw [b0_at (by omega)] at k0 k1 k2 k3
  unfold Bkm.th at he
  simp only [Value.slice.injEq, true_and] at he
  obtain ⟨ha, hc⟩ := he
  rw [ha]
  obtain ⟨n, hn⟩ : ∃ n, n = b.xs.length := ⟨_, rfl⟩
  obtain ⟨m, hm⟩ : ∃ m, m = maxE b.xs := ⟨_, rfl⟩
  obtain ⟨cap, hcap⟩ : ∃ cap, cap = b.cap := ⟨_, rfl⟩
  obtain ⟨x, hx⟩ : ∃ x, x = b0 b := ⟨_, rfl⟩
  rw [← hn, ← hm, ← hcap, ← hx]
  rw [← hx] at k0 k1 k2 k3
  rw [← hn] at h1 hl
  simp only [Nat.zero_mul, Nat.add_zero] at k0 k1 k2 k3
  have T0 := hide (show Hb m x t g off n cap w ((w.alloc (.cells #[.slice (some ⟨g, off, none⟩) n cap, .int .i64 m] 91)).alloc (.cells #[.string (S t.k), .int .i64 t.s, .int .i64 t.e, .int .i64 t.id] 31)).drew from by
    have q1 := below_alloc w (.cells #[.slice (some ⟨g, off, none⟩) n cap, .int .i64 m] 91)
    have q2 := below_alloc (w.alloc (.cells #[.slice (some ⟨g, off, none⟩) n cap, .int .i64 m] 91)) (.cells #[.string (S t.k), .int .i64 t.s, .int .i64 t.e, .int .i64 t.id] 31)
    have q3 := q1.trans (q2.mono q1.size)
    have hb2 := Bx.new (w.alloc (.cells #[.slice (some ⟨g, off, none⟩) n cap, .int .i64 m] 91)) t 31
    rw [show (w.alloc (.cells #[.slice (some ⟨g, off, none⟩) n cap, .int .i64 m] 91)).heap.size = w.heap.size + 1 from by simp] at hb2
    have hb1 := (B2.new w (.slice (some ⟨g, off, none⟩) n cap) (.int .i64 m) 91 rfl).later q2
    exact (show Hb m x t g off n cap w ((w.alloc (.cells #[.slice (some ⟨g, off, none⟩) n cap, .int .i64 m] 91)).alloc (.cells #[.string (S t.k), .int .i64 t.s, .int .i64 t.e, .int .i64 t.id] 31)) from ⟨⟨hb1.c0, cell_later q3 k0, cell_later q3 k1, cell_later q3 k2, cell_later q3 k3, hb2.c0, hb2.c1, hb2.c2, hb2.c3⟩, q3, hg⟩).later (Below.refl _ _).drew)
  obtain ⟨c, hc9⟩ : ∃ c, cmpI x t.k t.s = c := ⟨_, rfl⟩
  have HC := hide hc9
  rw [hc9]
  have MC := met_compare
  have g1 : 0 < n := by omega
  clear hn hm hcap hx k0 k1 k2 k3 ha hc h hc9
  go_enter Try.func59, Try.ntmps59
  go_wp2_with fail
  refine wp_region_held_drew (S := fun u => u.cell? ⟨w.heap.size, 0, none⟩ = some (.slice (some ⟨g, off, none⟩) n cap) ∧ u.cell? ⟨g, off, none⟩ = some (.string (S x.k)) ∧ u.cell? ⟨g, off + 1, none⟩ = some (.int .i64 x.s) ∧ u.cell? ⟨g, off + 2, none⟩ = some (.int .i64 x.e) ∧ u.cell? ⟨g, off + 3, none⟩ = some (.int .i64 x.id) ∧ u.cell? ⟨(w.heap.size + 1), 0, none⟩ = some (.string (S t.k)) ∧ u.cell? ⟨(w.heap.size + 1), 1, none⟩ = some (.int .i64 t.s) ∧ u.cell? ⟨(w.heap.size + 1), 2, none⟩ = some (.int .i64 t.e) ∧ u.cell? ⟨(w.heap.size + 1), 3, none⟩ = some (.int .i64 t.id)) (by kernel_rfl) T0.out.c (fun hHeld => ?_)
  obtain ⟨wd, hwd⟩ : ∃ wd, wd = ((w.alloc (.cells #[.slice (some ⟨g, off, none⟩) n cap, .int .i64 m] 91)).alloc (.cells #[.string (S t.k), .int .i64 t.s, .int .i64 t.e, .int .i64 t.id] 31)).drew := ⟨_, rfl⟩
  rw [← hwd] at T0 hHeld ⊢
  clear hwd
  refine Man.t1 0 hHeld ?_
  (try simp only [Act.put, Mqa, Mqb, Mqc])
  refine Man.t1 1 hHeld ?_
  (try simp only [Act.put, Mqa, Mqb, Mqc])
  refine Man.t1 2 hHeld ?_
  (try simp only [Act.put, Mqa, Mqb, Mqc])
  refine Man.t1 3 hHeld ?_
  (try simp only [Act.put, Mqa, Mqb, Mqc])
  refine Man.t1 4 hHeld ?_
  (try simp only [Act.put, Mqa, Mqb, Mqc])
  refine Man.t1 5 hHeld ?_
  (try simp only [Act.put, Mqa, Mqb, Mqc])
  refine Man.one (i := 6) rfl (by kernel_rfl) (fun K9 hK => ?_)
  go_simp
  with_reducible refine (compare_is HC.out t.e t.id _).mono ?_
  rintro e w1 ⟨rfl, hb⟩
  have T1 := hide (T0.out.later hb)
  clear hb
  refine hK.out _ _ T1.out.c (fun hNew => ?_)
  clear hK K9 hHeld
  have hHeld := hNew
  clear hNew
  (try simp only [Act.put, Mqa, Mqb, Mqc])
  refine Man.t1 7 hHeld ?_
  (try simp only [Act.put, Mqa, Mqb, Mqc])
  refine wpAnyH_done (by kernel_rfl) ?_ _
  go_wp2_with fail
  go_ret
  exact ⟨rfl, T1.out.l⟩
theorem begins_is {b : Bkm} {w : World} {t : It} {c : Int} (hc : cmpI (b0 b) t.k t.s = c) (h : ItemsAt b.xs b.th w) (h1 : 1 ≤ b.xs.length) (hl : b.xs.length ≤ 1000) : Calls Try.prog 59 #[.agg #[.slice b.ao b.xs.length b.cap, .int .i64 (maxE b.xs)], .agg #[.string (S t.k), .int .i64 t.s, .int .i64 t.e, .int .i64 t.id]] w fun e w' => e = .returned (.int .i64 c) ∧ Below w.heap.size w w' := hc ▸ begins_any t h h1 hl
set_option maxHeartbeats 8000000 in
set_option maxRecDepth 100000 in
theorem si_any {l : List It} {sl : Value} {w : World} (t : It) (h : ItemsAt l sl w) (hl9 : l.length ≤ 1000) (hup : Up l) :
    Calls Try.prog 46 #[sl, .agg #[.string (S t.k), .int .i64 t.s, .int .i64 t.e, .int .i64 t.id], .func (.methodOf 31 "memoir/index.compare") #[] #[]] w fun e w' => SrP l t.k t.s w e w' := by
  have MC := met_compare
  obtain ⟨so, sc, rfl, _, _⟩ := h.form
  have HA := hide h
  obtain ⟨n, hn⟩ : ∃ n, n = l.length := ⟨_, rfl⟩
  rw [← hn] at hl9 ⊢
  have HN := hide (show n = l.length from hn)
  have HNB := hide hn
  have HU := hide hup
  have HT0 := hide (Bx.new w t 31)
  have HB0 := hide (below_alloc w (.cells #[.string (S t.k), .int .i64 t.s, .int .i64 t.e, .int .i64 t.id] 31))
  clear h hn hup
  go_enter Try.func46, Try.ntmps46
  go_wp2_with fail
  go_loopw [9, 10] (fun iv jv wr => ∃ i j : Nat, iv = .int .i64 i ∧ jv = .int .i64 j ∧ i ≤ j ∧ j ≤ n ∧ Hid (∀ (q : Nat) (hq : q < l.length), q < i → aheadB l[q] t.k t.s = true) ∧ Hid (∀ (q : Nat) (hq : q < l.length), j ≤ q → aheadB l[q] t.k t.s = false) ∧ Hid (Below w.heap.size w wr) ∧ Hid (Bx t w.heap.size wr)) (fun iv jv _ => (intOf jv).toNat - (intOf iv).toNat)
  case atStart => exact ⟨0, n, rfl, rfl, by omega, by omega, hide (fun q _ h0 => by omega), hide (fun q hq h0 => by have := HN.out; omega), HB0, HT0⟩
  case round =>
    clear HB0 HT0
    rename World => wr
    obtain ⟨i, j, rfl, rfl, hij, hj, HL, HG, HB, HT⟩ := hrel
    rcases Nat.lt_or_ge i j with hlt | hge
    · have g1 : (i : Int) < (j : Int) := by omega
      obtain ⟨s, hsd⟩ : ∃ s, s = i + j := ⟨_, rfl⟩
      obtain ⟨q, hq⟩ : ∃ q, q = s / 2 := ⟨_, rfl⟩
      have e1 : (i : Int) + (j : Int) = (s : Int) := by omega
      have e2 : (s : Int) / 2 = (q : Int) := by omega
      have e3 : IntKind.i64.wrap (s : Int) = (s : Int) := by simp only [IntKind.wrap_i64]; omega
      have e4 : IntKind.u64.wrap (s : Int) = (s : Int) := by simp only [IntKind.wrap_u64]; omega
      have e5 : IntKind.i64.wrap (q : Int) = (q : Int) := by simp only [IntKind.wrap_i64]; omega
      have hqi : i ≤ q := by omega
      have hqj : q < j := by omega
      have hql : q < l.length := by rw [← HN.out]; omega
      have hqb : q < l.length := by rw [← HNB.out]; omega
      have g2 : (q : Int) < (n : Int) := by omega
      have HSD := hide hsd
      have HQ := hide hq
      obtain ⟨bk, off, cap, he, hbw, k0, k1, k2, k3⟩ := (HA.out.later HB.out (Nat.le_refl _)).at q hqb
      rw [← HNB.out] at he
      simp only [Value.slice.injEq, true_and] at he
      obtain ⟨rfl, rfl⟩ := he
      have HLX := hide (show aheadB l[q] t.k t.s = true → ∀ (z : Nat) (hz : z < l.length), z < q + 1 → aheadB l[z] t.k t.s = true from fun h9 z hz hzq => up_le HU.out hz hql (by omega) h9)
      have HGX := hide (show aheadB l[q] t.k t.s = false → ∀ (z : Nat) (hz : z < l.length), q ≤ z → aheadB l[z] t.k t.s = false from fun h9 z hz hzq => by
        cases h8 : aheadB l[z] t.k t.s with
        | false => rfl
        | true => rw [up_le HU.out hql hz hzq h8] at h9; cases h9)
      obtain ⟨x, hx⟩ : ∃ x, x = l[q] := ⟨_, rfl⟩
      rw [← hx] at k0 k1 k2 k3 HLX HGX
      clear hx
      clear hsd hq
      obtain ⟨c, hc⟩ : ∃ c, cmpI x t.k t.s = c := ⟨_, rfl⟩
      have HC := hide hc
      have T0 := hide (show wr.drew.cell? ⟨bk, off + q * 4, none⟩ = some (.string (S x.k)) ∧ wr.drew.cell? ⟨bk, off + q * 4 + 1, none⟩ = some (.int .i64 x.s) ∧ wr.drew.cell? ⟨bk, off + q * 4 + 2, none⟩ = some (.int .i64 x.e) ∧ wr.drew.cell? ⟨bk, off + q * 4 + 3, none⟩ = some (.int .i64 x.id) ∧ wr.drew.cell? ⟨w.heap.size, 0, none⟩ = some (.string (S t.k)) ∧ wr.drew.cell? ⟨w.heap.size, 1, none⟩ = some (.int .i64 t.s) ∧ wr.drew.cell? ⟨w.heap.size, 2, none⟩ = some (.int .i64 t.e) ∧ wr.drew.cell? ⟨w.heap.size, 3, none⟩ = some (.int .i64 t.id) from ⟨k0, k1, k2, k3, HT.out.c0, HT.out.c1, HT.out.c2, HT.out.c3⟩)
      by_cases hcn : c < 0
      · have HL2 := hide (HLX.out (by rw [← hc] at hcn; exact (cmpI_neg _ _ _).1 hcn))
        clear hc
        go_wp2_with fail
        refine wp_region_held_drew (S := fun u => u.cell? ⟨bk, off + q * 4, none⟩ = some (.string (S x.k)) ∧ u.cell? ⟨bk, off + q * 4 + 1, none⟩ = some (.int .i64 x.s) ∧ u.cell? ⟨bk, off + q * 4 + 2, none⟩ = some (.int .i64 x.e) ∧ u.cell? ⟨bk, off + q * 4 + 3, none⟩ = some (.int .i64 x.id) ∧ u.cell? ⟨w.heap.size, 0, none⟩ = some (.string (S t.k)) ∧ u.cell? ⟨w.heap.size, 1, none⟩ = some (.int .i64 t.s) ∧ u.cell? ⟨w.heap.size, 2, none⟩ = some (.int .i64 t.e) ∧ u.cell? ⟨w.heap.size, 3, none⟩ = some (.int .i64 t.id)) (by kernel_rfl) T0.out (fun hHeld => ?_)
        refine Man.t1 0 hHeld ?_
        (try simp only [Act.put, Mqa, Mqb, Mqc])
        refine Man.t1 1 hHeld ?_
        (try simp only [Act.put, Mqa, Mqb, Mqc])
        refine Man.t1 2 hHeld ?_
        (try simp only [Act.put, Mqa, Mqb, Mqc])
        refine Man.t1 3 hHeld ?_
        (try simp only [Act.put, Mqa, Mqb, Mqc])
        refine Man.t1 4 hHeld ?_
        (try simp only [Act.put, Mqa, Mqb, Mqc])
        refine Man.t1 5 hHeld ?_
        (try simp only [Act.put, Mqa, Mqb, Mqc])
        refine Man.one (i := 6) rfl (by kernel_rfl) (fun K9 hK => ?_)
        go_simp
        with_reducible refine (compare_is HC.out t.e t.id _).mono ?_
        rintro e w1 ⟨rfl, hb⟩
        have HB1 := hide ((HB.out.drew).trans (hb.mono HB.out.size))
        have HT1 := hide (HT.out.later ((Below.refl _ _).drew.trans hb) HT.out.lt)
        obtain ⟨d0, d1, d2, d3, d4, d5, d6, d7⟩ := T0.out
        refine hK.out _ _ ⟨cell_later hb d0, cell_later hb d1, cell_later hb d2, cell_later hb d3, cell_later hb d4, cell_later hb d5, cell_later hb d6, cell_later hb d7⟩ (fun hNew => ?_)
        clear hb d0 d1 d2 d3 d4 d5 d6 d7
        clear hK K9 hHeld
        have hHeld := hNew
        clear hNew
        (try simp only [Act.put, Mqa, Mqb, Mqc])
        refine Man.t1 7 hHeld ?_
        (try simp only [Act.put, Mqa, Mqb, Mqc])
        refine wpAnyH_done (by kernel_rfl) ?_ _
        go_wp2_with fail
        go_roundw
        case rel => exact ⟨q + 1, j, by go_num, rfl, by omega, by omega, HL2, HG, HB1, HT1⟩
        case measure => simp [intOf]; omega
      · have HG2 := hide (HGX.out (by rw [← hc, cmpI_neg] at hcn; simpa using hcn))
        clear hc
        go_wp2_with fail
        refine wp_region_held_drew (S := fun u => u.cell? ⟨bk, off + q * 4, none⟩ = some (.string (S x.k)) ∧ u.cell? ⟨bk, off + q * 4 + 1, none⟩ = some (.int .i64 x.s) ∧ u.cell? ⟨bk, off + q * 4 + 2, none⟩ = some (.int .i64 x.e) ∧ u.cell? ⟨bk, off + q * 4 + 3, none⟩ = some (.int .i64 x.id) ∧ u.cell? ⟨w.heap.size, 0, none⟩ = some (.string (S t.k)) ∧ u.cell? ⟨w.heap.size, 1, none⟩ = some (.int .i64 t.s) ∧ u.cell? ⟨w.heap.size, 2, none⟩ = some (.int .i64 t.e) ∧ u.cell? ⟨w.heap.size, 3, none⟩ = some (.int .i64 t.id)) (by kernel_rfl) T0.out (fun hHeld => ?_)
        refine Man.t1 0 hHeld ?_
        (try simp only [Act.put, Mqa, Mqb, Mqc])
        refine Man.t1 1 hHeld ?_
        (try simp only [Act.put, Mqa, Mqb, Mqc])
        refine Man.t1 2 hHeld ?_
        (try simp only [Act.put, Mqa, Mqb, Mqc])
        refine Man.t1 3 hHeld ?_
        (try simp only [Act.put, Mqa, Mqb, Mqc])
        refine Man.t1 4 hHeld ?_
        (try simp only [Act.put, Mqa, Mqb, Mqc])
        refine Man.t1 5 hHeld ?_
        (try simp only [Act.put, Mqa, Mqb, Mqc])
        refine Man.one (i := 6) rfl (by kernel_rfl) (fun K9 hK => ?_)
        go_simp
        with_reducible refine (compare_is HC.out t.e t.id _).mono ?_
        rintro e w1 ⟨rfl, hb⟩
        have HB1 := hide ((HB.out.drew).trans (hb.mono HB.out.size))
        have HT1 := hide (HT.out.later ((Below.refl _ _).drew.trans hb) HT.out.lt)
        obtain ⟨d0, d1, d2, d3, d4, d5, d6, d7⟩ := T0.out
        refine hK.out _ _ ⟨cell_later hb d0, cell_later hb d1, cell_later hb d2, cell_later hb d3, cell_later hb d4, cell_later hb d5, cell_later hb d6, cell_later hb d7⟩ (fun hNew => ?_)
        clear hb d0 d1 d2 d3 d4 d5 d6 d7
        clear hK K9 hHeld
        have hHeld := hNew
        clear hNew
        (try simp only [Act.put, Mqa, Mqb, Mqc])
        refine Man.t1 7 hHeld ?_
        (try simp only [Act.put, Mqa, Mqb, Mqc])
        refine wpAnyH_done (by kernel_rfl) ?_ _
        go_wp2_with fail
        go_roundw
        case rel => exact ⟨i, q, rfl, by go_num, by omega, by omega, HL, HG2, HB1, HT1⟩
        case measure => simp [intOf]; omega
    · obtain rfl : i = j := by omega
      have g1 : ¬ (i : Int) < (i : Int) := by omega
      have HLE := hide (show i ≤ l.length from by rw [← HN.out]; exact hj)
      rcases Nat.lt_or_ge i n with hin | hin
      · have g2 : (i : Int) < (n : Int) := by omega
        have hil : i < l.length := by rw [← HN.out]; exact hin
        have hqb : i < l.length := by rw [← HNB.out]; exact hin
        obtain ⟨bk, off, cap, he, hbw, k0, k1, k2, k3⟩ := (HA.out.later HB.out (Nat.le_refl _)).at i hqb
        rw [← HNB.out] at he
        simp only [Value.slice.injEq, true_and] at he
        obtain ⟨rfl, rfl⟩ := he
        have HYES := hide (show (l[i]).k = t.k ∧ (l[i]).s = t.s → SrI l t.k t.s i true from fun h9 => ⟨HLE.out, fun z hz hzi => HL.out z hz hzi, fun z hz hzi => HG.out z hz hzi, fun _ => ⟨hil, h9⟩, fun h8 => (by cases h8)⟩)
        have HNO := hide (show ¬ ((l[i]).k = t.k ∧ (l[i]).s = t.s) → SrI l t.k t.s i false from fun h9 => ⟨HLE.out, fun z hz hzi => HL.out z hz hzi, fun z hz hzi => HG.out z hz hzi, fun h8 => (by cases h8), fun _ _ => h9⟩)
        obtain ⟨x, hx⟩ : ∃ x, x = l[i] := ⟨_, rfl⟩
        rw [← hx] at k0 k1 k2 k3 HYES HNO
        clear hx
        obtain ⟨c, hc⟩ : ∃ c, cmpI x t.k t.s = c := ⟨_, rfl⟩
        have HC := hide hc
        have T0 := hide (show wr.drew.cell? ⟨bk, off + i * 4, none⟩ = some (.string (S x.k)) ∧ wr.drew.cell? ⟨bk, off + i * 4 + 1, none⟩ = some (.int .i64 x.s) ∧ wr.drew.cell? ⟨bk, off + i * 4 + 2, none⟩ = some (.int .i64 x.e) ∧ wr.drew.cell? ⟨bk, off + i * 4 + 3, none⟩ = some (.int .i64 x.id) ∧ wr.drew.cell? ⟨w.heap.size, 0, none⟩ = some (.string (S t.k)) ∧ wr.drew.cell? ⟨w.heap.size, 1, none⟩ = some (.int .i64 t.s) ∧ wr.drew.cell? ⟨w.heap.size, 2, none⟩ = some (.int .i64 t.e) ∧ wr.drew.cell? ⟨w.heap.size, 3, none⟩ = some (.int .i64 t.id) from ⟨k0, k1, k2, k3, HT.out.c0, HT.out.c1, HT.out.c2, HT.out.c3⟩)
        by_cases hcz : c = 0
        · have HY := hide (HYES.out ((cmpI_zero _ _ _).1 (hc.trans hcz)))
          subst hcz
          clear hc
          go_wp2_with fail
          refine wp_region_held_drew (S := fun u => u.cell? ⟨bk, off + i * 4, none⟩ = some (.string (S x.k)) ∧ u.cell? ⟨bk, off + i * 4 + 1, none⟩ = some (.int .i64 x.s) ∧ u.cell? ⟨bk, off + i * 4 + 2, none⟩ = some (.int .i64 x.e) ∧ u.cell? ⟨bk, off + i * 4 + 3, none⟩ = some (.int .i64 x.id) ∧ u.cell? ⟨w.heap.size, 0, none⟩ = some (.string (S t.k)) ∧ u.cell? ⟨w.heap.size, 1, none⟩ = some (.int .i64 t.s) ∧ u.cell? ⟨w.heap.size, 2, none⟩ = some (.int .i64 t.e) ∧ u.cell? ⟨w.heap.size, 3, none⟩ = some (.int .i64 t.id)) (by kernel_rfl) T0.out (fun hHeld => ?_)
          refine Man.t1 0 hHeld ?_
          (try simp only [Act.put, Mqa, Mqb, Mqc])
          refine Man.t1 1 hHeld ?_
          (try simp only [Act.put, Mqa, Mqb, Mqc])
          refine Man.t1 2 hHeld ?_
          (try simp only [Act.put, Mqa, Mqb, Mqc])
          refine Man.t1 3 hHeld ?_
          (try simp only [Act.put, Mqa, Mqb, Mqc])
          refine Man.t1 4 hHeld ?_
          (try simp only [Act.put, Mqa, Mqb, Mqc])
          refine Man.t1 5 hHeld ?_
          (try simp only [Act.put, Mqa, Mqb, Mqc])
          refine Man.t1 6 hHeld ?_
          (try simp only [Act.put, Mqa, Mqb, Mqc])
          refine Man.t1 7 hHeld ?_
          (try simp only [Act.put, Mqa, Mqb, Mqc])
          refine Man.t1 8 hHeld ?_
          (try simp only [Act.put, Mqa, Mqb, Mqc])
          refine Man.t1 9 hHeld ?_
          (try simp only [Act.put, Mqa, Mqb, Mqc])
          refine Man.t1 10 hHeld ?_
          (try simp only [Act.put, Mqa, Mqb, Mqc])
          refine Man.one (i := 11) rfl (by kernel_rfl) (fun K9 hK => ?_)
          go_simp
          with_reducible refine (compare_is HC.out t.e t.id _).mono ?_
          rintro e w1 ⟨rfl, hb⟩
          have HB1 := hide ((HB.out.drew).trans (hb.mono HB.out.size))
          have HT1 := hide (HT.out.later ((Below.refl _ _).drew.trans hb) HT.out.lt)
          obtain ⟨d0, d1, d2, d3, d4, d5, d6, d7⟩ := T0.out
          refine hK.out _ _ ⟨cell_later hb d0, cell_later hb d1, cell_later hb d2, cell_later hb d3, cell_later hb d4, cell_later hb d5, cell_later hb d6, cell_later hb d7⟩ (fun hNew => ?_)
          clear hb d0 d1 d2 d3 d4 d5 d6 d7
          clear hK K9 hHeld
          have hHeld := hNew
          clear hNew
          (try simp only [Act.put, Mqa, Mqb, Mqc])
          refine Man.t1 12 hHeld ?_
          (try simp only [Act.put, Mqa, Mqb, Mqc])
          refine Man.t1 13 hHeld ?_
          (try simp only [Act.put, Mqa, Mqb, Mqc])
          refine Man.t1 14 hHeld ?_
          (try simp only [Act.put, Mqa, Mqb, Mqc])
          refine Man.t1 15 hHeld ?_
          (try simp only [Act.put, Mqa, Mqb, Mqc])
          refine wpAnyH_done (by kernel_rfl) ?_ _
          go_wp2_with fail
          go_ret2
          exact ⟨i, true, rfl, HY.out, HB1.out⟩
        · have HY := hide (HNO.out (fun h9 => hcz (hc.symm.trans ((cmpI_zero _ _ _).2 h9))))
          have f9 : (c == 0) = false := by simpa using hcz
          clear hc
          go_wp2_with fail
          refine wp_region_held_drew (S := fun u => u.cell? ⟨bk, off + i * 4, none⟩ = some (.string (S x.k)) ∧ u.cell? ⟨bk, off + i * 4 + 1, none⟩ = some (.int .i64 x.s) ∧ u.cell? ⟨bk, off + i * 4 + 2, none⟩ = some (.int .i64 x.e) ∧ u.cell? ⟨bk, off + i * 4 + 3, none⟩ = some (.int .i64 x.id) ∧ u.cell? ⟨w.heap.size, 0, none⟩ = some (.string (S t.k)) ∧ u.cell? ⟨w.heap.size, 1, none⟩ = some (.int .i64 t.s) ∧ u.cell? ⟨w.heap.size, 2, none⟩ = some (.int .i64 t.e) ∧ u.cell? ⟨w.heap.size, 3, none⟩ = some (.int .i64 t.id)) (by kernel_rfl) T0.out (fun hHeld => ?_)
          refine Man.t1 0 hHeld ?_
          (try simp only [Act.put, Mqa, Mqb, Mqc])
          refine Man.t1 1 hHeld ?_
          (try simp only [Act.put, Mqa, Mqb, Mqc])
          refine Man.t1 2 hHeld ?_
          (try simp only [Act.put, Mqa, Mqb, Mqc])
          refine Man.t1 3 hHeld ?_
          (try simp only [Act.put, Mqa, Mqb, Mqc])
          refine Man.t1 4 hHeld ?_
          (try simp only [Act.put, Mqa, Mqb, Mqc])
          refine Man.t1 5 hHeld ?_
          (try simp only [Act.put, Mqa, Mqb, Mqc])
          refine Man.t1 6 hHeld ?_
          (try simp only [Act.put, Mqa, Mqb, Mqc])
          refine Man.t1 7 hHeld ?_
          (try simp only [Act.put, Mqa, Mqb, Mqc])
          refine Man.t1 8 hHeld ?_
          (try simp only [Act.put, Mqa, Mqb, Mqc])
          refine Man.t1 9 hHeld ?_
          (try simp only [Act.put, Mqa, Mqb, Mqc])
          refine Man.t1 10 hHeld ?_
          (try simp only [Act.put, Mqa, Mqb, Mqc])
          refine Man.one (i := 11) rfl (by kernel_rfl) (fun K9 hK => ?_)
          go_simp
          with_reducible refine (compare_is HC.out t.e t.id _).mono ?_
          rintro e w1 ⟨rfl, hb⟩
          have HB1 := hide ((HB.out.drew).trans (hb.mono HB.out.size))
          have HT1 := hide (HT.out.later ((Below.refl _ _).drew.trans hb) HT.out.lt)
          obtain ⟨d0, d1, d2, d3, d4, d5, d6, d7⟩ := T0.out
          refine hK.out _ _ ⟨cell_later hb d0, cell_later hb d1, cell_later hb d2, cell_later hb d3, cell_later hb d4, cell_later hb d5, cell_later hb d6, cell_later hb d7⟩ (fun hNew => ?_)
          clear hb d0 d1 d2 d3 d4 d5 d6 d7
          clear hK K9 hHeld
          have hHeld := hNew
          clear hNew
          (try simp only [Act.put, Mqa, Mqb, Mqc])
          refine Man.t1 12 hHeld ?_
          (try simp only [Act.put, Mqa, Mqb, Mqc])
          refine Man.t1 13 hHeld ?_
          (try simp only [Act.put, Mqa, Mqb, Mqc])
          refine Man.t1 14 hHeld ?_
          (try simp only [Act.put, Mqa, Mqb, Mqc])
          refine Man.t1 15 hHeld ?_
          (try simp only [Act.put, Mqa, Mqb, Mqc])
          refine wpAnyH_done (by kernel_rfl) ?_ _
          go_wp2_with fail
          go_ret2
          exact ⟨i, false, rfl, HY.out, HB1.out⟩
      · obtain rfl : i = n := by omega
        have g2 : ¬ (i : Int) < (i : Int) := by omega
        have HY := hide (show SrI l t.k t.s i false from ⟨HLE.out, fun z hz hzi => HL.out z hz hzi, fun z hz hzi => HG.out z hz hzi, fun h8 => (by cases h8), fun _ h9 => by have := HN.out; omega⟩)
        have T0 := hide (show (True : Prop) from trivial)
        go_wp2_with fail
        refine wp_region_held_drew (S := fun u => True) (by kernel_rfl) T0.out (fun hHeld => ?_)
        refine Man.t1 0 hHeld ?_
        (try simp only [Act.put, Mqa, Mqb, Mqc])
        refine Man.t1 1 hHeld ?_
        (try simp only [Act.put, Mqa, Mqb, Mqc])
        refine Man.t1 2 hHeld ?_
        (try simp only [Act.put, Mqa, Mqb, Mqc])
        refine Man.t1 3 hHeld ?_
        (try simp only [Act.put, Mqa, Mqb, Mqc])
        refine Man.t1 4 hHeld ?_
        (try simp only [Act.put, Mqa, Mqb, Mqc])
        refine Man.take0 (i := 5) rfl (by kernel_rfl) (by kernel_rfl) (by kernel_rfl) (fun _ _ _ h => h) (by rfl) hHeld ?_
        (try simp only [Act.put, Mqa, Mqb, Mqc])
        refine Man.take0 (i := 6) rfl (by kernel_rfl) (by kernel_rfl) (by kernel_rfl) (fun _ _ _ h => h) (by rfl) hHeld ?_
        (try simp only [Act.put, Mqa, Mqb, Mqc])
        refine Man.take0 (i := 7) rfl (by kernel_rfl) (by kernel_rfl) (by kernel_rfl) (fun _ _ _ h => h) (by rfl) hHeld ?_
        (try simp only [Act.put, Mqa, Mqb, Mqc])
        refine Man.take0 (i := 8) rfl (by kernel_rfl) (by kernel_rfl) (by kernel_rfl) (fun _ _ _ h => h) (by rfl) hHeld ?_
        (try simp only [Act.put, Mqa, Mqb, Mqc])
        refine Man.take0 (i := 9) rfl (by kernel_rfl) (by kernel_rfl) (by kernel_rfl) (fun _ _ _ h => h) (by rfl) hHeld ?_
        (try simp only [Act.put, Mqa, Mqb, Mqc])
        refine Man.take0 (i := 10) rfl (by kernel_rfl) (by kernel_rfl) (by kernel_rfl) (fun _ _ _ h => h) (by rfl) hHeld ?_
        (try simp only [Act.put, Mqa, Mqb, Mqc])
        refine Man.take0 (i := 11) rfl (by kernel_rfl) (by kernel_rfl) (by kernel_rfl) (fun _ _ _ h => h) (by rfl) hHeld ?_
        (try simp only [Act.put, Mqa, Mqb, Mqc])
        refine Man.take0 (i := 12) rfl (by kernel_rfl) (by kernel_rfl) (by kernel_rfl) (fun _ _ _ h => h) (by rfl) hHeld ?_
        (try simp only [Act.put, Mqa, Mqb, Mqc])
        refine Man.t1 13 hHeld ?_
        (try simp only [Act.put, Mqa, Mqb, Mqc])
        refine Man.t1 14 hHeld ?_
        (try simp only [Act.put, Mqa, Mqb, Mqc])
        refine Man.t1 15 hHeld ?_
        (try simp only [Act.put, Mqa, Mqb, Mqc])
        refine wpAnyH_done (by kernel_rfl) ?_ _
        go_wp2_with fail
        go_ret2
        exact ⟨i, false, rfl, HY.out, HB.out.drew⟩
set_option maxHeartbeats 8000000 in
set_option maxRecDepth 100000 in
theorem sb_any {Bs : List Bkm} {sl : Value} {w : World} (t : It) (h : BksAt Bs sl w) (hi9 : ∀ b, b ∈ Bs → ItemsAt b.xs b.th w ∧ 1 ≤ b.xs.length ∧ b.xs.length ≤ 1000) (hl9 : Bs.length ≤ 1000) (hup : Up (Bs.map b0)) :
    Calls Try.prog 60 #[sl, .agg #[.string (S t.k), .int .i64 t.s, .int .i64 t.e, .int .i64 t.id], .func (.func 59) #[] #[]] w fun e w' => SrP (Bs.map b0) t.k t.s w e w' := by
  have HI9 := hide hi9
  clear hi9
  obtain ⟨so, sc, rfl, _, _⟩ := h.form
  have HA := hide h
  obtain ⟨n, hn⟩ : ∃ n, n = Bs.length := ⟨_, rfl⟩
  rw [← hn] at hl9 ⊢
  have HN := hide (show n = (Bs.map b0).length from by rw [List.length_map]; exact hn)
  have HNB := hide hn
  have HU := hide hup
  have HT0 := hide (Bx.new w t 31)
  have HB0 := hide (below_alloc w (.cells #[.string (S t.k), .int .i64 t.s, .int .i64 t.e, .int .i64 t.id] 31))
  clear h hn hup
  go_enter Try.func60, Try.ntmps60
  go_wp2_with fail
  go_loopw [9, 10] (fun iv jv wr => ∃ i j : Nat, iv = .int .i64 i ∧ jv = .int .i64 j ∧ i ≤ j ∧ j ≤ n ∧ Hid (∀ (q : Nat) (hq : q < (Bs.map b0).length), q < i → aheadB ((Bs.map b0)[q]) t.k t.s = true) ∧ Hid (∀ (q : Nat) (hq : q < (Bs.map b0).length), j ≤ q → aheadB ((Bs.map b0)[q]) t.k t.s = false) ∧ Hid (Below w.heap.size w wr) ∧ Hid (Bx t w.heap.size wr)) (fun iv jv _ => (intOf jv).toNat - (intOf iv).toNat)
  case atStart => exact ⟨0, n, rfl, rfl, by omega, by omega, hide (fun q _ h0 => by omega), hide (fun q hq h0 => by have := HN.out; omega), HB0, HT0⟩
  case round =>
    clear HB0 HT0
    rename World => wr
    obtain ⟨i, j, rfl, rfl, hij, hj, HL, HG, HB, HT⟩ := hrel
    rcases Nat.lt_or_ge i j with hlt | hge
    · have g1 : (i : Int) < (j : Int) := by omega
      obtain ⟨s, hsd⟩ : ∃ s, s = i + j := ⟨_, rfl⟩
      obtain ⟨q, hq⟩ : ∃ q, q = s / 2 := ⟨_, rfl⟩
      have e1 : (i : Int) + (j : Int) = (s : Int) := by omega
      have e2 : (s : Int) / 2 = (q : Int) := by omega
      have e3 : IntKind.i64.wrap (s : Int) = (s : Int) := by simp only [IntKind.wrap_i64]; omega
      have e4 : IntKind.u64.wrap (s : Int) = (s : Int) := by simp only [IntKind.wrap_u64]; omega
      have e5 : IntKind.i64.wrap (q : Int) = (q : Int) := by simp only [IntKind.wrap_i64]; omega
      have hqi : i ≤ q := by omega
      have hqj : q < j := by omega
      have hql : q < (Bs.map b0).length := by rw [← HN.out]; omega
      have hqb : q < Bs.length := by rw [← HNB.out]; omega
      have g2 : (q : Int) < (n : Int) := by omega
      have HSD := hide hsd
      have HQ := hide hq
      obtain ⟨bk, off, cap, he, hbw, k0, k1⟩ := (HA.out.later HB.out (Nat.le_refl _)).at q hqb
      rw [← HNB.out] at he
      simp only [Value.slice.injEq, true_and] at he
      obtain ⟨rfl, rfl⟩ := he
      have HLX := hide (show aheadB ((Bs.map b0)[q]) t.k t.s = true → ∀ (z : Nat) (hz : z < (Bs.map b0).length), z < q + 1 → aheadB ((Bs.map b0)[z]) t.k t.s = true from fun h9 z hz hzq => up_le HU.out hz hql (by omega) h9)
      have HGX := hide (show aheadB ((Bs.map b0)[q]) t.k t.s = false → ∀ (z : Nat) (hz : z < (Bs.map b0).length), q ≤ z → aheadB ((Bs.map b0)[z]) t.k t.s = false from fun h9 z hz hzq => by
        cases h8 : aheadB ((Bs.map b0)[z]) t.k t.s with
        | false => rfl
        | true => rw [up_le HU.out hql hz hzq h8] at h9; cases h9)
      have HX9 := HI9.out _ (List.getElem_mem hqb)
      rw [List.getElem_map] at HLX HGX
      obtain ⟨x, hx⟩ : ∃ x, x = Bs[q] := ⟨_, rfl⟩
      rw [← hx] at k0 k1 HLX HGX HX9
      have HIX := hide (show ∀ u : World, Below wr.heap.size wr u → ItemsAt x.xs x.th u from fun u hu => HX9.1.later (HB.out.trans (hu.mono HB.out.size)) (Nat.le_refl _))
      have HX1 := hide HX9.2.1
      have HXL := hide HX9.2.2
      clear hx HX9
      clear hsd hq
      obtain ⟨c, hc⟩ : ∃ c, cmpI (b0 x) t.k t.s = c := ⟨_, rfl⟩
      have HC := hide hc
      have T0 := hide (show wr.drew.cell? ⟨bk, off + q * 2, none⟩ = some (.slice x.ao x.xs.length x.cap) ∧ wr.drew.cell? ⟨bk, off + q * 2 + 1, none⟩ = some (.int .i64 (maxE x.xs)) ∧ wr.drew.cell? ⟨w.heap.size, 0, none⟩ = some (.string (S t.k)) ∧ wr.drew.cell? ⟨w.heap.size, 1, none⟩ = some (.int .i64 t.s) ∧ wr.drew.cell? ⟨w.heap.size, 2, none⟩ = some (.int .i64 t.e) ∧ wr.drew.cell? ⟨w.heap.size, 3, none⟩ = some (.int .i64 t.id) from ⟨k0, k1, HT.out.c0, HT.out.c1, HT.out.c2, HT.out.c3⟩)
      by_cases hcn : c < 0
      · have HL2 := hide (HLX.out (by rw [← hc] at hcn; exact (cmpI_neg _ _ _).1 hcn))
        clear hc
        go_wp2_with fail
        refine wp_region_held_drew (S := fun u => u.cell? ⟨bk, off + q * 2, none⟩ = some (.slice x.ao x.xs.length x.cap) ∧ u.cell? ⟨bk, off + q * 2 + 1, none⟩ = some (.int .i64 (maxE x.xs)) ∧ u.cell? ⟨w.heap.size, 0, none⟩ = some (.string (S t.k)) ∧ u.cell? ⟨w.heap.size, 1, none⟩ = some (.int .i64 t.s) ∧ u.cell? ⟨w.heap.size, 2, none⟩ = some (.int .i64 t.e) ∧ u.cell? ⟨w.heap.size, 3, none⟩ = some (.int .i64 t.id)) (by kernel_rfl) T0.out (fun hHeld => ?_)
        refine Man.t1 0 hHeld ?_
        (try simp only [Act.put, Mqa, Mqb, Mqc])
        refine Man.t1 1 hHeld ?_
        (try simp only [Act.put, Mqa, Mqb, Mqc])
        refine Man.t1 2 hHeld ?_
        (try simp only [Act.put, Mqa, Mqb, Mqc])
        refine Man.t1 3 hHeld ?_
        (try simp only [Act.put, Mqa, Mqb, Mqc])
        refine Man.t1 4 hHeld ?_
        (try simp only [Act.put, Mqa, Mqb, Mqc])
        refine Man.t1 5 hHeld ?_
        (try simp only [Act.put, Mqa, Mqb, Mqc])
        refine Man.one (i := 6) rfl (by kernel_rfl) (fun K9 hK => ?_)
        go_simp
        with_reducible refine (begins_is HC.out (HIX.out _ ((Below.refl _ _).drew)) HX1.out HXL.out).mono ?_
        rintro e w1 ⟨rfl, hb⟩
        have HB1 := hide ((HB.out.drew).trans (hb.mono HB.out.size))
        have HT1 := hide (HT.out.later ((Below.refl _ _).drew.trans hb) HT.out.lt)
        obtain ⟨d0, d1, d2, d3, d4, d5⟩ := T0.out
        refine hK.out _ _ ⟨cell_later hb d0, cell_later hb d1, cell_later hb d2, cell_later hb d3, cell_later hb d4, cell_later hb d5⟩ (fun hNew => ?_)
        clear hb d0 d1 d2 d3 d4 d5
        clear hK K9 hHeld
        have hHeld := hNew
        clear hNew
        (try simp only [Act.put, Mqa, Mqb, Mqc])
        refine Man.t1 7 hHeld ?_
        (try simp only [Act.put, Mqa, Mqb, Mqc])
        refine wpAnyH_done (by kernel_rfl) ?_ _
        go_wp2_with fail
        go_roundw
        case rel => exact ⟨q + 1, j, by go_num, rfl, by omega, by omega, HL2, HG, HB1, HT1⟩
        case measure => simp [intOf]; omega
      · have HG2 := hide (HGX.out (by rw [← hc, cmpI_neg] at hcn; simpa using hcn))
        clear hc
        go_wp2_with fail
        refine wp_region_held_drew (S := fun u => u.cell? ⟨bk, off + q * 2, none⟩ = some (.slice x.ao x.xs.length x.cap) ∧ u.cell? ⟨bk, off + q * 2 + 1, none⟩ = some (.int .i64 (maxE x.xs)) ∧ u.cell? ⟨w.heap.size, 0, none⟩ = some (.string (S t.k)) ∧ u.cell? ⟨w.heap.size, 1, none⟩ = some (.int .i64 t.s) ∧ u.cell? ⟨w.heap.size, 2, none⟩ = some (.int .i64 t.e) ∧ u.cell? ⟨w.heap.size, 3, none⟩ = some (.int .i64 t.id)) (by kernel_rfl) T0.out (fun hHeld => ?_)
        refine Man.t1 0 hHeld ?_
        (try simp only [Act.put, Mqa, Mqb, Mqc])
        refine Man.t1 1 hHeld ?_
        (try simp only [Act.put, Mqa, Mqb, Mqc])
        refine Man.t1 2 hHeld ?_
        (try simp only [Act.put, Mqa, Mqb, Mqc])
        refine Man.t1 3 hHeld ?_
        (try simp only [Act.put, Mqa, Mqb, Mqc])
        refine Man.t1 4 hHeld ?_
        (try simp only [Act.put, Mqa, Mqb, Mqc])
        refine Man.t1 5 hHeld ?_
        (try simp only [Act.put, Mqa, Mqb, Mqc])
        refine Man.one (i := 6) rfl (by kernel_rfl) (fun K9 hK => ?_)
        go_simp
        with_reducible refine (begins_is HC.out (HIX.out _ ((Below.refl _ _).drew)) HX1.out HXL.out).mono ?_
        rintro e w1 ⟨rfl, hb⟩
        have HB1 := hide ((HB.out.drew).trans (hb.mono HB.out.size))
        have HT1 := hide (HT.out.later ((Below.refl _ _).drew.trans hb) HT.out.lt)
        obtain ⟨d0, d1, d2, d3, d4, d5⟩ := T0.out
        refine hK.out _ _ ⟨cell_later hb d0, cell_later hb d1, cell_later hb d2, cell_later hb d3, cell_later hb d4, cell_later hb d5⟩ (fun hNew => ?_)
        clear hb d0 d1 d2 d3 d4 d5
        clear hK K9 hHeld
        have hHeld := hNew
        clear hNew
        (try simp only [Act.put, Mqa, Mqb, Mqc])
        refine Man.t1 7 hHeld ?_
        (try simp only [Act.put, Mqa, Mqb, Mqc])
        refine wpAnyH_done (by kernel_rfl) ?_ _
        go_wp2_with fail
        go_roundw
        case rel => exact ⟨i, q, rfl, by go_num, by omega, by omega, HL, HG2, HB1, HT1⟩
        case measure => simp [intOf]; omega
    · obtain rfl : i = j := by omega
      have g1 : ¬ (i : Int) < (i : Int) := by omega
      have HLE := hide (show i ≤ (Bs.map b0).length from by rw [← HN.out]; exact hj)
      rcases Nat.lt_or_ge i n with hin | hin
      · have g2 : (i : Int) < (n : Int) := by omega
        have hil : i < (Bs.map b0).length := by rw [← HN.out]; exact hin
        have hqb : i < Bs.length := by rw [← HNB.out]; exact hin
        obtain ⟨bk, off, cap, he, hbw, k0, k1⟩ := (HA.out.later HB.out (Nat.le_refl _)).at i hqb
        rw [← HNB.out] at he
        simp only [Value.slice.injEq, true_and] at he
        obtain ⟨rfl, rfl⟩ := he
        have HYES := hide (show ((Bs.map b0)[i]).k = t.k ∧ ((Bs.map b0)[i]).s = t.s → SrI (Bs.map b0) t.k t.s i true from fun h9 => ⟨HLE.out, fun z hz hzi => HL.out z hz hzi, fun z hz hzi => HG.out z hz hzi, fun _ => ⟨hil, h9⟩, fun h8 => (by cases h8)⟩)
        have HNO := hide (show ¬ (((Bs.map b0)[i]).k = t.k ∧ ((Bs.map b0)[i]).s = t.s) → SrI (Bs.map b0) t.k t.s i false from fun h9 => ⟨HLE.out, fun z hz hzi => HL.out z hz hzi, fun z hz hzi => HG.out z hz hzi, fun h8 => (by cases h8), fun _ _ => h9⟩)
        have HX9 := HI9.out _ (List.getElem_mem hqb)
        rw [List.getElem_map] at HYES HNO
        obtain ⟨x, hx⟩ : ∃ x, x = Bs[i] := ⟨_, rfl⟩
        rw [← hx] at k0 k1 HYES HNO HX9
        have HIX := hide (show ∀ u : World, Below wr.heap.size wr u → ItemsAt x.xs x.th u from fun u hu => HX9.1.later (HB.out.trans (hu.mono HB.out.size)) (Nat.le_refl _))
        have HX1 := hide HX9.2.1
        have HXL := hide HX9.2.2
        clear hx HX9
        obtain ⟨c, hc⟩ : ∃ c, cmpI (b0 x) t.k t.s = c := ⟨_, rfl⟩
        have HC := hide hc
        have T0 := hide (show wr.drew.cell? ⟨bk, off + i * 2, none⟩ = some (.slice x.ao x.xs.length x.cap) ∧ wr.drew.cell? ⟨bk, off + i * 2 + 1, none⟩ = some (.int .i64 (maxE x.xs)) ∧ wr.drew.cell? ⟨w.heap.size, 0, none⟩ = some (.string (S t.k)) ∧ wr.drew.cell? ⟨w.heap.size, 1, none⟩ = some (.int .i64 t.s) ∧ wr.drew.cell? ⟨w.heap.size, 2, none⟩ = some (.int .i64 t.e) ∧ wr.drew.cell? ⟨w.heap.size, 3, none⟩ = some (.int .i64 t.id) from ⟨k0, k1, HT.out.c0, HT.out.c1, HT.out.c2, HT.out.c3⟩)
        by_cases hcz : c = 0
        · have HY := hide (HYES.out ((cmpI_zero _ _ _).1 (hc.trans hcz)))
          subst hcz
          clear hc
          go_wp2_with fail
          refine wp_region_held_drew (S := fun u => u.cell? ⟨bk, off + i * 2, none⟩ = some (.slice x.ao x.xs.length x.cap) ∧ u.cell? ⟨bk, off + i * 2 + 1, none⟩ = some (.int .i64 (maxE x.xs)) ∧ u.cell? ⟨w.heap.size, 0, none⟩ = some (.string (S t.k)) ∧ u.cell? ⟨w.heap.size, 1, none⟩ = some (.int .i64 t.s) ∧ u.cell? ⟨w.heap.size, 2, none⟩ = some (.int .i64 t.e) ∧ u.cell? ⟨w.heap.size, 3, none⟩ = some (.int .i64 t.id)) (by kernel_rfl) T0.out (fun hHeld => ?_)
          refine Man.t1 0 hHeld ?_
          (try simp only [Act.put, Mqa, Mqb, Mqc])
          refine Man.t1 1 hHeld ?_
          (try simp only [Act.put, Mqa, Mqb, Mqc])
          refine Man.t1 2 hHeld ?_
          (try simp only [Act.put, Mqa, Mqb, Mqc])
          refine Man.t1 3 hHeld ?_
          (try simp only [Act.put, Mqa, Mqb, Mqc])
          refine Man.t1 4 hHeld ?_
          (try simp only [Act.put, Mqa, Mqb, Mqc])
          refine Man.t1 5 hHeld ?_
          (try simp only [Act.put, Mqa, Mqb, Mqc])
          refine Man.t1 6 hHeld ?_
          (try simp only [Act.put, Mqa, Mqb, Mqc])
          refine Man.t1 7 hHeld ?_
          (try simp only [Act.put, Mqa, Mqb, Mqc])
          refine Man.t1 8 hHeld ?_
          (try simp only [Act.put, Mqa, Mqb, Mqc])
          refine Man.t1 9 hHeld ?_
          (try simp only [Act.put, Mqa, Mqb, Mqc])
          refine Man.t1 10 hHeld ?_
          (try simp only [Act.put, Mqa, Mqb, Mqc])
          refine Man.one (i := 11) rfl (by kernel_rfl) (fun K9 hK => ?_)
          go_simp
          with_reducible refine (begins_is HC.out (HIX.out _ ((Below.refl _ _).drew)) HX1.out HXL.out).mono ?_
          rintro e w1 ⟨rfl, hb⟩
          have HB1 := hide ((HB.out.drew).trans (hb.mono HB.out.size))
          have HT1 := hide (HT.out.later ((Below.refl _ _).drew.trans hb) HT.out.lt)
          obtain ⟨d0, d1, d2, d3, d4, d5⟩ := T0.out
          refine hK.out _ _ ⟨cell_later hb d0, cell_later hb d1, cell_later hb d2, cell_later hb d3, cell_later hb d4, cell_later hb d5⟩ (fun hNew => ?_)
          clear hb d0 d1 d2 d3 d4 d5
          clear hK K9 hHeld
          have hHeld := hNew
          clear hNew
          (try simp only [Act.put, Mqa, Mqb, Mqc])
          refine Man.t1 12 hHeld ?_
          (try simp only [Act.put, Mqa, Mqb, Mqc])
          refine Man.t1 13 hHeld ?_
          (try simp only [Act.put, Mqa, Mqb, Mqc])
          refine Man.t1 14 hHeld ?_
          (try simp only [Act.put, Mqa, Mqb, Mqc])
          refine Man.t1 15 hHeld ?_
          (try simp only [Act.put, Mqa, Mqb, Mqc])
          refine wpAnyH_done (by kernel_rfl) ?_ _
          go_wp2_with fail
          go_ret2
          exact ⟨i, true, rfl, HY.out, HB1.out⟩
        · have HY := hide (HNO.out (fun h9 => hcz (hc.symm.trans ((cmpI_zero _ _ _).2 h9))))
          have f9 : (c == 0) = false := by simpa using hcz
          clear hc
          go_wp2_with fail
          refine wp_region_held_drew (S := fun u => u.cell? ⟨bk, off + i * 2, none⟩ = some (.slice x.ao x.xs.length x.cap) ∧ u.cell? ⟨bk, off + i * 2 + 1, none⟩ = some (.int .i64 (maxE x.xs)) ∧ u.cell? ⟨w.heap.size, 0, none⟩ = some (.string (S t.k)) ∧ u.cell? ⟨w.heap.size, 1, none⟩ = some (.int .i64 t.s) ∧ u.cell? ⟨w.heap.size, 2, none⟩ = some (.int .i64 t.e) ∧ u.cell? ⟨w.heap.size, 3, none⟩ = some (.int .i64 t.id)) (by kernel_rfl) T0.out (fun hHeld => ?_)
          refine Man.t1 0 hHeld ?_
          (try simp only [Act.put, Mqa, Mqb, Mqc])
          refine Man.t1 1 hHeld ?_
          (try simp only [Act.put, Mqa, Mqb, Mqc])
          refine Man.t1 2 hHeld ?_
          (try simp only [Act.put, Mqa, Mqb, Mqc])
          refine Man.t1 3 hHeld ?_
          (try simp only [Act.put, Mqa, Mqb, Mqc])
          refine Man.t1 4 hHeld ?_
          (try simp only [Act.put, Mqa, Mqb, Mqc])
          refine Man.t1 5 hHeld ?_
          (try simp only [Act.put, Mqa, Mqb, Mqc])
          refine Man.t1 6 hHeld ?_
          (try simp only [Act.put, Mqa, Mqb, Mqc])
          refine Man.t1 7 hHeld ?_
          (try simp only [Act.put, Mqa, Mqb, Mqc])
          refine Man.t1 8 hHeld ?_
          (try simp only [Act.put, Mqa, Mqb, Mqc])
          refine Man.t1 9 hHeld ?_
          (try simp only [Act.put, Mqa, Mqb, Mqc])
          refine Man.t1 10 hHeld ?_
          (try simp only [Act.put, Mqa, Mqb, Mqc])
          refine Man.one (i := 11) rfl (by kernel_rfl) (fun K9 hK => ?_)
          go_simp
          with_reducible refine (begins_is HC.out (HIX.out _ ((Below.refl _ _).drew)) HX1.out HXL.out).mono ?_
          rintro e w1 ⟨rfl, hb⟩
          have HB1 := hide ((HB.out.drew).trans (hb.mono HB.out.size))
          have HT1 := hide (HT.out.later ((Below.refl _ _).drew.trans hb) HT.out.lt)
          obtain ⟨d0, d1, d2, d3, d4, d5⟩ := T0.out
          refine hK.out _ _ ⟨cell_later hb d0, cell_later hb d1, cell_later hb d2, cell_later hb d3, cell_later hb d4, cell_later hb d5⟩ (fun hNew => ?_)
          clear hb d0 d1 d2 d3 d4 d5
          clear hK K9 hHeld
          have hHeld := hNew
          clear hNew
          (try simp only [Act.put, Mqa, Mqb, Mqc])
          refine Man.t1 12 hHeld ?_
          (try simp only [Act.put, Mqa, Mqb, Mqc])
          refine Man.t1 13 hHeld ?_
          (try simp only [Act.put, Mqa, Mqb, Mqc])
          refine Man.t1 14 hHeld ?_
          (try simp only [Act.put, Mqa, Mqb, Mqc])
          refine Man.t1 15 hHeld ?_
          (try simp only [Act.put, Mqa, Mqb, Mqc])
          refine wpAnyH_done (by kernel_rfl) ?_ _
          go_wp2_with fail
          go_ret2
          exact ⟨i, false, rfl, HY.out, HB1.out⟩
      · obtain rfl : i = n := by omega
        have g2 : ¬ (i : Int) < (i : Int) := by omega
        have HY := hide (show SrI (Bs.map b0) t.k t.s i false from ⟨HLE.out, fun z hz hzi => HL.out z hz hzi, fun z hz hzi => HG.out z hz hzi, fun h8 => (by cases h8), fun _ h9 => by have := HN.out; omega⟩)
        have T0 := hide (show (True : Prop) from trivial)
        go_wp2_with fail
        refine wp_region_held_drew (S := fun u => True) (by kernel_rfl) T0.out (fun hHeld => ?_)
        refine Man.t1 0 hHeld ?_
        (try simp only [Act.put, Mqa, Mqb, Mqc])
        refine Man.t1 1 hHeld ?_
        (try simp only [Act.put, Mqa, Mqb, Mqc])
        refine Man.t1 2 hHeld ?_
        (try simp only [Act.put, Mqa, Mqb, Mqc])
        refine Man.t1 3 hHeld ?_
        (try simp only [Act.put, Mqa, Mqb, Mqc])
        refine Man.t1 4 hHeld ?_
        (try simp only [Act.put, Mqa, Mqb, Mqc])
        refine Man.take0 (i := 5) rfl (by kernel_rfl) (by kernel_rfl) (by kernel_rfl) (fun _ _ _ h => h) (by rfl) hHeld ?_
        (try simp only [Act.put, Mqa, Mqb, Mqc])
        refine Man.take0 (i := 6) rfl (by kernel_rfl) (by kernel_rfl) (by kernel_rfl) (fun _ _ _ h => h) (by rfl) hHeld ?_
        (try simp only [Act.put, Mqa, Mqb, Mqc])
        refine Man.take0 (i := 7) rfl (by kernel_rfl) (by kernel_rfl) (by kernel_rfl) (fun _ _ _ h => h) (by rfl) hHeld ?_
        (try simp only [Act.put, Mqa, Mqb, Mqc])
        refine Man.take0 (i := 8) rfl (by kernel_rfl) (by kernel_rfl) (by kernel_rfl) (fun _ _ _ h => h) (by rfl) hHeld ?_
        (try simp only [Act.put, Mqa, Mqb, Mqc])
        refine Man.take0 (i := 9) rfl (by kernel_rfl) (by kernel_rfl) (by kernel_rfl) (fun _ _ _ h => h) (by rfl) hHeld ?_
        (try simp only [Act.put, Mqa, Mqb, Mqc])
        refine Man.take0 (i := 10) rfl (by kernel_rfl) (by kernel_rfl) (by kernel_rfl) (fun _ _ _ h => h) (by rfl) hHeld ?_
        (try simp only [Act.put, Mqa, Mqb, Mqc])
        refine Man.take0 (i := 11) rfl (by kernel_rfl) (by kernel_rfl) (by kernel_rfl) (fun _ _ _ h => h) (by rfl) hHeld ?_
        (try simp only [Act.put, Mqa, Mqb, Mqc])
        refine Man.take0 (i := 12) rfl (by kernel_rfl) (by kernel_rfl) (by kernel_rfl) (fun _ _ _ h => h) (by rfl) hHeld ?_
        (try simp only [Act.put, Mqa, Mqb, Mqc])
        refine Man.t1 13 hHeld ?_
        (try simp only [Act.put, Mqa, Mqb, Mqc])
        refine Man.t1 14 hHeld ?_
        (try simp only [Act.put, Mqa, Mqb, Mqc])
        refine Man.t1 15 hHeld ?_
        (try simp only [Act.put, Mqa, Mqb, Mqc])
        refine wpAnyH_done (by kernel_rfl) ?_ _
        go_wp2_with fail
        go_ret2
        exact ⟨i, false, rfl, HY.out, HB.out.drew⟩
end Idx
end Go.Proofs.Ytapdhelioecneaa
