/- slices.Grow from nothing, slices.Concat of two rows of values. Condition: one to a million values together. -/
import Derived.Test.YtopmbhpjdmcabaaJj
import Derived.Lib.AppendZeros
import Derived.Laws.AppendOwnNone
namespace Go.Proofs.Ytopmbhpjdmcabaa
open Go.RowKit
namespace Sch
open Cod
theorem flat_one {vs : List V} : ∀ u ∈ flat vs, u.oneCell' = true := by
  intro u hu
  unfold flat at hu
  rw [List.mem_flatMap] at hu
  obtain ⟨v, _, h⟩ := hu
  unfold V.cells at h
  simp only [List.mem_cons, List.not_mem_nil, or_false] at h
  rcases h with rfl | rfl | rfl | rfl <;> rfl
theorem add_at (b off j : Nat) : (⟨b, off, none⟩ : Addr).add j = ⟨b, off + j, none⟩ := by unfold Addr.add; split <;> simp_all
/-- A row as the source of an append. -/
theorem RowC.src {vs : List V} {sl : Value} {w : World} (h : RowC vs sl w) : (sl = .slice none 0 0 ∧ vs = []) ∨ ∃ a cap, sl = .slice (some a) vs.length cap ∧ vs.length ≤ cap ∧ ∀ j u, (flat vs)[j]? = some u → w.cell? (a.add j) = some u := by
  obtain ⟨⟨ao, cap, h1, h2⟩, ao2, cap2, h3, hc, hm, hz⟩ := h
  rw [h1] at h3
  simp only [Value.slice.injEq, true_and] at h3
  obtain ⟨rfl, rfl⟩ := h3
  cases ao with
  | none =>
    left
    have hv : vs = [] := by
      rcases Decidable.em (vs = []) with e | e
      · exact e
      · obtain ⟨b, off, h3, _⟩ := h2 e; cases h3
    subst hv
    exact ⟨by rw [h1, hz rfl]; rfl, rfl⟩
  | some a =>
    right
    refine ⟨a, cap, h1, hc, fun j u hu => ?_⟩
    have hj := (List.getElem?_eq_some_iff.1 hu).1
    rw [flat_len] at hj
    obtain ⟨b, off, h3, h4, h5⟩ := h2 (fun e => by rw [e] at hj; simp at hj)
    cases h3
    rw [add_at, h5 j hj, hu]
def GrowP (base : Nat) (w : World) (e : Ending) (w' : World) : Prop := ∃ v, e = .returned v ∧ w'.ownsRow base 33 4 v 0 [] ∧ Below w.heap.size w w'
set_option maxHeartbeats 1000000 in
set_option maxRecDepth 100000 in
theorem grow_any (n : Nat) (h0 : 0 < n) (hn : n ≤ 1000000) (w : World) :
    Calls Try.prog 71 #[.slice none 0 0, .int .i64 n] w fun e w' => GrowP w.heap.size w e w' := by
  obtain ⟨i0, hi, hz0, hz1, hz2⟩ := info_parts infoV
  have happ := Lib.run_append_nil_zeros (P := Try.prog) w 25 3 25 33 i0 (.agg #[.int .i64 0, .int .i64 0, .int .u64 0, .string ⟨#[]⟩]) .i64 .i64 Try.underlying25 Try.underlying3 hi hz0 n h0 (by omega) (by omega) (by rw [hz2]; omega)
  have hge := grownCap_ge w n 0 33
  have hcm := grownCap_le_maxLen w n 0 33 (by unfold maxLen; omega)
  obtain ⟨gc, hgc⟩ : ∃ g, g = grownCap w n 0 33 := ⟨_, rfl⟩
  rw [← hgc] at happ hge hcm
  have hown := World.ownsRow_made (base := w.heap.size) (e := 33) (size := 4) w.drew (Builtin.zeroCells (Value.cells (.agg #[.int .i64 0, .int .i64 0, .int .u64 0, .string ⟨#[]⟩])) n ++ Builtin.zeroCells (Value.cells (.agg #[.int .i64 0, .int .i64 0, .int .u64 0, .string ⟨#[]⟩])) (gc - n)) gc (Nat.le_refl _) hcm (by
    simp only [Array.size_append, Builtin.zeroCells]
    simp [Value.cells]
    omega)
  have HO := hidm hown
  have HB := hidm (((Below.refl w.heap.size w).drew).alloc (Nat.le_refl _) (.cells (Builtin.zeroCells (Value.cells (.agg #[.int .i64 0, .int .i64 0, .int .u64 0, .string ⟨#[]⟩])) n ++ Builtin.zeroCells (Value.cells (.agg #[.int .i64 0, .int .i64 0, .int .u64 0, .string ⟨#[]⟩])) (gc - n)) 33))
  have HAPP := hidm happ
  generalize hW : w.drew.alloc (.cells (Builtin.zeroCells (Value.cells (.agg #[.int .i64 0, .int .i64 0, .int .u64 0, .string ⟨#[]⟩])) n ++ Builtin.zeroCells (Value.cells (.agg #[.int .i64 0, .int .i64 0, .int .u64 0, .string ⟨#[]⟩])) (gc - n)) 33) = W at HO HB HAPP
  clear happ hown hgc hcm hW
  go_enter Try.func71, Try.ntmps71
  go_wp2_with (at_builtin; refine Lib.wpList_append_run _ rfl _ _ _ _ rfl _ _ rfl rfl _ _ HAPP.out ?_)
  go_ret
  exact ⟨_, rfl, HO.out, HB.out⟩
def szAt (n m i : Nat) : Nat := if i = 0 then 0 else if i = 1 then n else n + m
def ptAt (xs ys : List V) (i : Nat) : List V := if i = 0 then [] else if i = 1 then xs else xs ++ ys
set_option maxHeartbeats 4000000 in
set_option maxRecDepth 100000 in
theorem concat_any (xs ys : List V) (sa : Value) (b : Addr) (bcap p pcap : Nat) (h0 : 0 < xs.length + ys.length) (hn : xs.length + ys.length ≤ 1000000) (w : World) (h1 : RowC xs sa w)
    (h2 : ∀ j u, (flat ys)[j]? = some u → w.cell? (b.add j) = some u) (hbl : 0 < ys.length → b.block < w.heap.size)
    (c0 : w.cell? ⟨p, 0, none⟩ = some sa) (c1 : w.cell? ⟨p, 1, none⟩ = some (.slice (some b) ys.length bcap)) :
    Calls Try.prog 46 #[.slice (some ⟨p, 0, none⟩) 2 pcap] w fun e w' => Out1 (xs ++ ys) w e w' := by
  obtain ⟨i0, hi, hz0, hz1, hz2⟩ := info_parts infoV
  have hplt := World.block_lt_of_cell? w _ c0
  obtain ⟨n, hnn⟩ : ∃ n, n = xs.length := ⟨_, rfl⟩
  obtain ⟨m, hmm⟩ : ∃ m, m = ys.length := ⟨_, rfl⟩
  rw [← hmm] at c1 hbl
  rw [← hnn, ← hmm] at hn h0
  have HN := hidm hnn
  have HM := hidm hmm
  have HY := hidm h2
  have HC0 := hidm c0
  have HC1 := hidm c1
  have HBL := hidm hbl
  have HR := hidm h1
  clear hnn hmm h2 c0 c1 hbl
  have hsrc := h1.src
  clear h1
  rcases hsrc with ⟨rfl, hx⟩ | ⟨a, ac, rfl, hac, hcell⟩
  · subst hx
    have hn0 : n = 0 := HN.out
    subst hn0
    go_enter Try.func46, Try.ntmps46
    have c0 := HC0.out
    have c1 := HC1.out
    go_wp2_with fail
    go_loop [3, 11] (fun sz ii => ∃ i : Nat, i ≤ 2 ∧ ii = .int .i64 i ∧ sz = .int .i64 (szAt 0 m i : Nat)) (fun _ ii => (2 - (intOf ii).toNat))
    case atStart => exact ⟨0, by omega, rfl, rfl⟩
    case round =>
      obtain ⟨i, hi2, rfl, rfl⟩ := hrel
      have hic : i = 0 ∨ i = 1 ∨ i = 2 := by omega
      rcases hic with rfl | rfl | rfl
      · have e0 : szAt 0 m 0 = 0 := rfl
        have e1 : szAt 0 m 1 = 0 := rfl
        rw [e0]
        go_wp2_with fail
        go_round
        case rel => exact ⟨1, by omega, rfl, by rw [e1]; rfl⟩
        case measure => simp [intOf]
      · have e0 : szAt 0 m 1 = 0 := rfl
        have e1 : szAt 0 m 2 = 0 + m := rfl
        rw [e0]
        go_wp2_with fail
        go_round
        case rel => exact ⟨2, by omega, rfl, by rw [e1]; go_num⟩
        case measure => simp [intOf]
      · have e0 : szAt 0 m 2 = 0 + m := rfl
        rw [e0]
        clear e0 hi2
        go_wp2_with fail
        have G := grow_any (m) (by omega) (by omega) w
        refine G.mono ?_
        rintro e w1 ⟨v, rfl, hown, hb⟩
        have HO := hidm hown
        have HB := hidm hb
        clear hown hb G c0 c1
        go_wp2_with fail
        go_loopw [6, 27] (fun vv ii wr => ∃ i : Nat, i ≤ 2 ∧ ii = .int .i64 i ∧ Hid (wr.ownsRow w.heap.size 33 4 vv (szAt 0 m i) (flat (ptAt [] ys i))) ∧ Hid (Below w.heap.size w wr)) (fun _ ii _ => (2 - (intOf ii).toNat))
        case atStart => exact ⟨0, by omega, rfl, HO, HB⟩
        case round =>
          clear HO HB
          obtain ⟨i, hi2, rfl, HO, HB⟩ := hrel
          have c0 := cell_later HB.out HC0.out
          have c1 := cell_later HB.out HC1.out
          have hsz := HB.out.size
          have hic : i = 0 ∨ i = 1 ∨ i = 2 := by omega
          rcases hic with rfl | rfl | rfl
          · have hown := HO.out
            go_wp2_with (at_builtin; refine wpList_append_own_none rfl _ _ 25 rfl w.heap.size 33 i0 4 Try.underlying25 hi _ _ _ rfl hown rfl ?_)
            have HO2 := hidm (show wr.ownsRow w.heap.size 33 4 _ (szAt 0 m 1) (flat (ptAt [] ys 1)) from hown)
            clear hown
            go_wp2
            go_roundw
            case rel => exact ⟨1, by omega, rfl, HO2, HB⟩
            case measure => simp [intOf]
          · have hown := HO.out
            have hlt2 := hown.lt
            have hrd := hidm (fun j u hu => cell_later HB.out (HY.out j u hu))
            have hfl := hidm (show (flat ys).length = m * 4 from by rw [flat_len, HM.out])
            go_wp2_with (at_builtin; refine wpList_append_own _ rfl _ _ 25 rfl w.heap.size 33 i0 (.agg #[.int .i64 0, .int .i64 0, .int .u64 0, .string ⟨#[]⟩]) 4 40 Try.underlying25 hi hz0 hz1 hz2 rfl (by decide) _ _ _ rfl hown b m bcap (flat ys) rfl hfl.out hrd.out flat_one (by unfold maxLen szAt; simp; omega) (by unfold szAt; simp; omega) hsz ?_)
            intro v' w3 hown' hgrow _
            have HB3 := hidm (HB.out.grown hgrow hsz (fun k hk => (hlt2 k hk).1))
            have HO2 : Hid (w3.ownsRow w.heap.size 33 4 v' (szAt 0 m 2) (flat (ptAt [] ys 2))) := hidm (by have h := hown'; unfold szAt ptAt at h ⊢; simpa [flat] using h)
            clear hown hown' hgrow hlt2
            go_wp2
            go_roundw
            case rel => exact ⟨2, by omega, rfl, HO2, HB3⟩
            case measure => simp [intOf]
          · go_wp2_with fail
            go_ret
            refine ⟨_, rfl, ?_, HB.out⟩
            have h := HO.out
            have hl : szAt 0 m 2 = ([] ++ ys : List V).length := by unfold szAt; simp [HM.out]
            rw [hl] at h
            exact RowC.of_owns h
  · have HX := hidm hcell
    have HN' : Hid (xs.length = n) := hidm HN.out.symm
    rw [HN'.out] at HC0 HR hac
    clear hcell
    go_enter Try.func46, Try.ntmps46
    have c0 := HC0.out
    have c1 := HC1.out
    go_wp2_with fail
    go_loop [3, 11] (fun sz ii => ∃ i : Nat, i ≤ 2 ∧ ii = .int .i64 i ∧ sz = .int .i64 (szAt n m i : Nat)) (fun _ ii => (2 - (intOf ii).toNat))
    case atStart => exact ⟨0, by omega, rfl, rfl⟩
    case round =>
      obtain ⟨i, hi2, rfl, rfl⟩ := hrel
      have hic : i = 0 ∨ i = 1 ∨ i = 2 := by omega
      rcases hic with rfl | rfl | rfl
      · have e0 : szAt n m 0 = 0 := rfl
        have e1 : szAt n m 1 = n := rfl
        rw [e0]
        go_wp2_with fail
        go_round
        case rel => exact ⟨1, by omega, rfl, by rw [e1]⟩
        case measure => simp [intOf]
      · have e0 : szAt n m 1 = n := rfl
        have e1 : szAt n m 2 = n + m := rfl
        rw [e0]
        go_wp2_with fail
        go_round
        case rel => exact ⟨2, by omega, rfl, by rw [e1]; go_num⟩
        case measure => simp [intOf]
      · have e0 : szAt n m 2 = n + m := rfl
        rw [e0]
        clear e0 hi2
        go_wp2_with fail
        have G := grow_any (n + m) (by omega) (by omega) w
        rw [Int.natCast_add] at G
        refine G.mono ?_
        rintro e w1 ⟨v, rfl, hown, hb⟩
        have HO := hidm hown
        have HB := hidm hb
        clear hown hb G c0 c1
        go_wp2_with fail
        go_loopw [6, 27] (fun vv ii wr => ∃ i : Nat, i ≤ 2 ∧ ii = .int .i64 i ∧ Hid (wr.ownsRow w.heap.size 33 4 vv (szAt n m i) (flat (ptAt xs ys i))) ∧ Hid (Below w.heap.size w wr)) (fun _ ii _ => (2 - (intOf ii).toNat))
        case atStart => exact ⟨0, by omega, rfl, HO, HB⟩
        case round =>
          clear HO HB
          obtain ⟨i, hi2, rfl, HO, HB⟩ := hrel
          have c0 := cell_later HB.out HC0.out
          have c1 := cell_later HB.out HC1.out
          have hsz := HB.out.size
          have hic : i = 0 ∨ i = 1 ∨ i = 2 := by omega
          rcases hic with rfl | rfl | rfl
          · have hown := HO.out
            have hlt2 := hown.lt
            have hrd := hidm (fun j u hu => cell_later HB.out (HX.out j u hu))
            have hfl := hidm (show (flat xs).length = n * 4 from by rw [flat_len, HN'.out])
            go_wp2_with (at_builtin; refine wpList_append_own _ rfl _ _ 25 rfl w.heap.size 33 i0 (.agg #[.int .i64 0, .int .i64 0, .int .u64 0, .string ⟨#[]⟩]) 4 40 Try.underlying25 hi hz0 hz1 hz2 rfl (by decide) _ _ _ rfl hown a n ac (flat xs) rfl hfl.out hrd.out flat_one (by unfold maxLen szAt; simp; omega) (by unfold szAt; simp; omega) hsz ?_)
            intro v' w3 hown' hgrow _
            have HB3 := hidm (HB.out.grown hgrow hsz (fun k hk => (hlt2 k hk).1))
            have HO2 : Hid (w3.ownsRow w.heap.size 33 4 v' (szAt n m 1) (flat (ptAt xs ys 1))) := hidm (by have h := hown'; unfold szAt ptAt at h ⊢; simpa [flat] using h)
            clear hown hown' hgrow hlt2
            go_wp2
            go_roundw
            case rel => exact ⟨1, by omega, rfl, HO2, HB3⟩
            case measure => simp [intOf]
          · have hown := HO.out
            have hlt2 := hown.lt
            have hrd := hidm (fun j u hu => cell_later HB.out (HY.out j u hu))
            have hfl := hidm (show (flat ys).length = m * 4 from by rw [flat_len, HM.out])
            go_wp2_with (at_builtin; refine wpList_append_own _ rfl _ _ 25 rfl w.heap.size 33 i0 (.agg #[.int .i64 0, .int .i64 0, .int .u64 0, .string ⟨#[]⟩]) 4 40 Try.underlying25 hi hz0 hz1 hz2 rfl (by decide) _ _ _ rfl hown b m bcap (flat ys) rfl hfl.out hrd.out flat_one (by unfold maxLen szAt; simp; omega) (by unfold szAt; simp; omega) hsz ?_)
            intro v' w3 hown' hgrow _
            have HB3 := hidm (HB.out.grown hgrow hsz (fun k hk => (hlt2 k hk).1))
            have HO2 : Hid (w3.ownsRow w.heap.size 33 4 v' (szAt n m 2) (flat (ptAt xs ys 2))) := hidm (by have h := hown'; unfold szAt ptAt at h ⊢; simpa [flat] using h)
            clear hown hown' hgrow hlt2
            go_wp2
            go_roundw
            case rel => exact ⟨2, by omega, rfl, HO2, HB3⟩
            case measure => simp [intOf]
          · go_wp2_with fail
            go_ret
            refine ⟨_, rfl, ?_, HB.out⟩
            have h := HO.out
            have hl : szAt n m 2 = (xs ++ ys).length := by unfold szAt; simp [HM.out, HN'.out]
            rw [hl] at h
            exact RowC.of_owns h
end Sch
end Go.Proofs.Ytopmbhpjdmcabaa
