/- slices.Clone, Grow, Concat of items. Condition: no more than a hundred thousand items. -/
import Derived.Test.YtapdhelioecneaaW4
import Derived.Lib.AppendZeros
import Derived.Laws.AppendOwnNone
namespace Go.Proofs.Ytapdhelioecneaa
open Go.RowKit
namespace Idx
set_option maxHeartbeats 2000000 in
set_option maxRecDepth 100000 in
theorem iclone_any {r : List It} {ad : Addr} {c : Nat} {w : World} (hr : ItemsAt r (.slice (some ad) r.length c) w) (hn : r.length ≤ 1000000) :
    Calls Try.prog 49 #[.slice (some ad) r.length c] w fun e w' => ∃ ao' c', e = .returned (.slice ao' r.length c') ∧ w'.ownsRow w.heap.size 31 4 (.slice ao' r.length c') r.length (flat r) ∧ Below w.heap.size w w' := by
  have hq : ∀ (w : World) (a : Option Addr) (n c n' c' : Nat), (binOp .eql 42 (.slice a n c) (.slice none n' c')).run Try.prog w = .ok (.bool a.isNone) w := fun w a n c n' c' => Lib.run_eql_slice_nil w _ _ a n c n' c' Try.underlying42
  obtain ⟨i0, hi0, hz0, hz1, hz2⟩ := info_parts tyX.i
  have hzW : (Value.agg #[.string ⟨#[]⟩, .int .i64 0, .int .i64 0, .int .i64 0]).cells.size = 4 := rfl
  have HO := hide (show ∀ T, ItemsAt r (.slice (some ad) r.length c) (w.alloc (.cells #[] T)) from fun T => hr.later (below_alloc _ _) (Nat.le_refl _))
  have HL := hide (flat_len r)
  obtain ⟨n, hn9⟩ : ∃ n, n = r.length := ⟨_, rfl⟩
  obtain ⟨xs, hxs⟩ : ∃ xs, xs = flat r := ⟨_, rfl⟩
  have H1 := hide (show ∀ v ∈ xs, v.oneCell' = true from by rw [hxs]; exact flat_one r)
  have HC := hide (show ∀ T j u, xs[j]? = some u → (w.alloc (.cells #[] T)).cell? (ad.add j) = some u from by rw [hxs]; exact fun T => (HO.out T).cells)
  rw [← hn9] at hn ⊢
  rw [← hxs]
  rw [← hxs, ← hn9] at HL
  clear hr HO hn9 hxs
  go_enter Try.func49, Try.ntmps49
  go_wp2_with (at_builtin; refine wpList_append_own _ rfl _ _ 42 rfl w.heap.size 31 i0 (.agg #[.string ⟨#[]⟩, .int .i64 0, .int .i64 0, .int .i64 0]) 4 40 Try.underlying42 hi0 hz0 hz1 hz2 hzW (by decide) _ _ _ rfl (World.ownsRow_made w #[] 0 (Nat.le_refl _) (Nat.zero_le _) rfl) ad n c xs rfl ?qc1 ?qc2 ?qc3 ?qc4 ?qc5 ?qc6 ?_)
  case qc1 => exact HL.out
  case qc2 => exact HC.out _
  case qc3 => exact H1.out
  case qc4 => unfold maxLen; omega
  case qc5 => omega
  case qc6 => simp
  intro v' w1 hown hgrow hnil
  have HOW := hide (show w1.ownsRow w.heap.size 31 4 v' n xs from by simpa using hown)
  have HGR := hide (((Below.refl _ w).alloc (Nat.le_refl _) _).grown hgrow (by simp) (by intro k hk; simp [Value.ownBlock] at hk; omega))
  clear hown hgrow hnil
  go_wp2_with fail
  go_ret
  have hf : ∃ ao' c', v' = .slice ao' n c' := by
    rcases HOW.out.2 with ⟨hv, h0⟩ | ⟨g', c2, cur2, hv, _⟩
    · exact ⟨none, 0, by rw [hv, h0]⟩
    · exact ⟨_, _, hv⟩
  obtain ⟨ao', c', rfl⟩ := hf
  exact ⟨ao', c', rfl, HOW.out, HGR.out⟩
def GrowP (base : Nat) (w : World) (e : Ending) (w' : World) : Prop := ∃ v, e = .returned v ∧ w'.ownsRow base 31 4 v 0 [] ∧ Below w.heap.size w w'
set_option maxHeartbeats 1000000 in
set_option maxRecDepth 100000 in
theorem grow_any (n : Nat) (h0 : 0 < n) (hn : n ≤ 1000000) (w : World) :
    Calls Try.prog 71 #[.slice none 0 0, .int .i64 n] w fun e w' => GrowP w.heap.size w e w' := by
  obtain ⟨i0, hi, hz0, hz1, hz2⟩ := info_parts tyX.i
  have happ := Lib.run_append_nil_zeros (P := Try.prog) w 42 3 42 31 i0 (.agg #[.string ⟨#[]⟩, .int .i64 0, .int .i64 0, .int .i64 0]) .i64 .i64 Try.underlying42 Try.underlying3 hi hz0 n h0 (by omega) (by omega) (by rw [hz2]; omega)
  have hge := grownCap_ge w n 0 31
  have hcm := grownCap_le_maxLen w n 0 31 (by unfold maxLen; omega)
  obtain ⟨gc, hgc⟩ : ∃ g, g = grownCap w n 0 31 := ⟨_, rfl⟩
  rw [← hgc] at happ hge hcm
  have hown := World.ownsRow_made (base := w.heap.size) (e := 31) (size := 4) w.drew (Builtin.zeroCells (Value.cells (.agg #[.string ⟨#[]⟩, .int .i64 0, .int .i64 0, .int .i64 0])) n ++ Builtin.zeroCells (Value.cells (.agg #[.string ⟨#[]⟩, .int .i64 0, .int .i64 0, .int .i64 0])) (gc - n)) gc (Nat.le_refl _) hcm (by
    simp only [Array.size_append, Builtin.zeroCells]
    simp [Value.cells]
    omega)
  have HO := hide hown
  have HB := hide (((Below.refl w.heap.size w).drew).alloc (Nat.le_refl _) (.cells (Builtin.zeroCells (Value.cells (.agg #[.string ⟨#[]⟩, .int .i64 0, .int .i64 0, .int .i64 0])) n ++ Builtin.zeroCells (Value.cells (.agg #[.string ⟨#[]⟩, .int .i64 0, .int .i64 0, .int .i64 0])) (gc - n)) 31))
  have HAPP := hide happ
  generalize hW : w.drew.alloc (.cells (Builtin.zeroCells (Value.cells (.agg #[.string ⟨#[]⟩, .int .i64 0, .int .i64 0, .int .i64 0])) n ++ Builtin.zeroCells (Value.cells (.agg #[.string ⟨#[]⟩, .int .i64 0, .int .i64 0, .int .i64 0])) (gc - n)) 31) = W at HO HB HAPP
  clear happ hown hgc hcm hW
  go_enter Try.func71, Try.ntmps71
  go_wp2_with (at_builtin; refine Lib.wpList_append_run _ rfl _ _ _ _ rfl _ _ rfl rfl _ _ HAPP.out ?_)
  go_ret
  exact ⟨_, rfl, HO.out, HB.out⟩
def szAt (n m i : Nat) : Nat := if i = 0 then 0 else if i = 1 then n else n + m
def ptAt (xs ys : List It) (i : Nat) : List It := if i = 0 then [] else if i = 1 then xs else xs ++ ys
set_option maxHeartbeats 4000000 in
set_option maxRecDepth 100000 in
theorem concat_any {xs ys : List It} {a b : Addr} {ac bcap p pcap : Nat} (h0 : 0 < xs.length + ys.length) (hn : xs.length + ys.length ≤ 100000) {w : World} (h1 : ItemsAt xs (.slice (some a) xs.length ac) w) (h2 : ItemsAt ys (.slice (some b) ys.length bcap) w) (c0 : w.cell? ⟨p, 0, none⟩ = some (.slice (some a) xs.length ac)) (c1 : w.cell? ⟨p, 1, none⟩ = some (.slice (some b) ys.length bcap)) :
    Calls Try.prog 68 #[.slice (some ⟨p, 0, none⟩) 2 pcap] w fun e w' => ∃ v, e = .returned v ∧ Row4 31 w.heap.size (xs ++ ys) v w' ∧ Below w.heap.size w w' := by
  obtain ⟨i0, hi, hz0, hz1, hz2⟩ := info_parts tyX.i
  have hplt := World.block_lt_of_cell? w _ c0
  obtain ⟨n, hnn⟩ : ∃ n, n = xs.length := ⟨_, rfl⟩
  obtain ⟨m, hmm⟩ : ∃ m, m = ys.length := ⟨_, rfl⟩
  have hac : xs.length ≤ ac := by
    obtain ⟨_, cp, e, h9, _⟩ := h1.form
    simp only [Value.slice.injEq, true_and] at e
    omega
  have hcell := ItemsAt.cells h1
  rw [← hmm] at c1
  rw [← hnn, ← hmm] at hn h0
  have HN := hide hnn
  have HM := hide hmm
  have HY := hide (ItemsAt.cells h2)
  have HC0 := hide c0
  have HC1 := hide c1
  clear hnn hmm h1 h2 c0 c1
  have HX := hide hcell
  have HN' : Hid (xs.length = n) := hide HN.out.symm
  rw [HN'.out] at HC0 hac
  clear hcell
  go_enter Try.func68, Try.ntmps68
  have c0 := HC0.out
  have c1 := HC1.out
  go_wp2_with fail
  go_loop [3, 11] (fun sz ii => ∃ i : Nat, i ≤ 2 ∧ ii = .int .i64 i ∧ sz = .int .i64 (szAt n m i : Nat)) (fun _ ii => (2 - (intOf ii).toNat))
  case atStart => exact ⟨0, by omega, rfl, rfl⟩
  case round =>
    obtain ⟨i, hi2, rfl, rfl⟩ := hrel
    have hic : i = 0 ∨ i = 1 ∨ i = 2 := by omega
    rcases hic with rfl | rfl | rfl
    · have e0 : szAt n m 0 = 0 := rfl
      have e1 : szAt n m 1 = n := rfl
      rw [e0]
      go_wp2_with fail
      go_round
      case rel => exact ⟨1, by omega, rfl, by rw [e1]⟩
      case measure => simp [intOf]
    · have e0 : szAt n m 1 = n := rfl
      have e1 : szAt n m 2 = n + m := rfl
      rw [e0]
      go_wp2_with fail
      go_round
      case rel => exact ⟨2, by omega, rfl, by rw [e1]; go_num⟩
      case measure => simp [intOf]
    · have e0 : szAt n m 2 = n + m := rfl
      rw [e0]
      clear e0 hi2
      go_wp2_with fail
      have G := grow_any (n + m) (by omega) (by omega) w
      rw [Int.natCast_add] at G
      refine G.mono ?_
      rintro e w1 ⟨v, rfl, hown, hb⟩
      have HO := hide hown
      have HB := hide hb
      clear hown hb G c0 c1
      go_wp2_with fail
      go_loopw [6, 27] (fun vv ii wr => ∃ i : Nat, i ≤ 2 ∧ ii = .int .i64 i ∧ Hid (wr.ownsRow w.heap.size 31 4 vv (szAt n m i) (flat (ptAt xs ys i))) ∧ Hid (Below w.heap.size w wr)) (fun _ ii _ => (2 - (intOf ii).toNat))
      case atStart => exact ⟨0, by omega, rfl, HO, HB⟩
      case round =>
        clear HO HB
        obtain ⟨i, hi2, rfl, HO, HB⟩ := hrel
        have c0 := cell_later HB.out HC0.out
        have c1 := cell_later HB.out HC1.out
        have hsz := HB.out.size
        have hic : i = 0 ∨ i = 1 ∨ i = 2 := by omega
        rcases hic with rfl | rfl | rfl
        · have hown := HO.out
          have hlt2 := hown.lt
          have hrd := hide (fun j u hu => cell_later HB.out (HX.out j u hu))
          have hfl := hide (show (flat xs).length = n * 4 from by rw [flat_len, HN'.out])
          go_wp2_with (at_builtin; refine wpList_append_own _ rfl _ _ 42 rfl w.heap.size 31 i0 (.agg #[.string ⟨#[]⟩, .int .i64 0, .int .i64 0, .int .i64 0]) 4 40 Try.underlying42 hi hz0 hz1 hz2 rfl (by decide) _ _ _ rfl hown a n ac (flat xs) rfl hfl.out hrd.out (flat_one _) (by unfold maxLen szAt; simp; omega) (by unfold szAt; simp; omega) hsz ?_)
          intro v' w3 hown' hgrow _
          have HB3 := hide (HB.out.grown hgrow hsz (fun k hk => (hlt2 k hk).1))
          have HO2 : Hid (w3.ownsRow w.heap.size 31 4 v' (szAt n m 1) (flat (ptAt xs ys 1))) := hide (by have h := hown'; unfold szAt ptAt at h ⊢; simpa [flat] using h)
          clear hown hown' hgrow hlt2
          go_wp2
          go_roundw
          case rel => exact ⟨1, by omega, rfl, HO2, HB3⟩
          case measure => simp [intOf]
        · have hown := HO.out
          have hlt2 := hown.lt
          have hrd := hide (fun j u hu => cell_later HB.out (HY.out j u hu))
          have hfl := hide (show (flat ys).length = m * 4 from by rw [flat_len, HM.out])
          go_wp2_with (at_builtin; refine wpList_append_own _ rfl _ _ 42 rfl w.heap.size 31 i0 (.agg #[.string ⟨#[]⟩, .int .i64 0, .int .i64 0, .int .i64 0]) 4 40 Try.underlying42 hi hz0 hz1 hz2 rfl (by decide) _ _ _ rfl hown b m bcap (flat ys) rfl hfl.out hrd.out (flat_one _) (by unfold maxLen szAt; simp; omega) (by unfold szAt; simp; omega) hsz ?_)
          intro v' w3 hown' hgrow _
          have HB3 := hide (HB.out.grown hgrow hsz (fun k hk => (hlt2 k hk).1))
          have HO2 : Hid (w3.ownsRow w.heap.size 31 4 v' (szAt n m 2) (flat (ptAt xs ys 2))) := hide (by have h := hown'; unfold szAt ptAt at h ⊢; simpa [flat] using h)
          clear hown hown' hgrow hlt2
          go_wp2
          go_roundw
          case rel => exact ⟨2, by omega, rfl, HO2, HB3⟩
          case measure => simp [intOf]
        · go_wp2_with fail
          go_ret
          refine ⟨_, rfl, ?_, HB.out⟩
          have h := HO.out
          have hl : szAt n m 2 = (xs ++ ys).length := by unfold szAt; simp [HM.out, HN'.out]
          rw [hl] at h
          exact h
end Idx
end Go.Proofs.Ytapdhelioecneaa
