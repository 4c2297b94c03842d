/- The document's New, Read, Dirty. Conditions: as each says. -/
import Derived.Test.YtkbadjlehmaneaaRa
namespace Go.Proofs.Ytkbadjlehmaneaa
open Go.RowKit
namespace Dsk
set_option maxHeartbeats 1000000 in
theorem rnew_bad (n : Int) (hn : n < 1 ∨ 4096 < n) (w : World) :
    Calls Try.prog 10 #[.int .i64 n] w fun e w' => e = .returned (.tuple #[.pointer (some ⟨w.heap.size, 0, none⟩), .int .i64 1]) ∧ Below w.heap.size w w' := by
  rcases hn with h | h
  · go_enter Try.func10, Try.ntmps10
    go_wp2_with fail
    go_ret2
    exact ⟨rfl, (Below.refl _ _).alloc (Nat.le_refl _) _⟩
  · have f1 : ¬ n < 1 := by omega
    go_enter Try.func10, Try.ntmps10
    go_wp2_with fail
    go_ret2
    exact ⟨rfl, (Below.refl _ _).alloc (Nat.le_refl _) _⟩
def ncells (v : Value) : Array Value := #[v, .slice none 0 0, .int .i64 0, .int .i64 0, .bool false, .int .i64 0]
theorem pad_nil : pad (⟨#[]⟩ : ByteArray).data.toList = zeros := rfl
set_option maxHeartbeats 4000000 in
set_option maxRecDepth 100000 in
theorem rnew_any (n : Nat) (h1 : 1 ≤ n) (h2 : n ≤ 4096) (w : World) :
    Calls Try.prog 10 #[.int .i64 (n : Int)] w fun e w' => e = .returned (.tuple #[.pointer (some ⟨w.heap.size, 0, none⟩), .int .i64 0]) ∧ RefIs w.heap.size (PD.new n) (Come w w') w' ∧ Below w.heap.size w w' := by
  obtain ⟨i0, hi0, hz0, hz1, hz2⟩ := info_parts infoS
  have f1 : ¬ (n : Int) < 1 := by omega
  have f2 : ¬ (4096 : Int) < (n : Int) := by omega
  have PADC := hidm (fun w => rpad_any ⟨#[]⟩ (by decide) w)
  rw [pad_nil] at PADC
  obtain ⟨z, hz⟩ : ∃ z, z = zeros := ⟨_, rfl⟩
  rw [← hz] at PADC
  have HZ := hidm hz
  clear hz
  go_enter Try.func10, Try.ntmps10
  go_wp2_with fail
  obtain ⟨W1, hW1⟩ : ∃ W1, W1 = w.alloc (.cells (ncells (.slice none 0 0)) 46) := ⟨_, rfl⟩
  have hb1 : Below w.heap.size w W1 := by rw [hW1]; exact (Below.refl _ _).alloc (Nat.le_refl _) _
  have hr1 : W1.heap[w.heap.size]? = some (.cells (ncells (.slice none 0 0)) 46 (0, 0)) := by rw [hW1, heap_alloc_last w _]
  unfold ncells at hW1
  rw [← hW1]
  clear hW1
  refine (PADC.out W1).mono ?_
  rintro e w2 ⟨rfl, hb2⟩
  obtain ⟨R, hR⟩ : ∃ R, R = w.heap.size := ⟨_, rfl⟩
  have HR := hidm hR
  have HR2 := hidm (below_keeps hb2 hr1)
  have HB2 := hidm (hb1.trans (hb2.mono hb1.size))
  rw [← hR] at HR2 ⊢
  clear hb1 hb2 hr1 hR
  go_wp2_with fail
  go_loopw [6] (fun ii wx => ∃ (i : Nat) (vo : Option Addr) (vc : Nat), ii = .int .i64 i ∧ i ≤ n ∧ Hid (wx.heap[R]? = some (.cells (ncells (.slice vo i vc)) 46 (0, 0))) ∧ Hid (wx.ownsRow (R + 1) 9 1 (.slice vo i vc) i (strs (List.replicate i z))) ∧ Hid (Below w.heap.size w wx)) (fun ii _ => (n - (intOf ii).toNat))
  case atStart => exact ⟨0, none, 0, rfl, by omega, HR2, hidm (World.ownsRow_nil _ _ _ _), HB2⟩
  case round =>
    rename World => wx
    obtain ⟨i, vo, vc, rfl, hi, HRW, HO, HB⟩ := hrel
    rcases Nat.lt_or_ge i n with hlt | hge
    · have f3 : (i : Int) < n := by omega
      have hRlt : R < wx.heap.size := lt_of_block HRW.out
      have HRL := hidm hRlt
      have c0 : wx.cell? ⟨R, 0, none⟩ = some (.slice vo i vc) := row_cell HRW.out 0
      have c0' : ∀ o, (wx.alloc o).cell? ⟨R, 0, none⟩ = some (.slice vo i vc) := fun o => cell_later ((Below.refl _ wx).alloc (Nat.le_refl _) o) c0
      have hba : Below wx.heap.size wx (wx.alloc (.cells #[.string (S z)] 9)) := (Below.refl _ wx).alloc (Nat.le_refl _) _
      have HBA := hidm hba
      have HRA := hidm (below_keeps hba HRW.out)
      have HOA := hidm (owns_later HO.out hba)
      have HST := hidm (show strs (List.replicate (i + 1) z) = strs (List.replicate i z) ++ [.string (S z)] from by rw [List.replicate_succ', strs_snoc])
      have HOL := hidm (show ∀ q, (Value.slice vo i vc).ownBlock = some q → R + 1 ≤ q from fun q hq => (HO.out.lt q hq).1)
      clear hba hRlt
      go_wp2_with (at_builtin; refine wpList_append_own _ rfl _ _ 43 rfl (R + 1) 9 i0 (.string ⟨#[]⟩) 1 16 Try.underlying43 hi0 hz0 hz1 hz2 rfl (by decide) _ _ _ rfl HOA.out ⟨wx.heap.size, 0, none⟩ 1 1 [.string (S z)] rfl rfl ?CA ?CB ?CC ?CD ?CE ?_)
      case CA =>
        intro j y hj
        match j, hj with
        | 0, hj => simp at hj; subst hj; simp [Addr.add, go_sem]
        | j + 1, hj => simp at hj
      case CB => intro y hy; simp at hy; subst hy; rfl
      case CC => unfold maxLen; omega
      case CD => omega
      case CE => simp; have := HRL.out; omega
      intro v' w3 hown hgrow _
      rw [← HST.out] at hown
      obtain ⟨wo, wc, hvv⟩ : ∃ so sc, v' = .slice so (i + 1) sc := by
        rcases hown.2 with ⟨hv, h0⟩ | ⟨g', c', cur, hv, _⟩
        · exact absurd h0 (by omega)
        · exact ⟨_, _, hv⟩
      subst hvv
      have hr3 : w3.heap[R]? = some (.cells (ncells (.slice vo i vc)) 46 (0, 0)) := by
        rw [hgrow.block R (by have := HRL.out; simp; omega) (fun e => by have := HOL.out R e.symm; omega)]
        exact HRA.out
      have c3 : w3.cell? ⟨R, 0, none⟩ = some (.slice vo i vc) := row_cell hr3 0
      have z3 := frozen_of_row w3 R 0 _ _ hr3
      have hb3 : Below w.heap.size w w3 := (HB.out.alloc HB.out.size (.cells #[.string (S z)] 9)).grown hgrow (by have := HB.out.size; simp; omega) (fun q hq => by have := HOL.out q hq; have := HR.out; omega)
      have HRN := hidm (show (w3.setCell ⟨R, 0, none⟩ (.slice wo (i + 1) wc)).heap[R]? = some (.cells (ncells (.slice wo (i + 1) wc)) 46 (0, 0)) from by rw [heap_setCell_same w3 R 0 _ _ _ hr3]; rfl)
      have HON := hidm (show (w3.setCell ⟨R, 0, none⟩ (.slice wo (i + 1) wc)).ownsRow (R + 1) 9 1 (.slice wo (i + 1) wc) (i + 1) (strs (List.replicate (i + 1) z)) from ownsRow_of hown (fun q hq => heap_setCell_other w3 _ q _ (by have := (hown.lt q hq).1; show q ≠ R; omega)))
      have HBN := hidm (show Below w.heap.size w (w3.setCell ⟨R, 0, none⟩ (.slice wo (i + 1) wc)) from ((Only.of (T := fun k => k = R) hb3).set (.inl rfl) _).below (fun k e => by have : k = R := e; have := HR.out; omega) (Nat.le_refl _))
      clear hown hgrow hr3 hb3 c0 c0'
      go_wp2_with fail
      go_roundw
      case rel => exact ⟨i + 1, wo, wc, by go_num, by omega, HRN, HON, HBN⟩
      case measure => simp [intOf]; omega
    · obtain rfl : i = n := by omega
      have f3 : ¬ (i : Int) < (i : Int) := by omega
      go_wp2_with fail
      go_ret2
      have hRR := HR.out
      refine ⟨by rw [← hRR]; rfl, ?_, HB.out⟩
      rw [← hRR]
      have hrw := HRW.out
      rcases HO.out.2 with ⟨_, h0⟩ | ⟨g, c, cur, hv, hg, hh, hnc, hcm, hsz, htk⟩
      · omega
      · simp only [Value.slice.injEq] at hv
        obtain ⟨rfl, -, rfl⟩ := hv
        refine ⟨0, g, vc, none, 0, ⟨hrw, ⟨by rw [rowL_len]; exact hnc, by unfold maxLen at hcm; omega, cur, hh, by omega, fun j hj => ?_⟩, World.ownsRow_nil _ _ _ _, rowL_len _ _, rfl, ⟨by omega, lt_of_block hrw⟩, ⟨by omega, lt_of_block hh⟩, fun p hp => (nomatch hp), fun k hk => hk.2⟩, (fun h => by cases h), by show -((0 : Nat) + (0 : Nat) : Int) ≤ 0; omega, by omega, PD.new_ok h2⟩
        have hj2 : j < i := by rw [rowL_len] at hj; exact hj
        have e1 : (strs (List.replicate i z))[j]? = some (.string (S z)) := by unfold strs; simp [hj2]
        rw [← htk, List.getElem?_take_of_lt (by omega)] at e1
        rw [Nat.zero_add, rowL_at]
        show cur[j]? = some (.string (S zeros))
        rw [← HZ.out]
        simpa using e1
/-! ### Read -/
set_option maxHeartbeats 2000000 in
theorem rread_off {R : Nat} {d : PD} {T : Nat → Prop} (k : Int) (w : World) (h : RefIs R d T w) (hk : off d.n k) :
    Calls Try.prog 14 #[.pointer (some ⟨R, 0, none⟩), .int .i64 k] w fun e w' => e = .returned (.tuple #[.string ⟨#[]⟩, .int .i64 2]) ∧ Below w.heap.size w w' := by
  obtain ⟨lf, g, lc, wo, wc, hA, r1, r2, r3, r4⟩ := h
  have c0 := hA.c0
  clear hA
  rcases hk with hk | hk
  · go_enter Try.func14, Try.ntmps14
    go_wp2_with fail
    go_ret2
    exact ⟨rfl, Below.refl _ _⟩
  · have f1 : ¬ k < 0 := by omega
    go_enter Try.func14, Try.ntmps14
    go_wp2_with fail
    go_ret2
    exact ⟨rfl, Below.refl _ _⟩
theorem redoN_all (f : Int → List UInt8) (cs : List Wt) (ks : List Bool) (k : Nat) (h : (cs.zip ks).length ≤ k) : redoN f cs ks k = redo f cs ks := by
  unfold redoN redo
  rw [List.take_of_length_le h]
theorem redoN_zero (f : Int → List UInt8) (cs : List Wt) (ks : List Bool) : redoN f cs ks 0 = f := rfl
set_option maxHeartbeats 4000000 in
set_option maxRecDepth 100000 in
theorem rread_on {R : Nat} {d : PD} {T : Nat → Prop} (k : Nat) (w : World) (h : RefIs R d T w) (hg : Good d) (hk : k < d.n) :
    Calls Try.prog 14 #[.pointer (some ⟨R, 0, none⟩), .int .i64 (k : Int)] w fun e w' => e = .returned (.tuple #[.string (S (d.f k)), .int .i64 0]) ∧ Below w.heap.size w w' := by
  obtain ⟨lf, g, lc, wo, wc, hA, r1, r2, r3, r4⟩ := h
  have HA := hidm hA
  obtain ⟨b1, b2, b3, b4⟩ := hA.bounds
  have c0 := hA.c0
  have c1 := hA.c1
  have hkl : k < (rowL d.n (undoW d.f d.cs)).length := by rw [rowL_len]; exact hk
  have hcl : w.cell? ⟨g, k, none⟩ = some (.string (S (undoW d.f d.cs k))) := by
    have := hA.part.at k hkl
    rwa [rowL_at, Nat.zero_add] at this
  have hgl : g < w.heap.size := hA.part.lt
  have ok := r4
  obtain ⟨n, hn⟩ : ∃ n, n = d.n := ⟨_, rfl⟩
  obtain ⟨m, hm⟩ : ∃ m, m = d.cs.length := ⟨_, rfl⟩
  have hm1 : m ≤ 1000000 := by rw [hm]; exact ok.2.2.1
  obtain ⟨tx, htx⟩ : ∃ t, t = d.f (k : Int) := ⟨_, rfl⟩
  obtain ⟨ux, hux⟩ : ∃ t, t = undoW d.f d.cs (k : Int) := ⟨_, rfl⟩
  have HTX := hidm htx
  have HUX := hidm hux
  have HG := hidm hg
  have HM := hidm hm
  have f2 : ¬ (k : Int) < 0 := by omega
  have f3 : ¬ (n : Int) ≤ (k : Int) := by omega
  have f4 : wrap64 ((m : Int) - 1) = (m : Int) - 1 := by unfold wrap64; omega
  have HS0 := hidm (show redoN (undoW d.f d.cs) d.cs (List.replicate d.cs.length true) m (k : Int) = tx from by
    rw [hm, redoN_all _ _ _ _ (by simp), hg.full, htx])
  rw [← hn] at c0
  rw [← hn] at b3
  rw [← hm] at c1 b1
  rw [← hux] at hcl
  rw [← htx]
  clear hA hm hn hux htx hkl hg r1 r2 r3 r4 ok
  go_enter Try.func14, Try.ntmps14
  go_wp2_with fail
  go_loopw [6] (fun ii wr => ∃ i : Int, ii = .int .i64 i ∧ -1 ≤ i ∧ i < m ∧ wr = w ∧ Hid (redoN (undoW d.f d.cs) d.cs (List.replicate d.cs.length true) (i + 1).toNat (k : Int) = tx)) (fun ii _ => ((intOf ii) + 1).toNat)
  case atStart => exact ⟨(m : Int) - 1, rfl, by omega, by omega, rfl, hidm (by rw [show ((m : Int) - 1 + 1).toNat = m by omega]; exact HS0.out)⟩
  case round =>
    rename World => wr
    obtain ⟨i, rfl, hi1, hi2, rfl, HI⟩ := hrel
    by_cases hi0 : 0 ≤ i
    · obtain ⟨q, rfl⟩ := Int.eq_ofNat_of_zero_le hi0
      have hqm : q < d.cs.length := by have := HM.out; omega
      obtain ⟨b, hb⟩ := HA.out.some (by omega)
      have hw := HA.out.wAt _ hb
      obtain ⟨e0, e1⟩ := flatR_at d.cs q hqm
      have p0 := hw.2.2.2.2.2.2 _ _ e0
      have p1 := hw.2.2.2.2.2.2 _ _ e1
      subst hb
      obtain ⟨x, hx⟩ : ∃ x, x = d.cs[q] := ⟨_, rfl⟩
      rw [← hx] at p0 p1
      have HST := hidm (show redoN (undoW d.f d.cs) d.cs (List.replicate d.cs.length true) (q + 1) (k : Int) = upd (redoN (undoW d.f d.cs) d.cs (List.replicate d.cs.length true) q) x.pos x.laid (k : Int) from by
        rw [redoN_succ _ _ _ q hqm (by simpa using hqm)]
        simp [hx])
      have hqw : q < wc := by have := HM.out; omega
      have hqi : (q : Int) < m := by omega
      have e2 : ((q : Int) + 1).toNat = q + 1 := by omega
      rw [e2] at HI
      have f5 : wrap64 ((q : Int) - 1) = (q : Int) - 1 := by unfold wrap64; omega
      rw [show 2 * q = q * 2 by omega] at p0 p1
      clear hx e0 e1 hw hi0 hi1 e2
      by_cases hpk : x.pos = k
      · have g1 : (x.pos : Int) = (k : Int) := by omega
        have HTT := hidm (show x.laid = tx from by rw [← HI.out, HST.out, hpk, upd_same])
        rw [HTT.out] at p1
        rw [hpk] at p0
        clear g1 hpk
        go_wp2_with fail
        go_ret2
        exact ⟨rfl, Below.refl _ _⟩
      · have g1 : ¬ (x.pos : Int) = (k : Int) := by omega
        have g2 : ((x.pos : Int) == (k : Int)) = false := by simpa using g1
        have HI2 := hidm (show redoN (undoW d.f d.cs) d.cs (List.replicate d.cs.length true) ((q : Int) - 1 + 1).toNat (k : Int) = tx from by
          rw [show ((q : Int) - 1 + 1).toNat = q by omega, ← HI.out, HST.out, upd_other _ _ _ _ (by omega)])
        go_wp2_with fail
        go_roundw
        case rel => exact ⟨(q : Int) - 1, by go_num, by omega, by omega, (by first | rfl | trivial), HI2⟩
        case measure => simp [intOf] <;> omega
    · have g1 : ¬ (0 : Int) ≤ i := hi0
      obtain rfl : i = -1 := by omega
      have HTT := hidm (show ux = tx from by
        have h := HI.out
        rw [show ((-1 : Int) + 1).toNat = 0 from rfl, redoN_zero] at h
        rw [HUX.out, h])
      rw [HTT.out] at hcl
      clear hi0 g1 HI
      have hki : (k : Int) < n := by omega
      have hkc : k < lc := by omega
      go_wp2_with fail
      go_ret2
      exact ⟨rfl, Below.refl _ _⟩
end Dsk
end Go.Proofs.Ytkbadjlehmaneaa
