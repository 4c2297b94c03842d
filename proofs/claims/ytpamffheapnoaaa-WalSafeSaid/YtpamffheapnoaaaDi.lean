/- Dirty. Conditions: as each says. -/
import Derived.Test.YtpamffheapnoaaaDh
import Derived.Maps.AppendAt
namespace Go.Proofs.Ytpamffheapnoaaa
open Go.RowKit
namespace Dsk
set_option maxHeartbeats 1000000 in
theorem dirty_none (p : Option Addr) (w : World) (h : NotGiven p w) : Calls Try.prog 20 #[.pointer p] w fun e w' => e = .returned (.slice none 0 0) ∧ Below w.heap.size w w' := by
  have G := hidm (given_no p w h)
  go_enter Try.func20, Try.ntmps20
  go_wp2_with fail
  refine G.out.mono ?_
  rintro e w1 ⟨rfl, rfl⟩
  go_wp2_with fail
  go_ret
  exact ⟨rfl, Below.refl _ _⟩
def ints (l : List Nat) : List Value := l.map fun (n : Nat) => Value.int .i64 (n : Int)
/-- The slice v holds these numbers, in blocks from base on. -/
def IntsAt (base : Nat) (l : List Nat) (v : Value) (w : World) : Prop := w.ownsRow base 3 1 v l.length (ints l)
theorem IntsAt.later {base : Nat} {l : List Nat} {v : Value} {w w' : World} (h : IntsAt base l v w) (hb : Below w.heap.size w w') : IntsAt base l v w' := owns_later h hb
theorem IntsAt.form {base : Nat} {l : List Nat} {v : Value} {w : World} (h : IntsAt base l v w) : ∃ ao cap, v = .slice ao l.length cap ∧ l.length ≤ cap ∧ cap ≤ 9223372036854775807 := by
  rcases h.2 with ⟨h1, h2⟩ | ⟨g, c, cur, hv, _, _, hnc, hcm, _⟩
  · exact ⟨none, 0, by rw [h1, h2], by omega, by omega⟩
  · exact ⟨_, c, hv, hnc, by unfold maxLen at hcm; omega⟩
theorem IntsAt.at {base : Nat} {l : List Nat} {v : Value} {w : World} (h : IntsAt base l v w) (i : Nat) (hi : i < l.length) : ∃ g cap, v = .slice (some ⟨g, 0, none⟩) l.length cap ∧ g < w.heap.size ∧ w.cell? ⟨g, i, none⟩ = some (.int .i64 (l[i] : Int)) := by
  rcases h.2 with ⟨_, h2⟩ | ⟨g, c, cur, hv, _, hh, hnc, hcm, hsz, htk⟩
  · omega
  · refine ⟨g, c, hv, lt_of_block hh, ?_⟩
    rw [cell_of_row _ _ _ _ _ (0, 0) hh]
    have h1 : (ints l)[i]? = some (.int .i64 (l[i] : Int)) := by unfold ints; simp [hi]
    rw [← htk, List.getElem?_take_of_lt (by omega)] at h1
    simpa using h1
theorem infoI : (Try.prog.info? 3).map (fun i => (i.zero, i.size, i.bytes)) = some (some (.int .i64 0), 1, 8) := by kernel_rfl
def PD.dirty (d : PD) : List Nat := d.cs.map (·.pos)
theorem dirty_len (d : PD) : d.dirty.length = d.cs.length := by simp [PD.dirty]
theorem ints_snoc (l : List Nat) (n : Nat) : ints (l ++ [n]) = ints l ++ [.int .i64 (n : Int)] := by simp [ints]
set_option maxHeartbeats 4000000 in
set_option maxRecDepth 100000 in
theorem dirty_any {D : Nat} {d : PD} {T : Nat → Prop} (w : World) (h : DiskIs D d T w) :
    Calls Try.prog 20 #[.pointer (some ⟨D, 0, none⟩)] w fun e w' => ∃ v, e = .returned v ∧ IntsAt w.heap.size d.dirty v w' ∧ Below w.heap.size w w' := by
  obtain ⟨i0, hi0, hz0, hz1, hz2⟩ := info_parts infoI
  obtain ⟨M, ao, cap, hA⟩ := h
  have HA := hidm hA
  have G := hidm (given_yes D w hA.c0)
  have c3 := hA.c3
  have ok := hA.ok
  obtain ⟨n, hn⟩ : ∃ n, n = d.cs.length := ⟨_, rfl⟩
  have hn1 : n ≤ 1000000 := by rw [hn]; exact ok.2.2.1
  have HOK := hidm ok.2.1
  rw [← hn] at c3
  have HN := hidm hn
  obtain ⟨ZW, hZW⟩ : ∃ ZW, ZW = zeroW := ⟨_, rfl⟩
  have hz := zeroWV
  rw [← hZW] at hz
  have HZW := hidm hZW
  clear hA ok hn hZW
  go_enter Try.func20, Try.ntmps20
  go_wp2_with fail
  refine G.out.mono ?_
  rintro e w1 ⟨rfl, rfl⟩
  go_wp2_with fail
  clear c3
  go_loopw [3, 14] (fun vv ii wr => ∃ (i : Nat) (vo : Option Addr) (vc : Nat), ii = .int .i64 i ∧ i ≤ n ∧ vv = .slice vo i vc ∧ Hid (wr.ownsRow w.heap.size 3 1 (.slice vo i vc) i (ints (d.dirty.take i))) ∧ Hid (Below w.heap.size w wr)) (fun _ ii _ => (n - (intOf ii).toNat))
  case atStart => exact ⟨0, none, 0, rfl, by omega, rfl, hidm (World.ownsRow_nil _ _ _ _), hidm (Below.refl _ _)⟩
  case round =>
    obtain ⟨i, vo, vc, rfl, hi, rfl, HO, HB⟩ := hrel
    rcases Nat.lt_or_ge i n with hlt | hge
    · have f1 : (i : Int) < n := by omega
      have hic : i < d.cs.length := by have := HN.out; omega
      obtain ⟨g, hao, _, hg, hc1, hc2, hrg⟩ := HA.out.at (fun e => by rw [e] at hic; simp at hic)
      have hr := hrg i hic
      subst hao
      obtain ⟨x, hx⟩ : ∃ x, x = d.cs[i] := ⟨_, rfl⟩
      rw [← hx] at hr
      have hxo : x.ok := by rw [hx]; exact HOK.out _ (List.getElem_mem hic)
      obtain ⟨XV, hXV⟩ : ∃ XV, XV = x.val := ⟨_, rfl⟩
      rw [← hXV] at hr
      have hXs : XV.size = 257 := by rw [hXV]; exact Wt.val_size hxo
      have HXI := hidm (show (Try.prog.info? 78).map (·.size) = some XV.size from by rw [hXs]; exact sizeW)
      have HXL := hidm (show (Try.prog.info? 78).map (·.size) = some XV.toList.length from by rw [Array.length_toList, hXs]; exact sizeW)
      have HX1 := hidm (show XV.all (·.oneCell') = true from by rw [hXV]; exact x.val_one)
      have HZC := hidm (show ZW.size = XV.size from by rw [HZW.out, hXs]; simp [zeroW, vals_len, zeros_len])
      have HR := hidm (show wr.rangeAt g (i * 257) XV.toList from rangeAt_keep hr (HB.out.block g hg))
      have hp0 : (wr.alloc (.cells XV 78)).cell? ⟨wr.heap.size, 0, none⟩ = some (.int .i64 (x.pos : Int)) := by
        rw [cell_of_row _ _ 0 _ _ (0, 0) (heap_alloc_last wr _), hXV]; rfl
      have HD := hidm (show ints (d.dirty.take (i + 1)) = ints (d.dirty.take i) ++ [.int .i64 (x.pos : Int)] from by
        rw [List.take_succ_eq_append_getElem (by rw [dirty_len]; exact hic), ints_snoc, hx]
        simp [PD.dirty])
      clear hrg hr hXV hXs hx hxo hg
      go_wp2_with (first
        | (refine wpList_load_mid rfl 78 _ rfl g (i * 257) rfl XV.toList _ HR.out Try.underlying78 rfl HXL.out ?_)
        | (refine wpList_store_new rfl 78 _ _ rfl wr ZW XV rfl rfl HXI.out HZC.out HX1.out ?_)
        | (at_builtin; refine wpList_append_own _ rfl _ _ 43 rfl w.heap.size 3 i0 (.int .i64 0) 1 8 Try.underlying43 hi0 hz0 hz1 hz2 rfl (by decide) _ _ _ rfl (owns_later (owns_later HO.out ((Below.refl _ _).alloc (Nat.le_refl _) _)) ((Below.refl _ _).alloc (Nat.le_refl _) _)) ⟨wr.heap.size + 1, 0, none⟩ 1 1 [.int .i64 (x.pos : Int)] rfl rfl ?CA ?CB ?CC ?CD ?CE ?_))
      case CA =>
        intro j y hj
        match j, hj with
        | 0, hj => simp at hj; subst hj; simp [Addr.add, go_sem]
        | j + 1, hj => simp at hj
      case CB => intro y hy; simp at hy; subst hy; rfl
      case CC => unfold maxLen; omega
      case CD => omega
      case CE => simp; have := HB.out.size; omega
      intro v' w2 hown hgrow _
      rw [← HD.out] at hown
      obtain ⟨wo, wc, hvv⟩ : ∃ so sc, v' = .slice so (i + 1) sc := by
        rcases hown.2 with ⟨hv, h0⟩ | ⟨g', c', cur, hv, _⟩
        · exact absurd h0 (by omega)
        · exact ⟨_, _, hv⟩
      subst hvv
      have HO2 := hidm hown
      have HB2 := hidm (((HB.out.alloc HB.out.size (.cells XV 78)).alloc (by have := HB.out.size; simp; omega) (.cells #[.int .i64 (x.pos : Int)] 3)).grown hgrow (by have := HB.out.size; simp; omega) (fun q hq => (HO.out.lt q hq).1))
      clear hown hgrow
      go_wp2_with fail
      go_roundw
      case rel => exact ⟨i + 1, wo, wc, by go_num, by omega, rfl, HO2, HB2⟩
      case measure => simp [intOf]; omega
    · obtain rfl : i = n := by omega
      have f1 : ¬ (i : Int) < (i : Int) := by omega
      have HT := hidm (show d.dirty.take i = d.dirty from List.take_of_length_le (by rw [dirty_len, ← HN.out]; exact Nat.le_refl _))
      have HL := hidm (show d.dirty.length = i from by rw [dirty_len, ← HN.out])
      go_wp2_with fail
      go_ret
      refine ⟨_, rfl, ?_, HB.out⟩
      unfold IntsAt
      rw [HL.out, ← HT.out]
      exact HO.out
end Dsk
end Go.Proofs.Ytpamffheapnoaaa
