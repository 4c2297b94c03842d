import Derived.Test.YtkgbemkcnahkoaaGreatDoorZWm
namespace Go.Proofs.YtkgbemkcnahkoaaGreatDoor
open Go.RowKit
namespace Wal
open Dsk (PD Mine KeepQ DiskIs Only Grow upd pad)
open Crc (S S_of S_size S_append S_add hidm)
def readG (F m : Nat) (f : Int → List UInt8) : List (List UInt8 × Nat) := go (plF F f) (slF F f).1 m 0 (st (slF F f).2) []
def openedG (F m : Nat) (f : Int → List UInt8) : PL := ⟨F, m, (slF F f).1 + 1, (readG F m f).map Prod.fst, lst (readG F m f) 0, false⟩
section
variable {W : World} {Q : Nat → Prop} {L D : Nat} {g : PL} {d : PD} {w : World}
def rawLog (L D : Nat) (F m : Nat) : Obj := .cells #[.pointer (some ⟨L, 0, none⟩), .pointer (some ⟨D, 0, none⟩), .int .i64 (F : Int), .int .i64 (m : Int), .int .u64 0, .slice none 0 0, .int .i64 0, .bool false] 119
theorem Pair.new (h : Mine W Q D d w) (F m : Nat) (hF : F ≤ 4096) (hm : m ≤ 1000) : Pair W Q w.heap.size D ⟨F, m, 0, [], 0, false⟩ d (w.alloc (rawLog w.heap.size D F m)) ∧ KeepQ Q w (w.alloc (rawLog w.heap.size D F m)) := by
 have hb : Below w.heap.size w (w.alloc (rawLog w.heap.size D F m)) := (Below.refl _ _).alloc (Nat.le_refl _) _
 have hg := h.guard hb
 have hW := h.bel.size
 have hq := h.qlt
 have hg2 : Mine W (fun k => Q k ∨ k = w.heap.size) D d (w.alloc (rawLog w.heap.size D F m)) := by
   obtain ⟨⟨T, hT, hq2⟩, hB, hql⟩ := hg
   refine ⟨⟨T, hT, fun k hk => ⟨(hq2 k hk).1, fun e => (hq2 k hk).2 ?_⟩⟩, hB, fun k hk => ?_⟩
   · rcases e with e | e
     · exact .inl e
     · exact .inr ⟨by omega, by rw [e]; simp⟩
   · rcases hk with e | e
     · exact hql k (.inl e)
     · rw [e]; simp
 refine ⟨⟨fun k => k = w.heap.size, .slice none 0 0, hg2, ⟨heap_alloc_last w _, World.ownsRow_nil _ _ _ _, rfl, fun b hb => (by cases hb), ⟨hF, hm, Nat.zero_le _, Nat.zero_le _, Nat.zero_le _⟩⟩, fun k hk => ?_⟩, fun k hk => ?_⟩
 · have hk : k = w.heap.size := hk
   rw [hk]
   exact ⟨hW, fun e => by have := hq _ e; omega⟩
 · exact hb.block k (hq k hk)
end
end Wal
end Go.Proofs.YtkgbemkcnahkoaaGreatDoor
namespace Go.Proofs.YtkgbemkcnahkoaaGreatDoor
open Go.RowKit
namespace Wal
open Dsk (PD Mine KeepQ DiskIs Only Grow upd pad)
open Crc (S S_of S_size S_append S_add hidm)
open Cod (clone_any)
set_option maxHeartbeats 2000000 in
theorem sclone_nil (w : World) :
   Calls Tryz.prog 118 #[.slice none 0 0] w fun e w' => e = .returned (.slice none 0 0) ∧ w' = w := by
 have hq : ∀ (w : World) (a : Option Addr) (n c n' c' : Nat), (binOp .eql 57 (.slice a n c) (.slice none n' c')).run Tryz.prog w = .ok (.bool a.isNone) w := fun w a n c n' c' => Lib.run_eql_slice_nil w _ _ a n c n' c' Tryz.underlying57
 go_enter Tryz.func118, Tryz.ntmps118
 go_wp2_with fail
 go_ret
 exact ⟨rfl, rfl⟩
set_option maxHeartbeats 2000000 in
set_option maxRecDepth 100000 in
theorem sclone_some (g n c : Nat) (xs : List Value) (w : World) (hn : n ≤ 1000000) (h1 : ∀ v ∈ xs, v.oneCell' = true) (hown : w.ownsRow 0 9 1 (.slice (some ⟨g, 0, none⟩) n c) n xs) :
   Calls Tryz.prog 118 #[.slice (some ⟨g, 0, none⟩) n c] w fun e w' => ∃ v', e = .returned v' ∧ w'.ownsRow w.heap.size 9 1 v' n xs ∧ Below w.heap.size w w' := by
 obtain ⟨i0, hi0, hz0, hz1, hz2⟩ := info_parts infoS
 have hq : ∀ (w : World) (a : Option Addr) (n c n' c' : Nat), (binOp .eql 57 (.slice a n c) (.slice none n' c')).run Tryz.prog w = .ok (.bool a.isNone) w := fun w a n c n' c' => Lib.run_eql_slice_nil w _ _ a n c n' c' Tryz.underlying57
 have hzW : (Value.string ⟨#[]⟩).cells.size = 1 := rfl
 have HXL := hidm (show xs.length = n * 1 from hown.1)
 have HO := hidm (show ∀ j u, xs[j]? = some u → g < w.heap.size ∧ w.cell? ⟨g, j, none⟩ = some u from fun j u hu => by
   rcases hown.2 with ⟨hv, _⟩ | ⟨g', c', cur, hv, _, hh, _, _, hsz, htk⟩
   · cases hv
   · simp only [Value.slice.injEq, Option.some.injEq, Addr.mk.injEq] at hv
     obtain ⟨⟨rfl, _⟩, _⟩ := hv
     refine ⟨lt_of_block hh, ?_⟩
     rw [cell_of_row _ _ _ _ _ (0, 0) hh]
     rw [← htk] at hu
     have hj : j < n * 1 := by
       have := (List.getElem?_eq_some_iff.1 hu).1
       simp at this; omega
     rw [List.getElem?_take_of_lt hj] at hu
     simpa using hu)
 have H1 := hidm h1
 clear hown h1
 go_enter Tryz.func118, Tryz.ntmps118
 go_wp2_with (at_builtin; refine wpList_append_own _ rfl _ _ 57 rfl w.heap.size 9 i0 (.string ⟨#[]⟩) 1 16 Tryz.underlying57 hi0 hz0 hz1 hz2 hzW (by decide) _ _ _ rfl (World.ownsRow_made w #[] 0 (Nat.le_refl _) (Nat.zero_le _) rfl) ⟨g, 0, none⟩ n c xs rfl ?qc1 ?qc2 ?qc3 ?qc4 ?qc5 ?qc6 ?_)
 case qc1 => exact HXL.out
 case qc2 =>
   intro j u hj
   obtain ⟨h1, h2⟩ := HO.out j u hj
   have hadd : (⟨g, 0, none⟩ : Addr).add j = ⟨g, j, none⟩ := by unfold Addr.add; split <;> simp_all
   rw [hadd]
   exact cell_later ((Below.refl _ w).alloc (Nat.le_refl _) _) h2
 case qc3 => exact H1.out
 case qc4 => unfold maxLen; omega
 case qc5 => omega
 case qc6 => simp
 intro v' w1 hown hgrow hnil
 have HOW := hidm (show w1.ownsRow w.heap.size 9 1 v' n xs from by simpa using hown)
 have HGR := hidm hgrow
 clear hown hgrow hnil
 go_wp2_with fail
 go_ret
 exact ⟨v', rfl, HOW.out, ((Below.refl _ w).alloc (Nat.le_refl _) _).grown HGR.out (by simp) (by intro k hk; simp [Value.ownBlock] at hk; omega)⟩
theorem sclone_any (ao : Option Addr) (n c : Nat) (xs : List Value) (w : World) (hn : n ≤ 1000000) (h1 : ∀ v ∈ xs, v.oneCell' = true) (hown : w.ownsRow 0 9 1 (.slice ao n c) n xs) :
   Calls Tryz.prog 118 #[.slice ao n c] w fun e w' => ∃ ao' c', e = .returned (.slice ao' n c') ∧ w'.ownsRow w.heap.size 9 1 (.slice ao' n c') n xs ∧ Below w.heap.size w w' := by
 rcases hown.2 with ⟨hv, h0⟩ | ⟨g, c', cur, hv, _⟩
 · simp only [Value.slice.injEq] at hv
   obtain ⟨rfl, hn0, rfl⟩ := hv
   subst hn0
   have hx : xs = [] := List.length_eq_zero_iff.1 (by simpa using hown.1)
   subst hx
   exact (sclone_nil w).mono fun e w' ⟨he, hw⟩ => ⟨none, 0, he, World.ownsRow_nil _ _ _ _, hw ▸ Below.refl _ _⟩
 · simp only [Value.slice.injEq, true_and] at hv
   obtain ⟨rfl, rfl⟩ := hv
   refine (sclone_some g n c xs w hn h1 hown).mono fun e w' ⟨v', he, ho, hb⟩ => ?_
   rcases ho.2 with ⟨hv, h0⟩ | ⟨g', c2, cur2, hv, _⟩
   · subst hv; subst h0
     exact ⟨none, 0, he, ho, hb⟩
   · subst hv
     exact ⟨_, _, he, ho, hb⟩
theorem strs_at {w : World} {base : Nat} {ao : Option Addr} {c : Nat} {l : List (List UInt8)} (h : w.ownsRow base 9 1 (.slice ao l.length c) l.length (strs l)) (i : Nat) (hi : i < l.length) : ∃ b, ao = some ⟨b, 0, none⟩ ∧ base ≤ b ∧ b < w.heap.size ∧ w.cell? ⟨b, i, none⟩ = some (.string (S l[i])) ∧ w.frozen? ⟨b, i, none⟩ = false ∧ (w.setCell ⟨b, i, none⟩ (.string (S l[i]))).heap[b]? = w.heap[b]? := by
 rcases h.2 with ⟨hv, h0⟩ | ⟨b, c', cur, hv, hb, hh, _, _, hsz, htk⟩
 · simp only [Value.slice.injEq] at hv
   omega
 · simp only [Value.slice.injEq] at hv
   have hc : cur[i]? = some (.string (S l[i])) := by
     have h1 : (strs l)[i]? = some (.string (S l[i])) := by simp [strs, hi]
     rw [← htk, List.getElem?_take_of_lt (by omega)] at h1
     simpa using h1
   refine ⟨b, hv.1, hb, lt_of_block hh, ?_, frozen_of_row w b i _ _ hh, ?_⟩
   · rw [cell_of_row w b i _ _ (0, 0) hh]; exact hc
   · rw [heap_setCell_same w b i _ _ _ hh, hh]
     congr 2
     apply Array.ext_getElem?
     intro j
     rw [Array.getElem?_setIfInBounds]
     split
     · rename_i e
       subst e
       split
       · exact hc.symm
       · rename_i h9
         have := (Array.getElem?_eq_some_iff.1 hc).1
         omega
     · rfl
section
variable {W : World} {Q : Nat → Prop} {L D : Nat} {g : PL} {d : PD} {w : World}
set_option maxHeartbeats 4000000 in
set_option maxRecDepth 100000 in
theorem records_any (h : Pair W Q L D g d w) (hbig : ∀ x ∈ g.recs, x.length ≤ 1000000) :
   Calls Tryz.prog 79 #[.pointer (some ⟨L, 0, none⟩)] w fun e w' => ∃ ao c, e = .returned (.slice ao g.recs.length c) ∧ w'.ownsRow w.heap.size 9 1 (.slice ao g.recs.length c) g.recs.length (strs g.recs) ∧ Below w.heap.size w w' := by
 obtain ⟨c0, _⟩ := h.cells
 obtain ⟨hF, hn1, ht, hu1, hr1⟩ := h.ok
 have G := hidm (lgiven_yes L w c0)
 obtain ⟨U, sl, hm, hlg, hu⟩ := h.ex
 have c5 : w.cell? ⟨L, 5, none⟩ = some sl := hlg.cellAt 5
 obtain ⟨so, sc, hsl⟩ : ∃ so sc, sl = .slice so g.recs.length sc := by
   rcases hlg.own.2 with ⟨hv, h0⟩ | ⟨b', c', cur, hv, _⟩
   · exact ⟨none, 0, by rw [hv, h0]⟩
   · exact ⟨_, _, hv⟩
 subst hsl
 obtain ⟨n, hn⟩ : ∃ n, n = g.recs.length := ⟨_, rfl⟩
 have hn2 : n ≤ 2000 := by omega
 have SC := hidm (show Calls Tryz.prog 118 #[.slice so n sc] w fun e w' => ∃ ao' c', e = .returned (.slice ao' n c') ∧ w'.ownsRow w.heap.size 9 1 (.slice ao' n c') n (strs g.recs) ∧ Below w.heap.size w w' from sclone_any so n sc (strs g.recs) w (by omega) (strs_one _) (by rw [hn]; exact hlg.own))
 rw [← hn] at c5 ⊢
 obtain ⟨l, hl⟩ : ∃ l, l = g.recs := ⟨_, rfl⟩
 rw [← hl] at SC hn hbig ⊢
 have HBIG := hidm hbig
 have HN := hidm hn
 clear h hm hlg hu hF hn1 ht hu1 hr1 hl hn hbig
 go_enter Tryz.func79, Tryz.ntmps79
 go_wp2_with fail
 refine G.out.mono ?_
 rintro e w1 ⟨rfl, rfl⟩
 go_wp2_with fail
 refine SC.out.mono ?_
 rintro e w1 ⟨ao, c, rfl, hown, hb⟩
 have HO := hidm hown
 have HB := hidm hb
 clear hown hb c5
 go_wp2_with fail
 go_loopw [16] (fun ii wr => ∃ i : Nat, ii = .int .i64 i ∧ i ≤ n ∧ Hid (wr.ownsRow w.heap.size 9 1 (.slice ao n c) n (strs l)) ∧ Hid (Below w.heap.size w wr)) (fun ii _ => (n - (intOf ii).toNat))
 case atStart => exact ⟨0, rfl, by omega, HO, HB⟩
 case round =>
   rename World => wr
   obtain ⟨i, rfl, hi, HO, HB⟩ := hrel
   rcases Nat.lt_or_ge i n with hlt | hge
   · have g1 : (i : Int) < (n : Int) := by omega
     have hil : i < l.length := by rw [← HN.out]; exact hlt
     have HO2 := HO.out
     rw [HN.out] at HO2
     obtain ⟨b, rfl, hbb, hbl, hcell, hz, hsame⟩ := strs_at HO2 i hil
     have CL := hidm (fun w => clone_any (S l[i]) w (by rw [S_size]; have := HBIG.out _ (List.getElem_mem hil); omega))
     obtain ⟨x, hx⟩ : ∃ x, x = S l[i] := ⟨_, rfl⟩
     rw [← hx] at CL hcell
     have HX := hidm hx
     clear HO2 hsame hx
     go_wp2_with fail
     refine (CL.out wr).mono ?_
     rintro e w2 ⟨rfl, hb2⟩
     have HO3 := hidm (Dsk.owns_later HO.out hb2)
     have HB3 := hidm (HB.out.trans (hb2.mono HB.out.size))
     have HBB := hidm hbb
     clear hb2 hcell hz
     have HO4 := HO3.out
     rw [HN.out] at HO4
     obtain ⟨b', hbe, _, _, hcell, hz, hsame⟩ := strs_at HO4 i hil
     simp only [Option.some.injEq, Addr.mk.injEq, and_true] at hbe
     subst hbe
     rw [← HX.out] at hcell hsame
     have HSM := hidm hsame
     clear HO4 hsame
     go_wp2_with fail
     go_roundw
     case rel => exact ⟨i + 1, by go_num, by omega, hidm (Dsk.ownsRow_of HO3.out (fun k hk => by
       have hk : some b = some k := hk
       rw [← Option.some.inj hk]; exact HSM.out)), hidm (HB3.out.setCell (p := ⟨b, i, none⟩) HBB.out _)⟩
     case measure => simp [intOf]; omega
   · obtain rfl : i = n := by omega
     have g1 : ¬ (i : Int) < (i : Int) := by omega
     go_wp2_with fail
     go_ret
     exact ⟨ao, c, rfl, HO.out, HB.out⟩
end
end Wal
end Go.Proofs.YtkgbemkcnahkoaaGreatDoor
