/- The program's heap over its pager: Put. Conditions: as each says. -/
import Derived.Test.YtmccnlffikegfaaGreatDoorZEqto
import Derived.Test.YtmccnlffikegfaaGreatDoorZEwto
import Derived.Test.YtmccnlffikegfaaGreatDoorZE0to
namespace Go.Proofs.YtmccnlffikegfaaGreatDoor
open Go.RowKit
namespace Hep
open Pgr
open Dsk (zeros pad pad_len KeepQ Only cell_later below_keeps owns_later)
open Crc (S S_of S_size S_append)
section
variable {W w w' : World} {Q Q' : Nat → Prop} {B P L D n N K : Nat} {u : Bool} {c c' : Nat} {V G G' : Pages}
set_option maxHeartbeats 4000000 in
set_option maxRecDepth 100000 in
theorem hput_nil (p : Option Addr) (s : ByteArray) (w : World) (h : NotHeap p w) : Calls Tryz.prog 9 #[.pointer p, .string s] w fun e w' => e = .returned (.tuple #[.int .i64 0, .int .i64 13]) ∧ w = w' := by
  have C := hidm (hgvn_no p w h)
  clear h
  go_enter Tryz.func9, Tryz.ntmps9
  go_wp2_with fail
  refine C.out.mono ?_
  rintro e w1 ⟨rfl, rfl⟩
  go_wp2_with fail
  go_ret2
  exact ⟨rfl, rfl⟩
set_option maxHeartbeats 4000000 in
set_option maxRecDepth 100000 in
theorem hput_big (h : HG W Q B P L D n N K u V c G w) (s : ByteArray) (hs : 100000 < s.size) : Calls Tryz.prog 9 #[.pointer (some ⟨B, 0, none⟩), .string s] w fun e w' => e = .returned (.tuple #[.int .i64 0, .int .i64 19]) ∧ w = w' := by
  have C := hidm (hgvn_yes B w h.c0)
  have g1 : (100000 : Int) < (s.size : Int) := by omega
  clear h hs
  go_enter Tryz.func9, Tryz.ntmps9
  go_wp2_with fail
  refine C.out.mono ?_
  rintro e w1 ⟨rfl, rfl⟩
  go_wp2_with fail
  go_ret2
  exact ⟨rfl, rfl⟩
set_option maxHeartbeats 4000000 in
set_option maxRecDepth 100000 in
theorem hput_full (h : HG W Q B P L D n N K u V c G w) (s : ByteArray) (hs : s.size ≤ 100000) (hf : freeN (G 0) N < need s.size) : Calls Tryz.prog 9 #[.pointer (some ⟨B, 0, none⟩), .string s] w fun e w' => e = .returned (.tuple #[.int .i64 0, .int .i64 3]) ∧ Below w.heap.size w w' := by
  have C := hidm (hgvn_yes B w h.c0)
  have C2 := hidm (hneed_any h s.size hs)
  have C3 := hidm h.pg.frees
  have c1 := h.c1
  obtain ⟨nd, hnd⟩ : ∃ x, x = need s.size := ⟨_, rfl⟩
  obtain ⟨fr, hfr⟩ : ∃ x, x = freeN (G 0) N := ⟨_, rfl⟩
  rw [← hnd] at C2 hf
  rw [← hfr] at C3 hf
  have g1 : ¬ (100000 : Int) < (s.size : Int) := by omega
  have g2 : (fr : Int) < (nd : Int) := by omega
  clear h hs hf hnd hfr
  go_enter Tryz.func9, Tryz.ntmps9
  go_wp2_with fail
  refine C.out.mono ?_
  rintro e w1 ⟨rfl, rfl⟩
  go_wp2_with fail
  refine C2.out.mono ?_
  rintro e w1 ⟨rfl, rfl⟩
  go_wp2_with fail
  refine C3.out.mono ?_
  rintro e w1 ⟨rfl, hb⟩
  have HB := hidm hb
  clear hb
  go_wp2_with fail
  go_ret2
  exact ⟨rfl, HB.out⟩
/-- A step of what is laid. -/
theorem lays_step {l : List Nat} {s : List UInt8} {G : Pages} {i : Nat} (h : i < l.length) : lays (l.drop i) (s.drop (125 * i)) G = lays (l.drop (i + 1)) (s.drop (125 * (i + 1))) (upG G l[i] (page ((l.drop (i + 1)).headD 0) ((s.drop (125 * i)).take 125))) := by
  rw [List.drop_eq_getElem_cons h]
  show lays (l.drop (i + 1)) ((s.drop (125 * i)).drop 125) _ = _
  rw [List.drop_drop, show 125 * i + 125 = 125 * (i + 1) by omega]
theorem next_at {l : List Nat} {i : Nat} (h : i < l.length) : (l ++ [0])[i + 1]? = some ((l.drop (i + 1)).headD 0) := by
  rcases Nat.lt_or_ge (i + 1) l.length with h1 | h1
  · rw [List.getElem?_append_left h1, List.getElem?_eq_getElem h1, List.drop_eq_getElem_cons h1]
    rfl
  · have e : i + 1 = l.length := by omega
    rw [List.getElem?_append_right h1, List.drop_of_length_le h1, e]
    simp
/-- What a Put comes to that finds room. -/
def PutP (W : World) (Q : Nat → Prop) (B P L D n N K : Nat) (u : Bool) (V : Pages) (c : Nat) (G : Pages) (s : List UInt8) (w : World) (e : Ending) (w' : World) : Prop :=
  ∃ l G1, e = .returned (.tuple #[.int .i64 ((l.headD 0 : Nat) : Int), .int .i64 0]) ∧ l.length = need s.length ∧ Takes N G l G1 ∧ HG W Q B P L D n N K u V (c + 3 * need s.length) (lays l s G1) w' ∧ KeepQ Q w w'
set_option maxHeartbeats 16000000 in
set_option maxRecDepth 100000 in
theorem hput_yes (h : HG W Q B P L D n N K u V c G w) (s : List UInt8) (hs : s.length ≤ 100000) (hf : need s.length ≤ freeN (G 0) N) : Calls Tryz.prog 9 #[.pointer (some ⟨B, 0, none⟩), .string (S s)] w fun e w' => PutP W Q B P L D n N K u V c G s w e w' := by
  have C := hidm (hgvn_yes B w h.c0)
  have hss : (S s).size = s.length := S_size s
  have C2 := hneed_any h s.length hs
  have C3 := h.pg.frees
  have c1 := h.c1
  have HH := hidm h
  have HL0 := hidm (h.len (k := 0) (by have := h.sz; omega))
  have HSZ := hidm h.sz
  have HS9 := hidm hs
  have HCP := hidm (fun (z : World) => parts_any s hs z)
  obtain ⟨nd, hnd⟩ : ∃ x, x = need s.length := ⟨_, rfl⟩
  obtain ⟨fr, hfr⟩ : ∃ x, x = freeN (G 0) N := ⟨_, rfl⟩
  rw [← hnd] at C2 hf
  rw [← hfr] at C3 hf
  have C2 := hidm C2
  have C3 := hidm C3
  have HND := hidm hnd
  have HF := hidm (show nd ≤ freeN (G 0) N from by rw [← hfr]; exact hf)
  have HN1 := hidm (show 1 ≤ nd ∧ nd ≤ 1024 from ⟨by rw [hnd]; exact need_pos _, by have h1 := freeN_le (G 0) N; have := h.sz; omega⟩)
  obtain ⟨T, hT⟩ : ∃ T, T = S s := ⟨_, rfl⟩
  rw [← hT] at hss HCP ⊢
  obtain ⟨sz, hsz⟩ : ∃ x, x = s.length := ⟨_, rfl⟩
  rw [← hsz] at hss C2
  have g1 : ¬ (100000 : Int) < (sz : Int) := by omega
  have g2 : ¬ (fr : Int) < (nd : Int) := by omega
  clear h hs hf hnd hfr hT hsz
  go_enter Tryz.func9, Tryz.ntmps9
  go_wp2_with fail
  refine C.out.mono ?_
  rintro e w1 ⟨rfl, rfl⟩
  go_wp2_with fail
  refine C2.out.mono ?_
  rintro e w1 ⟨rfl, rfl⟩
  go_wp2_with fail
  refine C3.out.mono ?_
  rintro e w1 ⟨rfl, hb1⟩
  have HG1 := hidm (HH.out.later hb1)
  have HK1 := hidm (HH.out.kept hb1)
  clear hb1 c1 C C2 C3
  go_wp2_with fail
  refine (htake_any HG1.out nd HF.out).mono ?_
  rintro e w2 ⟨v, l, G1, Q1, rfl, hQ1, hg2, hio, hl, ht, hk2, hnq⟩
  have HG2 := hidm hg2
  have HIO2 := hidm hio
  have HLL := hidm hl
  have HTT := hidm ht
  have HK2 := hidm (HK1.out.trans hk2)
  have HQ1 := hidm hQ1
  have HNQ := hidm hnq
  obtain ⟨vo, vc, hvv, _, _⟩ := hio.form
  rw [hl] at hvv
  subst hvv
  clear hg2 hio hl ht hk2 hQ1 hnq HG1 HK1
  have hb3 : Below w2.heap.size w2 (w2.alloc (.cells #[.int .i64 0] 3)) := (Below.refl _ _).alloc (Nat.le_refl _) _
  have HG3 := hidm (HG2.out.later hb3)
  have HIO3 := hidm (HIO2.out.keep (HG2.out.kept hb3))
  have HB3 := hidm hb3
  have HCQ := hidm (show (w2.alloc (.cells #[.int .i64 0] 3)).cell? ⟨w2.heap.size, 0, none⟩ = some (.int .i64 ((0 : Nat) : Int)) from by rw [cell_of_row _ _ 0 _ _ (0, 0) (heap_alloc_last w2 _)]; rfl)
  clear hb3
  go_wp2_with (at_builtin; refine wpList_ints rfl _ _ rfl rfl HIO3.out 0 w2.heap.size 1 rfl HCQ.out ?TA ?TB ?_)
  case TA => have := HLL.out; have := HN1.out; omega
  case TB => have := HG3.out.qlt B HG3.out.inq; omega
  intro v' w4 hown hgrow hobl
  have hg4 := HG3.out.grown HIO3.out hgrow
  have HK4 := hidm (show KeepQ Q w w4 from fun j hj => by
    have h1 := HK2.out j hj
    have h2 := HB3.out.block j (HG2.out.qlt j (HQ1.out j hj))
    have h3 := hgrow.block j (HG3.out.qlt j (HQ1.out j hj)) (fun e => HNQ.out j e.symm hj)
    exact h3.trans (h2.trans h1))
  obtain ⟨so, sc, hvv, _, _⟩ := hown.form
  rw [List.length_append, List.length_singleton, HLL.out] at hvv
  subst hvv
  obtain ⟨Q4, hQ4⟩ : ∃ Q4 : Nat → Prop, Q4 = fun k => Q1 k ∨ ((w2.alloc (.cells #[.int .i64 0] 3)).heap.size ≤ k ∧ k < w4.heap.size) := ⟨_, rfl⟩
  rw [← hQ4] at hg4
  have HIO4 := hidm (show IntsO (B + 1) Q4 (l ++ [0]) (.slice so (nd + 1) sc) w4 from by rw [hQ4]; simpa using hown)
  have HG4 := hidm hg4
  have HQ4 := hidm (show ∀ j, Q j → Q4 j from fun j hj => by rw [hQ4]; exact .inl (HQ1.out j hj))
  clear hg4 hown hgrow hobl hQ4
  go_wp2_with fail
  refine (HCP.out _).mono ?_
  rintro e w5 ⟨pv, b, rfl, hpo, hbw, hbl, hlie, hb5⟩
  rw [← HND.out] at hpo
  have HG5 := hidm (HG4.out.guard hb5)
  have HIO5 := hidm ((HIO4.out.keep (HG4.out.kept hb5)).mono (fun k hk => show Q4 k ∨ (w4.heap.size ≤ k ∧ k < w5.heap.size) from .inl hk))
  have HK5 := hidm (show KeepQ Q w w5 from HK4.out.trans (fun j hj => hb5.block j (HG4.out.qlt j (HQ4.out j hj))))
  have HLB := hidm hlie
  have HBQ := hidm (show Q4 b ∨ (w4.heap.size ≤ b ∧ b < w5.heap.size) from .inr ⟨hbw, hbl⟩)
  obtain ⟨g, pc, hpv⟩ : ∃ g pc, pv = .slice (some ⟨g, 0, none⟩) nd pc := by
    rcases hpo.2 with ⟨_, h0⟩ | ⟨g, cap, cur, hv, _⟩
    · have := HN1.out.1; omega
    · exact ⟨g, cap, hv⟩
  subst hpv
  have HPO := hidm (show ∀ i, i < nd → w5.cell? ⟨g, i, none⟩ = some (partV b s i) from fun i hi => by
    have h1 := hpo.cellAt i (by omega)
    rw [partVs_at b s hi] at h1
    exact h1)
  have HGQ := hidm (show Q4 g ∨ (w4.heap.size ≤ g ∧ g < w5.heap.size) from by
    have h1 := hpo.lt g rfl
    exact .inr ⟨by omega, h1.2⟩)
  obtain ⟨rg, rc, hre, _, HRQ, _⟩ := HIO5.out.at 0 (by rw [List.length_append]; simp)
  rw [List.length_append, List.length_singleton, HLL.out] at hre
  simp only [Value.slice.injEq] at hre
  obtain ⟨rfl, -, rfl⟩ := hre
  have HRC := hidm (show ∀ (i x : Nat), (l ++ [0])[i]? = some x → w5.cell? ⟨rg, i, none⟩ = some (.int .i64 (x : Int)) from fun i x hx => by
    obtain ⟨hi, hx2⟩ := List.getElem?_eq_some_iff.1 hx
    obtain ⟨g2, c2, he2, _, _, hc2⟩ := HIO5.out.at i hi
    simp only [Value.slice.injEq, Option.some.injEq, Addr.mk.injEq] at he2
    obtain ⟨⟨rfl, _⟩, _⟩ := he2
    rw [hc2, hx2])
  have HRQ := hidm HRQ
  have HTK := hidm (HTT.out.took HSZ.out.2 HL0.out)
  clear hpo hbw hbl hlie hb5
  go_wp2_with fail
  go_loopw [35] (fun ii wr => ∃ i : Nat, ii = .int .i64 (i : Int) ∧ i ≤ nd ∧ Hid (∃ Gi, HG W (fun k => Q4 k ∨ (w4.heap.size ≤ k ∧ k < w5.heap.size)) B P L D n N K u V (c + 2 * nd + i) Gi wr ∧ lays (l.drop i) (s.drop (125 * i)) Gi = lays l s G1 ∧ KeepQ (fun k => Q4 k ∨ (w4.heap.size ≤ k ∧ k < w5.heap.size)) w5 wr)) (fun ii _ => nd - (intOf ii).toNat)
  case atStart => exact ⟨0, rfl, by omega, hidm ⟨G1, HG5.out, by simp, fun _ _ => rfl⟩⟩
  case round =>
    rename World => wr
    obtain ⟨i, rfl, hi, HX⟩ := hrel
    obtain ⟨Gi, hgi, hla, hki⟩ := HX.out
    clear HX
    rcases Nat.lt_or_ge i nd with hlt | hge
    · have f1 : (i : Int) < (nd : Int) := by omega
      have hil : i < l.length := by rw [HLL.out]; exact hlt
      have q0 := (World.cell?_of_block (w := w5) (a := ⟨g, i, none⟩) (hki g HGQ.out)).trans (HPO.out i hlt)
      unfold partV at q0
      obtain ⟨m, hm⟩ : ∃ m, m = min 125 (s.length - 125 * i) := ⟨_, rfl⟩
      rw [← hm] at q0
      have hpl : ((s.drop (125 * i)).take 125).length = m := by rw [List.length_take, List.length_drop, hm]
      have r0 := (World.cell?_of_block (w := w5) (a := ⟨rg, i, none⟩) (hki rg HRQ.out)).trans (HRC.out i l[i] (by rw [List.getElem?_append_left hil, List.getElem?_eq_getElem hil]))
      have r1 := (World.cell?_of_block (w := w5) (a := ⟨rg, i + 1, none⟩) (hki rg HRQ.out)).trans (HRC.out (i + 1) _ (next_at hil))
      obtain ⟨a, ha⟩ : ∃ a, a = l[i] := ⟨_, rfl⟩
      obtain ⟨nx, hnx⟩ : ∃ x, x = (l.drop (i + 1)).headD 0 := ⟨_, rfl⟩
      obtain ⟨p, hp⟩ : ∃ p, p = (s.drop (125 * i)).take 125 := ⟨_, rfl⟩
      have hst := lays_step (s := s) (G := Gi) hil
      rw [← ha, ← hnx, ← hp] at hst
      rw [← hp] at hpl
      rw [← ha] at r0
      rw [← hnx] at r1
      have hwa := HTK.out.was a (by rw [ha]; exact List.getElem_mem hil)
      have hli : Lie b (125 * i) p wr := (show Lie b (125 * i) p w5 from fun j hj => by
        have hj2 : j < 125 ∧ 125 * i + j < s.length := by rw [hp, List.length_take, List.length_drop] at hj; omega
        have h1 := HLB.out (125 * i + j) hj2.2
        rw [Nat.zero_add] at h1
        rw [h1]
        subst hp
        simp).of (hki b HBQ.out)
      have hbd : Below wr.heap.size wr wr.drew := (Below.refl _ _).drew
      obtain ⟨wd, hwd⟩ : ∃ wd, wd = wr.drew := ⟨_, rfl⟩
      rw [← hwd] at hbd
      have HWD := hidm hwd
      have hgd := hgi.later hbd
      have CL := hlay_any hgd ⟨a, nx, p, b, 125 * i⟩ hwa.2.1 hwa.2.2 (hli.of (hbd.block b (hgi.qlt b HBQ.out))) (by show p.length ≤ 125; rw [hpl, hm]; omega) HBQ.out
      unfold Pm.agg at CL
      dsimp only at CL
      rw [hpl] at CL
      have CL := hidm CL
      have HKD := hidm (show KeepQ (fun k => Q4 k ∨ (w4.heap.size ≤ k ∧ k < w5.heap.size)) w5 wd from hki.trans (hgi.kept hbd))
      have h9 : wd.cell? ⟨rg, i, none⟩ = some (.int .i64 (a : Int)) ∧ wd.cell? ⟨rg, i + 1, none⟩ = some (.int .i64 (nx : Int)) := ⟨cell_later hbd r0, cell_later hbd r1⟩
      have HH9 := hidm h9
      have HSK := hidm (fun (z : World) (hk : KeepQ (fun k => Q4 k ∨ (w4.heap.size ≤ k ∧ k < w5.heap.size)) wd z) => show z.cell? ⟨rg, i, none⟩ = some (.int .i64 (a : Int)) ∧ z.cell? ⟨rg, i + 1, none⟩ = some (.int .i64 (nx : Int)) from
        ⟨(World.cell?_of_block (w := wd) (a := ⟨rg, i, none⟩) (hk rg HRQ.out)).trans HH9.out.1, (World.cell?_of_block (w := wd) (a := ⟨rg, i + 1, none⟩) (hk rg HRQ.out)).trans HH9.out.2⟩)
      have HLA := hidm (hst.symm.trans hla)
      obtain ⟨i2, hi2⟩ : ∃ i2, i2 = i + 1 := ⟨_, rfl⟩
      have e1 : (i : Int) + 1 = (i2 : Int) := by omega
      have e1w : IntKind.i64.wrap (i2 : Int) = (i2 : Int) := by have := HN1.out; simp only [IntKind.wrap_i64]; omega
      have e2 : (i2 : Int) < (nd : Int) + 1 := by omega
      have e3 : (i : Int) < (nd : Int) + 1 := by omega
      have e4 : i2 < nd + 1 := by omega
      have e5 : i < nd + 1 := by omega
      rw [← hi2] at r1 h9 HH9 HSK HLA
      have HI2 := hidm hi2
      have HIK := hidm (show i2 ≤ nd from by omega)
      clear hi2 hgi hla hki hpl hst ha hnx hp hwa hli hbd hwd hgd h9 r0 r1 hm hi
      go_upto_region 12 with fail
      refine wp_region_held_drew (S := fun z => z.cell? ⟨rg, i, none⟩ = some (.int .i64 (a : Int)) ∧ z.cell? ⟨rg, i2, none⟩ = some (.int .i64 (nx : Int))) (by kernel_rfl) (by rw [← HWD.out]; exact HH9.out) (fun hHeld => ?_)
      rw [← HWD.out] at hHeld ⊢
      refine Man.t1 0 hHeld ?_
      (try simp only [Act.put, Mqa, Mqb, Mqc])
      refine Man.t1 1 hHeld ?_
      (try simp only [Act.put, Mqa, Mqb, Mqc])
      refine Man.t1 2 hHeld ?_
      (try simp only [Act.put, Mqa, Mqb, Mqc])
      refine Man.t1 3 hHeld ?_
      (try simp only [Act.put, Mqa, Mqb, Mqc])
      refine Man.t1 4 hHeld ?_
      (try simp only [Act.put, Mqa, Mqb, Mqc])
      refine Man.t1 5 hHeld ?_
      (try simp only [Act.put, Mqa, Mqb, Mqc])
      refine Man.t1 6 hHeld ?_
      (try simp only [Act.put, Mqa, Mqb, Mqc])
      refine Man.t1 7 hHeld ?_
      (try simp only [Act.put, Mqa, Mqb, Mqc])
      refine Man.t1 8 hHeld ?_
      (try simp only [Act.put, Mqa, Mqb, Mqc])
      refine Man.t1 9 hHeld ?_
      (try simp only [Act.put, Mqa, Mqb, Mqc])
      refine Man.t1 10 hHeld ?_
      (try simp only [Act.put, Mqa, Mqb, Mqc])
      refine Man.t1 11 hHeld ?_
      (try simp only [Act.put, Mqa, Mqb, Mqc])
      refine Man.one (i := 12) rfl (by kernel_rfl) (fun K9 hK => ?_)
      go_simp
      with_reducible refine (CL.out).mono ?_
      rintro e zf ⟨rfl, hgf, hkf⟩
      have HGF := hidm hgf
      have HKF := hidm hkf
      have hsf := HSK.out _ hkf
      clear hgf hkf
      refine hK.out _ _ hsf (fun hNew => ?_)
      clear hK K9 hHeld
      have hHeld := hNew
      clear hNew
      clear hsf
      refine wpAnyH_done (by kernel_rfl) ?_ _
      have HFIN := hidm (show ∃ Gi, HG W (fun k => Q4 k ∨ (w4.heap.size ≤ k ∧ k < w5.heap.size)) B P L D n N K u V (c + 2 * nd + i2) Gi zf ∧ lays (l.drop i2) (s.drop (125 * i2)) Gi = lays l s G1 ∧ KeepQ (fun k => Q4 k ∨ (w4.heap.size ≤ k ∧ k < w5.heap.size)) w5 zf from
        ⟨_, by rw [HI2.out]; exact HGF.out, HLA.out, HKD.out.trans HKF.out⟩)
      go_wp2_with fail
      go_roundw
      case rel => exact ⟨i2, rfl, HIK.out, HFIN⟩
      case measure => have := HI2.out; simp [intOf]; omega
    · obtain rfl : i = nd := by omega
      have f1 : ¬ (i : Int) < (i : Int) := by omega
      rw [List.drop_of_length_le (by rw [HLL.out]; exact Nat.le_refl _)] at hla
      have hla2 : Gi = lays l s G1 := hla
      subst hla2
      have hl0 : 0 < l.length := by rw [HLL.out]; exact HN1.out.1
      have hhd : (l ++ [0])[0]? = some (l.headD 0) := by
        rw [List.getElem?_append_left hl0]
        cases l with
        | nil => cases hl0
        | cons a t => rfl
      have r0 := (World.cell?_of_block (w := w5) (a := ⟨rg, 0, none⟩) (hki rg HRQ.out)).trans (HRC.out 0 _ hhd)
      have e3 : (0 : Int) < (i : Int) + 1 := by omega
      have e4 : 0 < i + 1 := by omega
      have HFIN := hidm (show PutP W Q B P L D n N K u V c G s w (.returned (.tuple #[.int .i64 ((l.headD 0 : Nat) : Int), .int .i64 0])) wr from
        ⟨l, G1, rfl, by rw [HLL.out, HND.out], HTT.out, by
          have h1 := hgi.less (Q' := Q) (fun k hk => .inl (HQ4.out k hk)) HH.out.inq
          rw [← HND.out, show c + 3 * i = c + 2 * i + i by omega]
          exact h1, HK5.out.trans (fun j hj => hki j (.inl (HQ4.out j hj)))⟩)
      obtain ⟨h0, hh0⟩ : ∃ x, x = l.headD 0 := ⟨_, rfl⟩
      rw [← hh0] at r0 HFIN
      clear hgi hla hki hl0 hhd hi hh0
      go_wp2_with fail
      go_ret2
      exact HFIN.out
end
end Hep
end Go.Proofs.YtmccnlffikegfaaGreatDoor
/- The program's heap over its pager: SetRoot. Conditions: as each says. -/
namespace Go.Proofs.YtmccnlffikegfaaGreatDoor
open Go.RowKit
namespace Hep
open Pgr
open Dsk (zeros pad pad_len KeepQ Only cell_later below_keeps owns_later)
open Crc (S S_of S_size S_append)
theorem PmsAt.keepQ {base : Nat} {l : List Pm} {v : Value} {w w' : World} {Q : Nat → Prop} (h : PmsAt base l v w) (hq : ∀ g, base ≤ g → g < w.heap.size → Q g) (hk : KeepQ Q w w') : PmsAt base l v w' :=
  ⟨Dsk.ownsRow_of h.own (fun g hg => hk g (hq g (h.own.lt g hg).1 (h.own.lt g hg).2)), fun x hx => by
    have h1 := h.ins x hx
    have h2 := hk x.b (hq x.b h1.lo h1.lt)
    refine ⟨h1.lo, ?_, h1.lie.of h2, h1.few⟩
    rcases Nat.lt_or_ge x.b w'.heap.size with e | e
    · exact e
    · rw [Array.getElem?_eq_none e, Array.getElem?_eq_getElem h1.lt] at h2
      cases h2⟩
/-- The old root's record: there is none, or it is this. -/
def Old (N : Nat) (G : Pages) (x : Nat) (r : Rec) : Prop := (noId N G (x : Int) ∧ r = ([], [])) ∨ (2 ≤ x ∧ x < N ∧ inU G x = true ∧ walk N G N x = some r)
theorem lays_use {l : List Nat} {s : List UInt8} {G : Pages} (h0 : 0 ∉ l) (j : Nat) : inU (lays l s G) j = inU G j := by
  unfold inU; rw [lays_no h0]
section
variable {W w w' : World} {Q Q' : Nat → Prop} {B P L D n N K : Nat} {u : Bool} {c c' : Nat} {V G G' : Pages}
theorem hrow_old (h : HG W Q B P L D n N K u V c G w) (x : Nat) (r : Rec) (ho : Old N G x r) :
    Calls Tryz.prog 27 #[.pointer (some ⟨B, 0, none⟩), .int .i64 (x : Int)] w fun e w' => ∃ c : Int, RowP r c w e w' := by
  rcases ho with ⟨h1, rfl⟩ | ⟨h1, h2, h3, h4⟩
  · exact (hrow_no h x h1).mono fun e w' hh => ⟨_, hh⟩
  · exact (hrow_yes h x h1 h2 h3 r h4).mono fun e w' hh => ⟨_, hh⟩
set_option maxHeartbeats 4000000 in
set_option maxRecDepth 100000 in
theorem hset_nil (p : Option Addr) (s : ByteArray) (w : World) (h : NotHeap p w) : Calls Tryz.prog 11 #[.pointer p, .string s] w fun e w' => e = .returned (.int .i64 13) ∧ w = w' := by
  have C := hidm (hgvn_no p w h)
  clear h
  go_enter Tryz.func11, Tryz.ntmps11
  go_wp2_with fail
  refine C.out.mono ?_
  rintro e w1 ⟨rfl, rfl⟩
  go_wp2_with fail
  go_ret
  exact ⟨rfl, rfl⟩
set_option maxHeartbeats 8000000 in
set_option maxRecDepth 100000 in
theorem hset_bad (h : HG W Q B P L D n N K u V c G w) (hN : 2 ≤ N) (r : Rec) (ho : Old N G (rootOf (G 1)) r) (s : ByteArray) (cc : Int) (hcc : cc ≠ 0)
    (hp : ∀ z, Below w.heap.size w z → Calls Tryz.prog 9 #[.pointer (some ⟨B, 0, none⟩), .string s] z fun e w' => e = .returned (.tuple #[.int .i64 0, .int .i64 cc]) ∧ Below z.heap.size z w') :
    Calls Tryz.prog 11 #[.pointer (some ⟨B, 0, none⟩), .string s] w fun e w' => e = .returned (.int .i64 cc) ∧ Below w.heap.size w w' := by
  have C0 := hidm (hgvn_yes B w h.c0)
  have C1 := hidm (hroot_any h hN)
  have C2 := hidm (fun (z : World) (hz : Below w.heap.size w z) => hrow_old (h.later hz) _ r ho)
  have C3 := hidm hp
  obtain ⟨x, hx⟩ : ∃ x, x = rootOf (G 1) := ⟨_, rfl⟩
  rw [← hx] at C1 C2
  have g1 : (cc != 0) = true := by simp [bne, hcc]
  clear h ho hp hx hcc
  go_enter Tryz.func11, Tryz.ntmps11
  go_wp2_with fail
  refine C0.out.mono ?_
  rintro e w1 ⟨rfl, rfl⟩
  go_wp2_with fail
  refine C1.out.mono ?_
  rintro e w2 ⟨rfl, hb2⟩
  have HB2 := hidm hb2
  clear hb2
  go_wp2_with fail
  refine (C2.out w2 HB2.out).mono ?_
  rintro e w3 ⟨c3, v, l, rfl, hpm, _, _, hb3⟩
  obtain ⟨vo, vc, rfl, _, _⟩ := hpm.form
  have HB3 := hidm (HB2.out.trans (hb3.mono HB2.out.size))
  clear hb3 hpm
  go_wp2_with fail
  refine (C3.out w3 HB3.out).mono ?_
  rintro e w4 ⟨rfl, hb4⟩
  have HB4 := hidm (HB3.out.trans (hb4.mono HB3.out.size))
  clear hb4
  go_wp2_with fail
  go_ret
  exact ⟨rfl, HB4.out⟩
/-- What a SetRoot comes to that finds room. -/
def SetP (W : World) (Q : Nat → Prop) (B P L D n N K : Nat) (u : Bool) (V : Pages) (c : Nat) (G : Pages) (s : List UInt8) (r : Rec) (w : World) (e : Ending) (w' : World) : Prop :=
  ∃ l G1, e = .returned (.int .i64 0) ∧ l.length = need s.length ∧ Takes N G l G1 ∧ HG W Q B P L D n N K u V (c + 3 * need s.length + r.1.length + 1) (upG (gives r.1 (lays l s G1)) 1 (rootP (l.headD 0))) w' ∧ KeepQ Q w w'
set_option maxHeartbeats 8000000 in
set_option maxRecDepth 100000 in
theorem hset_yes (h : HG W Q B P L D n N K u V c G w) (hN : 2 ≤ N) (r : Rec) (ho : Old N G (rootOf (G 1)) r) (s : List UInt8) (hs : s.length ≤ 100000) (hf : need s.length ≤ freeN (G 0) N) :
    Calls Tryz.prog 11 #[.pointer (some ⟨B, 0, none⟩), .string (S s)] w fun e w' => SetP W Q B P L D n N K u V c G s r w e w' := by
  have C0 := hidm (hgvn_yes B w h.c0)
  have C1 := hidm (hroot_any h hN)
  have C2 := hidm (fun (z : World) (hz : Below w.heap.size w z) => hrow_old (h.later hz) _ r ho)
  have HH := hidm h
  have HL0 := hidm (h.len (k := 0) (by have := h.sz; omega))
  have HSZ := hidm h.sz
  have HSF := hidm (show s.length ≤ 100000 ∧ need s.length ≤ freeN (G 0) N from ⟨hs, hf⟩)
  have HRU := hidm (show r.1.Nodup ∧ ∀ a ∈ r.1, 2 ≤ a ∧ a < N ∧ inU G a = true from by
    rcases ho with ⟨_, e⟩ | ⟨_, _, _, h4⟩
    · rw [e]; exact ⟨List.nodup_nil, fun a ha => by cases ha⟩
    · exact ⟨walk_once h4, fun a ha => (walk_in h4 a ha).1⟩)
  obtain ⟨x, hx⟩ : ∃ x, x = rootOf (G 1) := ⟨_, rfl⟩
  rw [← hx] at C1 C2
  obtain ⟨T, hT⟩ : ∃ T, T = S s := ⟨_, rfl⟩
  have HT := hidm hT
  rw [← hT]
  clear h ho hx hs hf hT
  go_enter Tryz.func11, Tryz.ntmps11
  go_wp2_with fail
  refine C0.out.mono ?_
  rintro e w1 ⟨rfl, rfl⟩
  go_wp2_with fail
  refine C1.out.mono ?_
  rintro e w2 ⟨rfl, hb2⟩
  have HB2 := hidm hb2
  clear hb2
  go_wp2_with fail
  refine (C2.out w2 HB2.out).mono ?_
  rintro e w3 ⟨c3, v, l, rfl, hpm, hln, _, hb3⟩
  obtain ⟨vo, vc, rfl, _, _⟩ := hpm.form
  have HPM := hidm hpm
  have HLN := hidm hln
  have HB3 := hidm hb3
  have HG3 := hidm ((HH.out.later HB2.out).guard hb3)
  obtain ⟨ln, hlnn⟩ : ∃ x, x = l.length := ⟨_, rfl⟩
  have HLL := hidm hlnn
  rw [← hlnn]
  clear hb3 hpm hln hlnn
  have CP := hidm (hput_yes HG3.out s HSF.out.1 HSF.out.2)
  rw [← HT.out] at CP
  go_wp2_with fail
  refine CP.out.mono ?_
  rintro e w4 ⟨l2, G1, rfl, hl2, ht2, hg4, hk4⟩
  have htk := ht2.took HSZ.out.2 HL0.out
  have h0l : 0 ∉ l2 := fun e => (htk.was 0 e).2.1 rfl
  have hpm4 := HPM.out.keepQ (Q := fun k => Q k ∨ (w2.heap.size ≤ k ∧ k < w3.heap.size)) (fun g h1 h2 => .inr ⟨h1, h2⟩) hk4
  have CF := hfree_any hg4 w2.heap.size l _ hpm4 (fun g hgo => .inr (HPM.out.own.lt g hgo)) (by rw [HLN.out]; exact HRU.out.1) (by
    rw [HLN.out]
    intro a ha
    obtain ⟨a1, a2, a3⟩ := HRU.out.2 a ha
    exact ⟨a1, a2, by rw [lays_use h0l, htk.use, a3]; rfl⟩)
  rw [HLN.out, show l.length = r.1.length by rw [← HLN.out, List.length_map]] at CF
  rw [show r.1.length = ln by rw [HLL.out, ← HLN.out, List.length_map]] at CF
  have CF := hidm CF
  have HRL := hidm (show ln = r.1.length from by rw [HLL.out, ← HLN.out, List.length_map])
  have HL2 := hidm hl2
  have HT2 := hidm ht2
  have HK4 := hidm hk4
  obtain ⟨hd, hhd⟩ : ∃ x, x = l2.headD 0 := ⟨_, rfl⟩
  rw [← hhd]
  have HHD := hidm hhd
  clear hg4 hk4 hl2 ht2 htk h0l hpm4 hhd CP
  go_wp2_with fail
  refine CF.out.mono ?_
  rintro e w5 ⟨rfl, hg5, hk5⟩
  have HG5 := hidm hg5
  have HK5 := hidm hk5
  clear hg5 hk5
  go_wp2_with fail
  refine (hsetroot_any HG5.out hN hd).mono ?_
  rintro e w6 ⟨rfl, hg6, hk6⟩
  have HFIN := hidm (show SetP W Q B P L D n N K u V c G s r w (.returned (.int .i64 0)) w6 from
    ⟨l2, G1, rfl, HL2.out, HT2.out, by
      have h1 := hg6.less (Q' := Q) (fun k hk => .inl hk) HH.out.inq
      rw [HHD.out, HRL.out] at h1
      exact h1, fun j hj => (hk6 j (.inl hj)).trans ((HK5.out j (.inl hj)).trans ((HK4.out j (.inl hj)).trans ((HB3.out.block j (Nat.lt_of_lt_of_le (HH.out.qlt j hj) HB2.out.size)).trans (HB2.out.block j (HH.out.qlt j hj)))))⟩)
  clear hg6 hk6
  go_wp2_with fail
  go_ret
  exact HFIN.out
end
end Hep
end Go.Proofs.YtmccnlffikegfaaGreatDoor
/- The program's heap over its pager: Open. Conditions: as each says. -/
namespace Go.Proofs.YtmccnlffikegfaaGreatDoor
open Go.RowKit
namespace Hep
open Pgr
open Dsk (zeros pad pad_len KeepQ Only cell_later below_keeps owns_later)
open Crc (S S_of S_size S_append)
theorem first_one {N k : Nat} {G : Pages} (h : Takes N G [k] (takeG G k)) (hu : inU G 1 = false) : k = 1 := by
  obtain ⟨h1, h2, h3, h4, _⟩ := h
  rcases Nat.lt_trichotomy k 1 with c | c | c
  · omega
  · exact c
  · have := h4 1 c; rw [hu] at this; cases this
theorem free_some : ∀ {n : Nat} {m : List UInt8} {k : Nat}, k < n → useB m k = false → 0 < freeN m n
  | 0, _, _, h, _ => absurd h (Nat.not_lt_zero _)
  | n + 1, m, k, h, hu => by
    show 0 < freeN m n + (if useB m n then 0 else 1)
    by_cases e : k = n
    · subst e; rw [hu]; simp
    · have := free_some (n := n) (m := m) (k := k) (by omega) hu
      omega
theorem root_begins {t : List UInt8} (h : byteAt t 0 = 82) : Lib.hasPrefix t [82] = true := by
  cases t with
  | nil => cases h
  | cons a t => have e : a = 82 := h; rw [e]; rfl
section
variable {W w w' : World} {Q Q' : Nat → Prop} {B P L D n N K : Nat} {u : Bool} {c c' : Nat} {V G G' : Pages}
set_option maxHeartbeats 4000000 in
set_option maxRecDepth 100000 in
theorem hopen_nil (p : Option Addr) (w : World) (h : NotPager p w) : Calls Tryz.prog 19 #[.pointer p] w fun e w' => e = .returned (.tuple #[.pointer none, .int .i64 1]) ∧ w = w' := by
  have C := hidm (plen_no p w h)
  clear h
  go_enter Tryz.func19, Tryz.ntmps19
  go_wp2_with fail
  refine C.out.mono ?_
  rintro e w1 ⟨rfl, rfl⟩
  go_wp2_with fail
  go_ret2
  exact ⟨rfl, rfl⟩
/-- What an Open comes to. -/
def OpenP (W : World) (Q : Nat → Prop) (P L D n N K : Nat) (u : Bool) (V : Pages) (c : Nat) (G : Pages) (w : World) (e : Ending) (w' : World) : Prop :=
  ∃ B Q', e = .returned (.tuple #[.pointer (some ⟨B, 0, none⟩), .int .i64 0]) ∧ (∀ j, Q j → Q' j) ∧ HG W Q' B P L D n N K u V c G w' ∧ KeepQ Q w w' ∧ w.heap.size ≤ B
set_option maxHeartbeats 8000000 in
set_option maxRecDepth 100000 in
theorem hopen_new (h : PvG W Q P L D n N K u V c G w) (hN : 2 ≤ N) (hu : inU G 1 = false) :
    Calls Tryz.prog 19 #[.pointer (some ⟨P, 0, none⟩)] w fun e w' => OpenP W Q P L D n N K u V (c + 3) (upG (takeG G 1) 1 (rootP 0)) w e w' := by
  have C1 := hidm h.plen
  have g1 : ¬ (N : Int) ≤ 1 := by omega
  have HH := hidm h
  have HU := hidm hu
  clear h hu
  go_enter Tryz.func19, Tryz.ntmps19
  go_wp2_with fail
  refine C1.out.mono ?_
  rintro e w1 ⟨rfl, rfl⟩
  go_upto_region 5 with fail
  obtain ⟨w2, hw2⟩ : ∃ w2, w2 = w.alloc (.cells #[.pointer (some ⟨w.heap.size, 0, none⟩), .pointer (some ⟨P, 0, none⟩)] 56) := ⟨_, rfl⟩
  obtain ⟨B, hB⟩ : ∃ B, B = w.heap.size := ⟨_, rfl⟩
  have hb2 : Below w.heap.size w w2 := by rw [hw2]; exact (Below.refl _ _).alloc (Nat.le_refl _) _
  have HG2 := hidm (show HG W (fun k => Q k ∨ (w.heap.size ≤ k ∧ k < w2.heap.size)) B P L D n N K u V c G w2 from
    ⟨HH.out.guard hb2, .inr ⟨by omega, by rw [hw2, hB]; simp⟩, by rw [hB]; exact HH.out.bel.size, by rw [hw2, hB]; exact heap_alloc_last w _⟩)
  have HB2 := hidm hb2
  have HBB := hidm (show w.heap.size ≤ B from by omega)
  rw [← hw2, ← hB]
  clear hw2 hB hb2
  have CI := HG2.out.pg.isfree 1 (by omega)
  rw [HU.out] at CI
  have CI := hidm (show Calls Tryz.prog 40 #[.pointer (some ⟨P, 0, none⟩), .int .i64 1] w2 fun e w' => e = .returned (.bool true) ∧ Below w2.heap.size w2 w' from CI)
  go_wp2_with fail
  refine CI.out.mono ?_
  rintro e w3 ⟨rfl, hb3⟩
  have HG3 := hidm (HG2.out.later hb3)
  have HK3 := hidm (show KeepQ Q w w3 from fun j hj => (HG2.out.kept hb3 j (.inl hj)).trans (HB2.out.block j (HH.out.qlt j hj)))
  clear hb3 CI
  go_wp2_with fail
  refine (HG3.out.pg.alloc_in (free_some (k := 1) (by omega) HU.out)).mono ?_
  rintro e w4 ⟨k, hk, rfl, hp4, hk4⟩
  have hk1 := first_one hk HU.out
  subst hk1
  have HG4 := hidm (HG3.out.turn hp4 hk4)
  have HK4 := hidm (HK3.out.trans (fun j hj => hk4 j (.inl hj)))
  clear hp4 hk4 hk
  go_wp2_with fail
  refine (hsetroot_any HG4.out hN 0).mono ?_
  rintro e w5 ⟨rfl, hg5, hk5⟩
  have HG5 := hidm hg5
  have HK5 := hidm (show KeepQ Q w w5 from HK4.out.trans (fun j hj => hk5 j (.inl hj)))
  clear hg5 hk5
  have CR := HG5.out.pg.read 1 (by omega)
  rw [upG_at] at CR
  obtain ⟨T, hT⟩ : ∃ T, T = S (rootP 0) := ⟨_, rfl⟩
  rw [← hT] at CR
  have CR := hidm (show ∀ z, z = w5 → Calls Tryz.prog 42 #[.pointer (some ⟨P, 0, none⟩), .int .i64 1] z fun e w' => e = .returned (.tuple #[.string T, .int .i64 0]) ∧ Below z.heap.size z w' from fun z hz => by rw [hz]; exact CR)
  have HPX := hidm (fun (z : World) => show Calls Tryz.prog 43 #[.string T, .string ⟨#[82]⟩] z fun e w' => e = .returned (.bool true) ∧ w' = z from by
    have h1 := Tryz.strings_HasPrefix T ⟨#[82]⟩ z
    rw [hT, show Lib.hasPrefix (S (rootP 0)).data.toList (⟨#[82]⟩ : ByteArray).data.toList = true from root_begins root_mark] at h1
    rw [hT]; exact h1)
  clear hT
  go_wp2_with fail
  refine (CR.out _ rfl).mono ?_
  rintro e w7 ⟨rfl, hb7⟩
  have HG7 := hidm (HG5.out.later hb7)
  have HK7 := hidm (show KeepQ Q w w7 from HK5.out.trans (fun j hj => HG5.out.kept hb7 j (.inl hj)))
  clear hb7
  go_wp2_with fail
  refine (HPX.out w7).mono ?_
  rintro e w8 ⟨rfl, hw8⟩
  cases hw8
  go_wp2_with fail
  go_ret2
  exact ⟨B, _, rfl, fun j hj => .inl hj, HG7.out, HK7.out, HBB.out⟩
set_option maxHeartbeats 8000000 in
set_option maxRecDepth 100000 in
theorem hopen_old (h : PvG W Q P L D n N K u V c G w) (hN : 2 ≤ N) (hu : inU G 1 = true) (hm : byteAt (G 1) 0 = 82) :
    Calls Tryz.prog 19 #[.pointer (some ⟨P, 0, none⟩)] w fun e w' => OpenP W Q P L D n N K u V c G w e w' := by
  have C1 := hidm h.plen
  have g1 : ¬ (N : Int) ≤ 1 := by omega
  have HH := hidm h
  have HU := hidm hu
  have HM := hidm hm
  clear h hm hu
  go_enter Tryz.func19, Tryz.ntmps19
  go_wp2_with fail
  refine C1.out.mono ?_
  rintro e w1 ⟨rfl, rfl⟩
  go_upto_region 5 with fail
  obtain ⟨w2, hw2⟩ : ∃ w2, w2 = w.alloc (.cells #[.pointer (some ⟨w.heap.size, 0, none⟩), .pointer (some ⟨P, 0, none⟩)] 56) := ⟨_, rfl⟩
  obtain ⟨B, hB⟩ : ∃ B, B = w.heap.size := ⟨_, rfl⟩
  have hb2 : Below w.heap.size w w2 := by rw [hw2]; exact (Below.refl _ _).alloc (Nat.le_refl _) _
  have HG2 := hidm (show HG W (fun k => Q k ∨ (w.heap.size ≤ k ∧ k < w2.heap.size)) B P L D n N K u V c G w2 from
    ⟨HH.out.guard hb2, .inr ⟨by omega, by rw [hw2, hB]; simp⟩, by rw [hB]; exact HH.out.bel.size, by rw [hw2, hB]; exact heap_alloc_last w _⟩)
  have HB2 := hidm hb2
  have HBB := hidm (show w.heap.size ≤ B from by omega)
  rw [← hw2, ← hB]
  clear hw2 hB hb2
  have CI := HG2.out.pg.isfree 1 (by omega)
  rw [HU.out] at CI
  have CI := hidm (show Calls Tryz.prog 40 #[.pointer (some ⟨P, 0, none⟩), .int .i64 1] w2 fun e w' => e = .returned (.bool false) ∧ Below w2.heap.size w2 w' from CI)
  go_wp2_with fail
  refine CI.out.mono ?_
  rintro e w3 ⟨rfl, hb3⟩
  have HG3 := hidm (HG2.out.later hb3)
  have HK3 := hidm (show KeepQ Q w w3 from fun j hj => (HG2.out.kept hb3 j (.inl hj)).trans (HB2.out.block j (HH.out.qlt j hj)))
  clear hb3 CI
  have CR := HG3.out.pg.read 1 (by omega)
  obtain ⟨T, hT⟩ : ∃ T, T = S (G 1) := ⟨_, rfl⟩
  rw [← hT] at CR
  have CR := hidm (show ∀ z, z = w3 → Calls Tryz.prog 42 #[.pointer (some ⟨P, 0, none⟩), .int .i64 1] z fun e w' => e = .returned (.tuple #[.string T, .int .i64 0]) ∧ Below z.heap.size z w' from fun z hz => by rw [hz]; exact CR)
  have HPX := hidm (fun (z : World) => show Calls Tryz.prog 43 #[.string T, .string ⟨#[82]⟩] z fun e w' => e = .returned (.bool true) ∧ w' = z from by
    have h1 := Tryz.strings_HasPrefix T ⟨#[82]⟩ z
    rw [hT, show Lib.hasPrefix (S (G 1)).data.toList (⟨#[82]⟩ : ByteArray).data.toList = true from root_begins HM.out] at h1
    rw [hT]; exact h1)
  clear hT
  go_wp2_with fail
  refine (CR.out _ rfl).mono ?_
  rintro e w7 ⟨rfl, hb7⟩
  have HG7 := hidm (HG3.out.later hb7)
  have HK7 := hidm (show KeepQ Q w w7 from HK3.out.trans (fun j hj => HG3.out.kept hb7 j (.inl hj)))
  clear hb7
  go_wp2_with fail
  refine (HPX.out w7).mono ?_
  rintro e w8 ⟨rfl, hw8⟩
  cases hw8
  go_wp2_with fail
  go_ret2
  exact ⟨B, _, rfl, fun j hj => .inl hj, HG7.out, HK7.out, HBB.out⟩
end
end Hep
end Go.Proofs.YtmccnlffikegfaaGreatDoor
