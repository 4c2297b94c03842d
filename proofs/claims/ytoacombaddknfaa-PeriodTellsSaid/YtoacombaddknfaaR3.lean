/- Pieces told anew: told, with whole, Drop's question and without's. Condition: no more than a million values a row, a thousand pieces. -/
import Derived.Test.YtoacombaddknfaaR1
import Derived.Test.YtoacombaddknfaaR2
import Derived.Test.YtoacombaddknfaaMan
namespace Go.Proofs.Ytoacombaddknfaa
open Go.RowKit
namespace Prd
open Spn (Sp hide At below_alloc Right)
open Cod (V RowAt S)
theorem oper_if {c : Prop} [Decidable c] {p q : Prop} (hc : c) (h : p) : if c then p else q := by rw [if_pos hc]; exact h
theorem RowAt.kept {r : List V} {ro : Option Addr} {rc : Nat} {w w' : World} (h : RowAt r (.slice ro r.length rc) w) (hs : w.heap.size ≤ w'.heap.size) (hk : ∀ ad, ro = some ad → w'.heap[ad.block]? = w.heap[ad.block]?) : RowAt r (.slice ro r.length rc) w' := by
  obtain ⟨ao, cap, he, h2⟩ := h
  simp only [Value.slice.injEq, true_and] at he
  obtain ⟨rfl, rfl⟩ := he
  refine ⟨ro, rc, rfl, fun hne => ?_⟩
  obtain ⟨b, off, h3, h4, h5⟩ := h2 hne
  exact ⟨b, off, h3, Nat.lt_of_lt_of_le h4 hs, fun j hj => by rw [World.cell?_of_block (a := ⟨b, off + j, none⟩) (hk ⟨b, off, none⟩ h3)]; exact h5 j hj⟩
/-- Pieces of the call's own: the row of them, and their rows, in blocks of their own. -/
structure Owns (base : Nat) (m : List Pm) (v : Value) (w : World) : Prop where
  o : Row3 56 base m v w
  r : Rows3 m w
  a : ∀ x, x ∈ m → ∀ ad, x.ro = some ad → ad.block < w.heap.size ∧ v.ownBlock ≠ some ad.block
  b : ∀ x, x ∈ m → ∀ ad, x.ro = some ad → base ≤ ad.block
section
variable {base n : Nat} {m : List Pm} {v u : Value} {w w' : World}
theorem Owns.nil (base : Nat) (w : World) : Owns base [] (.slice none 0 0) w := ⟨Row3.nil _ _ _, Rows3.nil _, (fun x hx => by cases hx), fun x hx => by cases hx⟩
theorem Owns.later (h : Owns base m v w) (hb : Below n w w') (hn : w.heap.size ≤ n) : Owns base m v w' :=
  ⟨h.o.later hb hn, h.r.later (hb.mono hn), fun x hx ad e => ⟨Nat.lt_of_lt_of_le (h.a x hx ad e).1 hb.size, (h.a x hx ad e).2⟩, h.b⟩
theorem Owns.mono {base' : Nat} (h : Owns base m v w) (hb : base' ≤ base) : Owns base' m v w := ⟨h.o.mono hb, h.r, h.a, fun x hx ad e => Nat.le_trans hb (h.b x hx ad e)⟩
theorem Owns.app (h : Owns base m v w) {x : Pm} (hx : RowAt x.r x.sl w) (ha : ∀ ad, x.ro = some ad → ad.block < w.heap.size ∧ v.ownBlock ≠ some ad.block) (hba : ∀ ad, x.ro = some ad → base ≤ ad.block)
    (hu : Row3 56 base (m ++ [x]) u w') (hg : w.grownBy w' v.ownBlock) (hob : u.ownBlock = v.ownBlock ∨ u.ownBlock = some w.heap.size) : Owns base (m ++ [x]) u w' := by
  have key : ∀ y, y ∈ m ++ [x] → RowAt y.r y.sl w ∧ ∀ ad, y.ro = some ad → ad.block < w.heap.size ∧ v.ownBlock ≠ some ad.block := fun y hy => by
    rcases List.mem_append.1 hy with hy | hy
    · exact ⟨h.r y hy, h.a y hy⟩
    · rw [List.mem_singleton.1 hy]; exact ⟨hx, ha⟩
  refine ⟨hu, fun y hy => ?_, fun y hy ad e => ?_, fun y hy => ?_⟩
  · obtain ⟨h1, h2⟩ := key y hy
    exact RowAt.kept h1 hg.size (fun ad e => hg.block _ (h2 ad e).1 (fun e9 => (h2 ad e).2 e9.symm))
  · obtain ⟨_, h2⟩ := key y hy
    obtain ⟨h3, h4⟩ := h2 ad e
    refine ⟨Nat.lt_of_lt_of_le h3 hg.size, fun e9 => ?_⟩
    rcases hob with h9 | h9
    · rw [h9] at e9; exact h4 e9
    · rw [h9] at e9
      have := Option.some.inj e9
      omega
  · rcases List.mem_append.1 hy with hy | hy
    · exact h.b y hy
    · rw [List.mem_singleton.1 hy]; exact hba
end
/-- What is told of pieces: for each the spans that f answers. -/
def toldP (l : List Pm) (f : Pm → List Sp) : List (Sp × List V) := l.flatMap fun x => (f x).map fun c => (c, x.r)
theorem toldP_take {l : List Pm} {i : Nat} (hi : i < l.length) (f : Pm → List Sp) : toldP (l.take (i + 1)) f = toldP (l.take i) f ++ (f l[i]).map fun c => (c, (l[i]).r) := by
  unfold toldP
  rw [List.take_succ_eq_append_getElem hi, List.flatMap_append]; simp
theorem toldP_len {l : List Pm} {f : Pm → List Sp} (hf : ∀ x, x ∈ l → (f x).length ≤ 2) : (toldP l f).length ≤ 2 * l.length := by
  induction l with
  | nil => simp [toldP]
  | cons x l ih =>
    have h1 := ih (fun y hy => hf y (by simp [hy]))
    have h2 := hf x (by simp)
    unfold toldP at h1 ⊢
    rw [List.flatMap_cons, List.length_append, List.length_map, List.length_cons]
    omega
theorem srow_one {base : Nat} (w : World) (a b : Int) (hb : base ≤ w.heap.size) {k : Nat} (hk : k = w.heap.size) : Spn.Row base [(a, b)] (.slice (some ⟨k, 0, none⟩) 1 1) (w.alloc (.cells #[.int .i64 a, .int .i64 b] 24)) := by
  subst hk
  exact World.ownsRow_lit w #[.int .i64 a, .int .i64 b] 1 hb (by unfold maxLen; omega) rfl
theorem wholer_any (x : Pm) (w : World) :
    Calls Try.prog 39 #[.agg #[.int .i64 x.s.1, .int .i64 x.s.2, .slice x.ro x.r.length x.rc]] w fun e w' => ∃ v, e = .returned v ∧ Spn.Row w.heap.size [x.s] v w' ∧ Below w.heap.size w w' := by
  have h := srow_one (base := w.heap.size) (w.alloc (.cells #[.int .i64 x.s.1, .int .i64 x.s.2, .slice x.ro x.r.length x.rc] 56)) x.s.1 x.s.2 (by simp) rfl
  rw [show (w.alloc (.cells #[.int .i64 x.s.1, .int .i64 x.s.2, .slice x.ro x.r.length x.rc] 56)).heap.size = w.heap.size + 1 from by simp] at h
  have HO := hide h
  clear h
  go_enter Try.func39, Try.ntmps39
  go_wp2_with fail
  go_ret
  exact ⟨.slice (some ⟨w.heap.size + 1, 0, none⟩) 1 1, rfl, HO.out, (below_alloc _ _).trans ((below_alloc _ _).mono (by simp))⟩
set_option maxHeartbeats 8000000 in
set_option maxRecDepth 100000 in
theorem told_whole {l : List Pm} {sl : Value} {w : World} (f : Pm → List Sp) (h : PcsAt l sl w) (hr : Rows3 l w) (hs : Small l) (hf : ∀ x, x ∈ l → (f x).length ≤ 2)
    (hK : ∀ x, x ∈ l → ∀ u : World, Below w.heap.size w u → Calls Try.prog 39 #[.agg #[.int .i64 x.s.1, .int .i64 x.s.2, .slice x.ro x.r.length x.rc]] u fun e u' => ∃ v, e = .returned v ∧ Spn.Row u.heap.size (f x) v u' ∧ Below u.heap.size u u') :
    Calls Try.prog 38 #[sl, .func (.func 39) #[] #[]] w fun e w' => ∃ (m : List Pm) (v : Value), e = .returned v ∧ Owns w.heap.size m v w' ∧ pcs m = toldP l f ∧ Below w.heap.size w w' := by
  obtain ⟨so, sc, rfl, _, _⟩ := h.form
  have HA := hide h
  have HR := hide hr
  have HS := hide hs
  have HF := hide hf
  have HK := hide hK
  obtain ⟨n, hn⟩ : ∃ n, n = l.length := ⟨_, rfl⟩
  have hl : n ≤ 1000 := by rw [hn]; exact hs.n
  rw [← hn]
  have HN := hide hn
  clear h hn hr hs hf hK
  go_enter Try.func38, Try.ntmps38
  go_wp2_with fail
  go_loopw [5, 12] (fun ov ii wr => ∃ (i : Nat) (m : List Pm), ii = .int .i64 i ∧ i ≤ n ∧ Hid (Owns w.heap.size m ov wr) ∧ Hid (Below w.heap.size w wr) ∧ Hid (pcs m = toldP (l.take i) f)) (fun _ ii _ => (n - (intOf ii).toNat))
  case atStart => exact ⟨0, [], rfl, by omega, hide (Owns.nil _ _), hide (Below.refl _ _), hide rfl⟩
  case round =>
    rename World => wr
    obtain ⟨i, m, rfl, hi, HO, HB, HP⟩ := hrel
    rcases Nat.lt_or_ge i n with hlt | hge
    · have g1 : (i : Int) < (n : Int) := by omega
      have hil : i < l.length := by rw [← HN.out]; exact hlt
      obtain ⟨b0, off, cap, he, hbw, k0, k1, k2⟩ := (HA.out.later HB.out (Nat.le_refl _)).at i hil
      rw [← HN.out] at he
      simp only [Value.slice.injEq] at he
      obtain ⟨rfl, _, rfl⟩ := he
      have HTK := hide (toldP_take hil f)
      have HML := hide (show m.length ≤ 2000 from by
        have h1 := congrArg List.length HP.out
        rw [pcs_len] at h1
        have h2 := toldP_len (l := l.take i) (f := f) (fun y hy => HF.out y (List.mem_of_mem_take hy))
        rw [List.length_take] at h2
        omega)
      have hmem := List.getElem_mem hil
      obtain ⟨x, hx⟩ : ∃ x, x = l[i] := ⟨_, rfl⟩
      rw [← hx] at k0 k1 k2 hmem HTK
      have HRX := hide (show ∀ u : World, Below w.heap.size w u → RowAt x.r (.slice x.ro x.r.length x.rc) u from fun u hu => (HR.out.later hu) _ hmem)
      have HXL := hide (HS.out.r _ hmem)
      have HXS := hide (show ∀ v, v ∈ x.r → v.s.length ≤ 281474976710656 from fun v hv => by have := (HS.out.i _ hmem v hv).s; omega)
      have HKX := hide (HK.out _ hmem)
      obtain ⟨cs, hcs⟩ : ∃ cs, cs = f x := ⟨_, rfl⟩
      have hcl : cs.length ≤ 2 := by rw [hcs]; exact HF.out _ hmem
      rw [← hcs] at HKX HTK
      clear hx hbw hmem hcs
      obtain ⟨k9, hk9⟩ : ∃ k9, k9 = cs.length := ⟨_, rfl⟩
      rw [← hk9] at hcl
      have HK9 := hide hk9
      clear hk9
      have HBA := hide (HB.out.trans ((below_alloc wr (.cells #[.int .i64 x.s.1, .int .i64 x.s.2, .slice x.ro x.r.length x.rc] 56)).mono HB.out.size))
      have HXA := hide (Bx3.new wr x 56)
      have HOA := hide (HO.out.later (below_alloc wr (.cells #[.int .i64 x.s.1, .int .i64 x.s.2, .slice x.ro x.r.length x.rc] 56)) (Nat.le_refl _))
      have HNE := hide (show ∀ g, u5.ownBlock = some g → g < wr.heap.size from fun g hg => (HO.out.o.lt g hg).2)
      have hltA : wr.heap.size < (wr.alloc (.cells #[.int .i64 x.s.1, .int .i64 x.s.2, .slice x.ro x.r.length x.rc] 56)).heap.size := by simp
      have HLTA := hide hltA
      clear hltA
      go_wp2_with (go_at_call 39; refine (HKX.out _ HBA.out).mono ?_; rintro e w1 ⟨cv, rfl, hrow, hb1⟩; obtain ⟨co, cc, rfl, _, _⟩ := hrow.form; rw [← HK9.out] at hrow ⊢)
      have HX1 := hide (HXA.out.later hb1 HLTA.out)
      have HB1 := hide (HBA.out.trans (hb1.mono HBA.out.size))
      have HO1 := hide (HOA.out.later hb1 (Nat.le_refl _))
      have HAP := hide (show ∀ g, u5.ownBlock = some g → (Value.slice co k9 cc).ownBlock ≠ some g from fun g hg e => by
        have h1 := HNE.out g hg
        have h2 := (hrow.lt g e).1
        have := HLTA.out
        omega)
      have HROW := hide (hrow.mono (base' := w.heap.size) HBA.out.size)
      clear hrow hb1 HXA HBA HOA
      obtain ⟨kp, hkp⟩ : ∃ kp, kp = wr.heap.size := ⟨_, rfl⟩
      rw [← hkp] at HX1 HNE ⊢
      have HNP := hide (show u5.ownBlock ≠ some kp from fun e => by have := HNE.out kp e; omega)
      clear hkp HNE HLTA
      go_loopw [5, 20] (fun ov kk wk => ∃ (k : Nat) (mm : List Pm), kk = .int .i64 k ∧ k ≤ k9 ∧ Hid (Owns w.heap.size mm ov wk) ∧ Hid (Below w.heap.size w wk) ∧ Hid (pcs mm = pcs m ++ (cs.take k).map fun c => (c, x.r)) ∧ Hid (Spn.Row w.heap.size cs (.slice co k9 cc) wk) ∧ Hid (Bx3 x kp wk) ∧ Hid (∀ g, ov.ownBlock = some g → (Value.slice co k9 cc).ownBlock ≠ some g) ∧ Hid (ov.ownBlock ≠ some kp)) (fun _ kk _ => (k9 - (intOf kk).toNat))
      case atStart => exact ⟨0, m, rfl, by omega, HO1, HB1, hide (by simp), HROW, HX1, HAP, HNP⟩
      case round =>
        rename World => wk
        obtain ⟨k, mm, rfl, hk, HOK, HBK, HPK, HC, HXK, HAPK, HNPK⟩ := hrel
        clear HO1 HB1 HROW HX1 HAP HNP
        rcases Nat.lt_or_ge k k9 with hkk | hkk
        · have g2 : (k : Int) < (k9 : Int) := by omega
          have hkl : k < cs.length := by rw [← HK9.out]; exact hkk
          have HMML := hide (show mm.length ≤ 3000 from by
            have h1 := congrArg List.length HPK.out
            rw [pcs_len, List.length_append, pcs_len, List.length_map, List.length_take] at h1
            have := HML.out
            omega)
          have hh := HC.out.held (by omega)
          rw [← HK9.out] at hh
          obtain ⟨gc, gcap, hgv, _, _, _, _⟩ := hh
          simp only [Value.slice.injEq, true_and] at hgv
          obtain ⟨rfl, rfl⟩ := hgv
          obtain ⟨q0, q1, _, _⟩ := HC.out.at k hkl
          have HTK2 := hide (List.take_succ_eq_append_getElem hkl)
          obtain ⟨c, hc⟩ : ∃ c, c = cs[k] := ⟨_, rfl⟩
          rw [← hc] at HTK2 q0 q1
          clear hc
          have hlts : wk.heap.size < (wk.alloc (.cells #[.int .i64 c.1, .int .i64 c.2] 24)).heap.size := by simp
          obtain ⟨wd, hwd⟩ : ∃ wd, wd = (wk.alloc (.cells #[.int .i64 c.1, .int .i64 c.2] 24)).drew := ⟨_, rfl⟩
          have HQD := hide (show Below wk.heap.size wk wd from by rw [hwd]; exact (below_alloc _ _).drew)
          have HSB := hide (show At c wk.heap.size wd from by rw [hwd]; exact (At.new wk c.1 c.2 _).later (Below.refl (wk.heap.size + 1) _).drew (Nat.lt_succ_self _))
          have HOD := hide (HOK.out.later HQD.out (Nat.le_refl _))
          have HBD := hide (HBK.out.trans (HQD.out.mono HBK.out.size))
          have HCD := hide (HC.out.later HQD.out (Nat.le_refl _))
          have HXD := hide (HXK.out.later HQD.out HXK.out.lt)
          have HGK := hide (show ∀ g, u5.ownBlock = some g → g < wk.heap.size from fun g hg => (HOK.out.o.lt g hg).2)
          have CE := hide (show ∀ u : World, At c wk.heap.size u → Bx3 x kp u → (u.cell? ⟨kp, 2, none⟩ = some (.slice x.ro x.r.length x.rc) ∧ u.cell? ⟨wk.heap.size, 0, none⟩ = some (.int .i64 c.1) ∧ u.cell? ⟨wk.heap.size, 1, none⟩ = some (.int .i64 c.2)) from fun u h1 h2 => ⟨h2.c2, h1.c0, h1.c1⟩)
          clear hlts
          go_wp2_with fail
          refine wp_region_held_drew (S := fun u => u.cell? ⟨kp, 2, none⟩ = some (.slice x.ro x.r.length x.rc) ∧ u.cell? ⟨wk.heap.size, 0, none⟩ = some (.int .i64 c.1) ∧ u.cell? ⟨wk.heap.size, 1, none⟩ = some (.int .i64 c.2)) (by kernel_rfl) (by rw [← hwd]; exact CE.out _ HSB.out HXD.out) (fun hHeld => ?_)
          rw [← hwd] at hHeld ⊢
          clear hwd q0 q1
          refine Man.t1 0 hHeld ?_
          (try simp only [Act.put, Mqa, Mqb, Mqc])
          refine Man.t1 1 hHeld ?_
          (try simp only [Act.put, Mqa, Mqb, Mqc])
          refine Man.t1 2 hHeld ?_
          (try simp only [Act.put, Mqa, Mqb, Mqc])
          refine Man.t1 3 hHeld ?_
          (try simp only [Act.put, Mqa, Mqb, Mqc])
          refine Man.one (i := 4) rfl (by kernel_rfl) (fun K9 hK => ?_)
          go_simp
          with_reducible refine (Cod.copied_any x.r x.ro x.rc _ (HRX.out _ HBD.out) HXL.out HXS.out).mono ?_
          rintro e z1 ⟨ao', c', rfl, hrow, hb⟩
          have HO1 := hide (HOD.out.later hb (Nat.le_refl _))
          have HB1 := hide (HBD.out.trans (hb.mono HBD.out.size))
          have HC1 := hide (HCD.out.later hb (Nat.le_refl _))
          have HX1 := hide (HXD.out.later hb HXD.out.lt)
          have HS1 := hide (HSB.out.later hb HSB.out.lt)
          have HW1 := hide (RowAt.of_owns hrow rfl)
          have HWA := hide (show ∀ ad, ao' = some ad → ad.block < z1.heap.size ∧ u5.ownBlock ≠ some ad.block from fun ad e => by
            have h1 := hrow.lt ad.block (by rw [e]; rfl)
            refine ⟨h1.2, fun e9 => ?_⟩
            have h2 := HGK.out _ e9
            have h3 := HQD.out.size
            omega)
          have HWQ := hide (show ∀ ad, ao' = some ad → w.heap.size ≤ ad.block from fun ad e => by
            have h1 := hrow.lt ad.block (by rw [e]; rfl)
            have := HBD.out.size
            omega)
          clear hb hrow HOD HBD HCD HXD HSB
          refine hK.out _ _ (CE.out _ HS1.out HX1.out) (fun hNew => ?_)
          clear hK K9 hHeld
          have hHeld := hNew
          clear hNew
          (try simp only [Act.put, Mqa, Mqb, Mqc])
          refine Man.t1 5 hHeld ?_
          (try simp only [Act.put, Mqa, Mqb, Mqc])
          refine Man.one (i := 6) rfl (by kernel_rfl) (fun K9 hK => ?_)
          go_simp
          obtain ⟨y, hy⟩ : ∃ y : Pm, y = ⟨c, x.r, ao', c'⟩ := ⟨_, rfl⟩
          have HY1 := hide (show y.pc = (c, x.r) from by rw [hy]; rfl)
          have HWY := hide (show RowAt y.r y.sl z1 from by rw [hy]; exact HW1.out)
          have HWB := hide (show ∀ ad, y.ro = some ad → ad.block < z1.heap.size ∧ u5.ownBlock ≠ some ad.block from by rw [hy]; exact HWA.out)
          have HWE := hide (show ∀ ad, y.ro = some ad → w.heap.size ≤ ad.block from by rw [hy]; exact HWQ.out)
          obtain ⟨z2, hz2⟩ : ∃ z2, z2 = z1.alloc (.cells #[.int .i64 c.1, .int .i64 c.2, .slice ao' x.r.length c'] 56) := ⟨_, rfl⟩
          have HP2 := hide (show PcsAt [y] (.slice (some ⟨z1.heap.size, 0, none⟩) 1 1) z2 from by rw [hz2, hy]; exact one3_at z1 ⟨c, x.r, ao', c'⟩ _ rfl)
          have HQ2 := hide (show Below z1.heap.size z1 z2 from by rw [hz2]; exact below_alloc _ _)
          have HO2 := hide (HO1.out.later HQ2.out (Nat.le_refl _))
          have HB2 := hide (HB1.out.trans (HQ2.out.mono HB1.out.size))
          have HC2 := hide (HC1.out.later HQ2.out (Nat.le_refl _))
          have HX2 := hide (HX1.out.later HQ2.out HX1.out.lt)
          have HS2 := hide (HS1.out.later HQ2.out HS1.out.lt)
          have HW2 := hide (HWY.out.later HQ2.out)
          have HWC := hide (show ∀ ad, y.ro = some ad → ad.block < z2.heap.size ∧ u5.ownBlock ≠ some ad.block from fun ad e => ⟨Nat.lt_of_lt_of_le (HWB.out ad e).1 HQ2.out.size, (HWB.out ad e).2⟩)
          rw [← hz2]
          clear hz2 HQ2 hy HO1 HB1 HC1 HX1 HS1 HW1 HWA HWY HWB
          refine hK.out _ _ (CE.out _ HS2.out HX2.out) (fun hNew => ?_)
          clear hK K9 hHeld
          have hHeld := hNew
          clear hNew
          (try simp only [Act.put, Mqa, Mqb, Mqc])
          refine Man.one (i := 7) rfl (by kernel_rfl) (fun K9 hK => ?_)
          refine oper_if (by rfl) ?_
          refine oper_row3 (l := mm) (m := [y]) tyP _ _ rfl rfl rfl HO2.out.o HP2.out (by have := HMML.out; simp; omega) HB2.out.size (fun u z3 hu hg hob => ?_)
          have HO3 := hide (HO2.out.app HW2.out HWC.out HWE.out hu hg hob)
          have HB3 := hide (HB2.out.grown hg HB2.out.size (fun g hgg => (HO2.out.o.lt g hgg).1))
          have HC3 := hide (HC2.out.kept (fun g hgg => hg.block g (HC2.out.lt g hgg).2 (fun e9 => HAPK.out g e9.symm hgg)))
          have HX3 := hide (HX2.out.kept hg.size (hg.block kp HX2.out.lt (fun e9 => HNPK.out e9.symm)))
          have HS3 := hide (show At c wk.heap.size z3 from by
            have e : z3.heap[wk.heap.size]? = z2.heap[wk.heap.size]? := hg.block _ HS2.out.lt (fun e9 => by have := HGK.out _ e9.symm; omega)
            exact ⟨by rw [World.cell?_of_block (a := ⟨wk.heap.size, 0, none⟩) e]; exact HS2.out.c0, by rw [World.cell?_of_block (a := ⟨wk.heap.size, 1, none⟩) e]; exact HS2.out.c1, by rw [World.frozen?_of_block (a := ⟨wk.heap.size, 0, none⟩) e]; exact HS2.out.z, by rw [World.frozen?_of_block (a := ⟨wk.heap.size, 1, none⟩) e]; exact HS2.out.z1, Nat.lt_of_lt_of_le HS2.out.lt hg.size⟩)
          have HAP3 := hide (show ∀ g, u.ownBlock = some g → (Value.slice (some ⟨gc, 0, none⟩) k9 cc).ownBlock ≠ some g from fun g hgu e9 => by
            rcases hob with h9 | h9
            · rw [h9] at hgu; exact HAPK.out g hgu e9
            · rw [h9] at hgu
              have := Option.some.inj hgu
              have := (HC2.out.lt g e9).2
              omega)
          have HNP3 := hide (show u.ownBlock ≠ some kp from fun e9 => by
            rcases hob with h9 | h9
            · rw [h9] at e9; exact HNPK.out e9
            · rw [h9] at e9
              have := Option.some.inj e9
              have := HX2.out.lt
              omega)
          have HP3 := hide (show pcs (mm ++ [y]) = pcs m ++ (cs.take (k + 1)).map fun c => (c, x.r) from by
            rw [pcs_app, HPK.out, HTK2.out, List.map_append, List.append_assoc]
            congr 2
            simp only [pcs, List.map_cons, List.map_nil, HY1.out])
          clear hu hg hob HO2 HB2 HC2 HX2 HS2 HW2 HWC HP2
          refine hK.out _ _ (CE.out _ HS3.out HX3.out) (fun hNew => ?_)
          clear hK K9 hHeld
          have hHeld := hNew
          clear hNew
          (try simp only [Act.put, Mqa, Mqb, Mqc])
          refine Man.t1 8 hHeld ?_
          (try simp only [Act.put, Mqa, Mqb, Mqc])
          refine wpAnyH_done (by kernel_rfl) ?_ _
          go_wp2_with fail
          go_roundw
          case rel => exact ⟨k + 1, _, by go_num, by omega, HO3, HB3, HP3, HC3, HX3, HAP3, HNP3⟩
          case measure => simp [intOf]; omega
        · obtain rfl : k = k9 := by omega
          have g2 : ¬ (k : Int) < (k : Int) := by omega
          have HP2 := hide (show pcs mm = toldP (l.take (i + 1)) f from by
            have h9 := HPK.out
            rw [HK9.out, List.take_length] at h9
            rw [h9, HP.out, HTK.out])
          go_wp2_with fail
          go_roundw
          case rel => exact ⟨i + 1, _, by go_num, by omega, HOK, HBK, HP2⟩
          case measure => simp [intOf]; omega
    · obtain rfl : i = n := by omega
      have g1 : ¬ (i : Int) < (i : Int) := by omega
      have HE := hide (show pcs m = toldP l f from by rw [HP.out, HN.out, List.take_length])
      go_wp2_with fail
      go_ret
      exact ⟨m, u5, rfl, HO.out, HE.out, HB.out⟩
set_option maxHeartbeats 8000000 in
set_option maxRecDepth 100000 in
theorem told_drop {l : List Pm} {sl : Value} {w : World} (f : Pm → List Sp) (k0 : Nat) (h : PcsAt l sl w) (hr : Rows3 l w) (hs : Small l) (hf : ∀ x, x ∈ l → (f x).length ≤ 2)
    (hK : ∀ x, x ∈ l → ∀ u : World, Below w.heap.size w u → Calls Try.prog 43 #[.agg #[.int .i64 x.s.1, .int .i64 x.s.2, .slice x.ro x.r.length x.rc], .pointer (some ⟨k0, 0, none⟩)] u fun e u' => ∃ v, e = .returned v ∧ Spn.Row u.heap.size (f x) v u' ∧ Below u.heap.size u u') :
    Calls Try.prog 38 #[sl, .func (.func 43) #[] #[.pointer (some ⟨k0, 0, none⟩)]] w fun e w' => ∃ (m : List Pm) (v : Value), e = .returned v ∧ Owns w.heap.size m v w' ∧ pcs m = toldP l f ∧ Below w.heap.size w w' := by
  obtain ⟨so, sc, rfl, _, _⟩ := h.form
  have HA := hide h
  have HR := hide hr
  have HS := hide hs
  have HF := hide hf
  have HK := hide hK
  obtain ⟨n, hn⟩ : ∃ n, n = l.length := ⟨_, rfl⟩
  have hl : n ≤ 1000 := by rw [hn]; exact hs.n
  rw [← hn]
  have HN := hide hn
  clear h hn hr hs hf hK
  go_enter Try.func38, Try.ntmps38
  go_wp2_with fail
  go_loopw [5, 12] (fun ov ii wr => ∃ (i : Nat) (m : List Pm), ii = .int .i64 i ∧ i ≤ n ∧ Hid (Owns w.heap.size m ov wr) ∧ Hid (Below w.heap.size w wr) ∧ Hid (pcs m = toldP (l.take i) f)) (fun _ ii _ => (n - (intOf ii).toNat))
  case atStart => exact ⟨0, [], rfl, by omega, hide (Owns.nil _ _), hide (Below.refl _ _), hide rfl⟩
  case round =>
    rename World => wr
    obtain ⟨i, m, rfl, hi, HO, HB, HP⟩ := hrel
    rcases Nat.lt_or_ge i n with hlt | hge
    · have g1 : (i : Int) < (n : Int) := by omega
      have hil : i < l.length := by rw [← HN.out]; exact hlt
      obtain ⟨b0, off, cap, he, hbw, k0, k1, k2⟩ := (HA.out.later HB.out (Nat.le_refl _)).at i hil
      rw [← HN.out] at he
      simp only [Value.slice.injEq] at he
      obtain ⟨rfl, _, rfl⟩ := he
      have HTK := hide (toldP_take hil f)
      have HML := hide (show m.length ≤ 2000 from by
        have h1 := congrArg List.length HP.out
        rw [pcs_len] at h1
        have h2 := toldP_len (l := l.take i) (f := f) (fun y hy => HF.out y (List.mem_of_mem_take hy))
        rw [List.length_take] at h2
        omega)
      have hmem := List.getElem_mem hil
      obtain ⟨x, hx⟩ : ∃ x, x = l[i] := ⟨_, rfl⟩
      rw [← hx] at k0 k1 k2 hmem HTK
      have HRX := hide (show ∀ u : World, Below w.heap.size w u → RowAt x.r (.slice x.ro x.r.length x.rc) u from fun u hu => (HR.out.later hu) _ hmem)
      have HXL := hide (HS.out.r _ hmem)
      have HXS := hide (show ∀ v, v ∈ x.r → v.s.length ≤ 281474976710656 from fun v hv => by have := (HS.out.i _ hmem v hv).s; omega)
      have HKX := hide (HK.out _ hmem)
      obtain ⟨cs, hcs⟩ : ∃ cs, cs = f x := ⟨_, rfl⟩
      have hcl : cs.length ≤ 2 := by rw [hcs]; exact HF.out _ hmem
      rw [← hcs] at HKX HTK
      clear hx hbw hmem hcs
      obtain ⟨k9, hk9⟩ : ∃ k9, k9 = cs.length := ⟨_, rfl⟩
      rw [← hk9] at hcl
      have HK9 := hide hk9
      clear hk9
      have HBA := hide (HB.out.trans ((below_alloc wr (.cells #[.int .i64 x.s.1, .int .i64 x.s.2, .slice x.ro x.r.length x.rc] 56)).mono HB.out.size))
      have HXA := hide (Bx3.new wr x 56)
      have HOA := hide (HO.out.later (below_alloc wr (.cells #[.int .i64 x.s.1, .int .i64 x.s.2, .slice x.ro x.r.length x.rc] 56)) (Nat.le_refl _))
      have HNE := hide (show ∀ g, u5.ownBlock = some g → g < wr.heap.size from fun g hg => (HO.out.o.lt g hg).2)
      have hltA : wr.heap.size < (wr.alloc (.cells #[.int .i64 x.s.1, .int .i64 x.s.2, .slice x.ro x.r.length x.rc] 56)).heap.size := by simp
      have HLTA := hide hltA
      clear hltA
      go_wp2_with (go_at_call 43; refine (HKX.out _ HBA.out).mono ?_; rintro e w1 ⟨cv, rfl, hrow, hb1⟩; obtain ⟨co, cc, rfl, _, _⟩ := hrow.form; rw [← HK9.out] at hrow ⊢)
      have HX1 := hide (HXA.out.later hb1 HLTA.out)
      have HB1 := hide (HBA.out.trans (hb1.mono HBA.out.size))
      have HO1 := hide (HOA.out.later hb1 (Nat.le_refl _))
      have HAP := hide (show ∀ g, u5.ownBlock = some g → (Value.slice co k9 cc).ownBlock ≠ some g from fun g hg e => by
        have h1 := HNE.out g hg
        have h2 := (hrow.lt g e).1
        have := HLTA.out
        omega)
      have HROW := hide (hrow.mono (base' := w.heap.size) HBA.out.size)
      clear hrow hb1 HXA HBA HOA
      obtain ⟨kp, hkp⟩ : ∃ kp, kp = wr.heap.size := ⟨_, rfl⟩
      rw [← hkp] at HX1 HNE ⊢
      have HNP := hide (show u5.ownBlock ≠ some kp from fun e => by have := HNE.out kp e; omega)
      clear hkp HNE HLTA
      go_loopw [5, 20] (fun ov kk wk => ∃ (k : Nat) (mm : List Pm), kk = .int .i64 k ∧ k ≤ k9 ∧ Hid (Owns w.heap.size mm ov wk) ∧ Hid (Below w.heap.size w wk) ∧ Hid (pcs mm = pcs m ++ (cs.take k).map fun c => (c, x.r)) ∧ Hid (Spn.Row w.heap.size cs (.slice co k9 cc) wk) ∧ Hid (Bx3 x kp wk) ∧ Hid (∀ g, ov.ownBlock = some g → (Value.slice co k9 cc).ownBlock ≠ some g) ∧ Hid (ov.ownBlock ≠ some kp)) (fun _ kk _ => (k9 - (intOf kk).toNat))
      case atStart => exact ⟨0, m, rfl, by omega, HO1, HB1, hide (by simp), HROW, HX1, HAP, HNP⟩
      case round =>
        rename World => wk
        obtain ⟨k, mm, rfl, hk, HOK, HBK, HPK, HC, HXK, HAPK, HNPK⟩ := hrel
        clear HO1 HB1 HROW HX1 HAP HNP
        rcases Nat.lt_or_ge k k9 with hkk | hkk
        · have g2 : (k : Int) < (k9 : Int) := by omega
          have hkl : k < cs.length := by rw [← HK9.out]; exact hkk
          have HMML := hide (show mm.length ≤ 3000 from by
            have h1 := congrArg List.length HPK.out
            rw [pcs_len, List.length_append, pcs_len, List.length_map, List.length_take] at h1
            have := HML.out
            omega)
          have hh := HC.out.held (by omega)
          rw [← HK9.out] at hh
          obtain ⟨gc, gcap, hgv, _, _, _, _⟩ := hh
          simp only [Value.slice.injEq, true_and] at hgv
          obtain ⟨rfl, rfl⟩ := hgv
          obtain ⟨q0, q1, _, _⟩ := HC.out.at k hkl
          have HTK2 := hide (List.take_succ_eq_append_getElem hkl)
          obtain ⟨c, hc⟩ : ∃ c, c = cs[k] := ⟨_, rfl⟩
          rw [← hc] at HTK2 q0 q1
          clear hc
          have hlts : wk.heap.size < (wk.alloc (.cells #[.int .i64 c.1, .int .i64 c.2] 24)).heap.size := by simp
          obtain ⟨wd, hwd⟩ : ∃ wd, wd = (wk.alloc (.cells #[.int .i64 c.1, .int .i64 c.2] 24)).drew := ⟨_, rfl⟩
          have HQD := hide (show Below wk.heap.size wk wd from by rw [hwd]; exact (below_alloc _ _).drew)
          have HSB := hide (show At c wk.heap.size wd from by rw [hwd]; exact (At.new wk c.1 c.2 _).later (Below.refl (wk.heap.size + 1) _).drew (Nat.lt_succ_self _))
          have HOD := hide (HOK.out.later HQD.out (Nat.le_refl _))
          have HBD := hide (HBK.out.trans (HQD.out.mono HBK.out.size))
          have HCD := hide (HC.out.later HQD.out (Nat.le_refl _))
          have HXD := hide (HXK.out.later HQD.out HXK.out.lt)
          have HGK := hide (show ∀ g, u5.ownBlock = some g → g < wk.heap.size from fun g hg => (HOK.out.o.lt g hg).2)
          have CE := hide (show ∀ u : World, At c wk.heap.size u → Bx3 x kp u → (u.cell? ⟨kp, 2, none⟩ = some (.slice x.ro x.r.length x.rc) ∧ u.cell? ⟨wk.heap.size, 0, none⟩ = some (.int .i64 c.1) ∧ u.cell? ⟨wk.heap.size, 1, none⟩ = some (.int .i64 c.2)) from fun u h1 h2 => ⟨h2.c2, h1.c0, h1.c1⟩)
          clear hlts
          go_wp2_with fail
          refine wp_region_held_drew (S := fun u => u.cell? ⟨kp, 2, none⟩ = some (.slice x.ro x.r.length x.rc) ∧ u.cell? ⟨wk.heap.size, 0, none⟩ = some (.int .i64 c.1) ∧ u.cell? ⟨wk.heap.size, 1, none⟩ = some (.int .i64 c.2)) (by kernel_rfl) (by rw [← hwd]; exact CE.out _ HSB.out HXD.out) (fun hHeld => ?_)
          rw [← hwd] at hHeld ⊢
          clear hwd q0 q1
          refine Man.t1 0 hHeld ?_
          (try simp only [Act.put, Mqa, Mqb, Mqc])
          refine Man.t1 1 hHeld ?_
          (try simp only [Act.put, Mqa, Mqb, Mqc])
          refine Man.t1 2 hHeld ?_
          (try simp only [Act.put, Mqa, Mqb, Mqc])
          refine Man.t1 3 hHeld ?_
          (try simp only [Act.put, Mqa, Mqb, Mqc])
          refine Man.one (i := 4) rfl (by kernel_rfl) (fun K9 hK => ?_)
          go_simp
          with_reducible refine (Cod.copied_any x.r x.ro x.rc _ (HRX.out _ HBD.out) HXL.out HXS.out).mono ?_
          rintro e z1 ⟨ao', c', rfl, hrow, hb⟩
          have HO1 := hide (HOD.out.later hb (Nat.le_refl _))
          have HB1 := hide (HBD.out.trans (hb.mono HBD.out.size))
          have HC1 := hide (HCD.out.later hb (Nat.le_refl _))
          have HX1 := hide (HXD.out.later hb HXD.out.lt)
          have HS1 := hide (HSB.out.later hb HSB.out.lt)
          have HW1 := hide (RowAt.of_owns hrow rfl)
          have HWA := hide (show ∀ ad, ao' = some ad → ad.block < z1.heap.size ∧ u5.ownBlock ≠ some ad.block from fun ad e => by
            have h1 := hrow.lt ad.block (by rw [e]; rfl)
            refine ⟨h1.2, fun e9 => ?_⟩
            have h2 := HGK.out _ e9
            have h3 := HQD.out.size
            omega)
          have HWQ := hide (show ∀ ad, ao' = some ad → w.heap.size ≤ ad.block from fun ad e => by
            have h1 := hrow.lt ad.block (by rw [e]; rfl)
            have := HBD.out.size
            omega)
          clear hb hrow HOD HBD HCD HXD HSB
          refine hK.out _ _ (CE.out _ HS1.out HX1.out) (fun hNew => ?_)
          clear hK K9 hHeld
          have hHeld := hNew
          clear hNew
          (try simp only [Act.put, Mqa, Mqb, Mqc])
          refine Man.t1 5 hHeld ?_
          (try simp only [Act.put, Mqa, Mqb, Mqc])
          refine Man.one (i := 6) rfl (by kernel_rfl) (fun K9 hK => ?_)
          go_simp
          obtain ⟨y, hy⟩ : ∃ y : Pm, y = ⟨c, x.r, ao', c'⟩ := ⟨_, rfl⟩
          have HY1 := hide (show y.pc = (c, x.r) from by rw [hy]; rfl)
          have HWY := hide (show RowAt y.r y.sl z1 from by rw [hy]; exact HW1.out)
          have HWB := hide (show ∀ ad, y.ro = some ad → ad.block < z1.heap.size ∧ u5.ownBlock ≠ some ad.block from by rw [hy]; exact HWA.out)
          have HWE := hide (show ∀ ad, y.ro = some ad → w.heap.size ≤ ad.block from by rw [hy]; exact HWQ.out)
          obtain ⟨z2, hz2⟩ : ∃ z2, z2 = z1.alloc (.cells #[.int .i64 c.1, .int .i64 c.2, .slice ao' x.r.length c'] 56) := ⟨_, rfl⟩
          have HP2 := hide (show PcsAt [y] (.slice (some ⟨z1.heap.size, 0, none⟩) 1 1) z2 from by rw [hz2, hy]; exact one3_at z1 ⟨c, x.r, ao', c'⟩ _ rfl)
          have HQ2 := hide (show Below z1.heap.size z1 z2 from by rw [hz2]; exact below_alloc _ _)
          have HO2 := hide (HO1.out.later HQ2.out (Nat.le_refl _))
          have HB2 := hide (HB1.out.trans (HQ2.out.mono HB1.out.size))
          have HC2 := hide (HC1.out.later HQ2.out (Nat.le_refl _))
          have HX2 := hide (HX1.out.later HQ2.out HX1.out.lt)
          have HS2 := hide (HS1.out.later HQ2.out HS1.out.lt)
          have HW2 := hide (HWY.out.later HQ2.out)
          have HWC := hide (show ∀ ad, y.ro = some ad → ad.block < z2.heap.size ∧ u5.ownBlock ≠ some ad.block from fun ad e => ⟨Nat.lt_of_lt_of_le (HWB.out ad e).1 HQ2.out.size, (HWB.out ad e).2⟩)
          rw [← hz2]
          clear hz2 HQ2 hy HO1 HB1 HC1 HX1 HS1 HW1 HWA HWY HWB
          refine hK.out _ _ (CE.out _ HS2.out HX2.out) (fun hNew => ?_)
          clear hK K9 hHeld
          have hHeld := hNew
          clear hNew
          (try simp only [Act.put, Mqa, Mqb, Mqc])
          refine Man.one (i := 7) rfl (by kernel_rfl) (fun K9 hK => ?_)
          refine oper_if (by rfl) ?_
          refine oper_row3 (l := mm) (m := [y]) tyP _ _ rfl rfl rfl HO2.out.o HP2.out (by have := HMML.out; simp; omega) HB2.out.size (fun u z3 hu hg hob => ?_)
          have HO3 := hide (HO2.out.app HW2.out HWC.out HWE.out hu hg hob)
          have HB3 := hide (HB2.out.grown hg HB2.out.size (fun g hgg => (HO2.out.o.lt g hgg).1))
          have HC3 := hide (HC2.out.kept (fun g hgg => hg.block g (HC2.out.lt g hgg).2 (fun e9 => HAPK.out g e9.symm hgg)))
          have HX3 := hide (HX2.out.kept hg.size (hg.block kp HX2.out.lt (fun e9 => HNPK.out e9.symm)))
          have HS3 := hide (show At c wk.heap.size z3 from by
            have e : z3.heap[wk.heap.size]? = z2.heap[wk.heap.size]? := hg.block _ HS2.out.lt (fun e9 => by have := HGK.out _ e9.symm; omega)
            exact ⟨by rw [World.cell?_of_block (a := ⟨wk.heap.size, 0, none⟩) e]; exact HS2.out.c0, by rw [World.cell?_of_block (a := ⟨wk.heap.size, 1, none⟩) e]; exact HS2.out.c1, by rw [World.frozen?_of_block (a := ⟨wk.heap.size, 0, none⟩) e]; exact HS2.out.z, by rw [World.frozen?_of_block (a := ⟨wk.heap.size, 1, none⟩) e]; exact HS2.out.z1, Nat.lt_of_lt_of_le HS2.out.lt hg.size⟩)
          have HAP3 := hide (show ∀ g, u.ownBlock = some g → (Value.slice (some ⟨gc, 0, none⟩) k9 cc).ownBlock ≠ some g from fun g hgu e9 => by
            rcases hob with h9 | h9
            · rw [h9] at hgu; exact HAPK.out g hgu e9
            · rw [h9] at hgu
              have := Option.some.inj hgu
              have := (HC2.out.lt g e9).2
              omega)
          have HNP3 := hide (show u.ownBlock ≠ some kp from fun e9 => by
            rcases hob with h9 | h9
            · rw [h9] at e9; exact HNPK.out e9
            · rw [h9] at e9
              have := Option.some.inj e9
              have := HX2.out.lt
              omega)
          have HP3 := hide (show pcs (mm ++ [y]) = pcs m ++ (cs.take (k + 1)).map fun c => (c, x.r) from by
            rw [pcs_app, HPK.out, HTK2.out, List.map_append, List.append_assoc]
            congr 2
            simp only [pcs, List.map_cons, List.map_nil, HY1.out])
          clear hu hg hob HO2 HB2 HC2 HX2 HS2 HW2 HWC HP2
          refine hK.out _ _ (CE.out _ HS3.out HX3.out) (fun hNew => ?_)
          clear hK K9 hHeld
          have hHeld := hNew
          clear hNew
          (try simp only [Act.put, Mqa, Mqb, Mqc])
          refine Man.t1 8 hHeld ?_
          (try simp only [Act.put, Mqa, Mqb, Mqc])
          refine wpAnyH_done (by kernel_rfl) ?_ _
          go_wp2_with fail
          go_roundw
          case rel => exact ⟨k + 1, _, by go_num, by omega, HO3, HB3, HP3, HC3, HX3, HAP3, HNP3⟩
          case measure => simp [intOf]; omega
        · obtain rfl : k = k9 := by omega
          have g2 : ¬ (k : Int) < (k : Int) := by omega
          have HP2 := hide (show pcs mm = toldP (l.take (i + 1)) f from by
            have h9 := HPK.out
            rw [HK9.out, List.take_length] at h9
            rw [h9, HP.out, HTK.out])
          go_wp2_with fail
          go_roundw
          case rel => exact ⟨i + 1, _, by go_num, by omega, HOK, HBK, HP2⟩
          case measure => simp [intOf]; omega
    · obtain rfl : i = n := by omega
      have g1 : ¬ (i : Int) < (i : Int) := by omega
      have HE := hide (show pcs m = toldP l f from by rw [HP.out, HN.out, List.take_length])
      go_wp2_with fail
      go_ret
      exact ⟨m, u5, rfl, HO.out, HE.out, HB.out⟩
set_option maxHeartbeats 8000000 in
set_option maxRecDepth 100000 in
theorem told_without {l : List Pm} {sl : Value} {w : World} (f : Pm → List Sp) (k0 : Nat) (h : PcsAt l sl w) (hr : Rows3 l w) (hs : Small l) (hf : ∀ x, x ∈ l → (f x).length ≤ 2)
    (hK : ∀ x, x ∈ l → ∀ u : World, Below w.heap.size w u → Calls Try.prog 61 #[.agg #[.int .i64 x.s.1, .int .i64 x.s.2, .slice x.ro x.r.length x.rc], .pointer (some ⟨k0, 0, none⟩)] u fun e u' => ∃ v, e = .returned v ∧ Spn.Row u.heap.size (f x) v u' ∧ Below u.heap.size u u') :
    Calls Try.prog 38 #[sl, .func (.func 61) #[] #[.pointer (some ⟨k0, 0, none⟩)]] w fun e w' => ∃ (m : List Pm) (v : Value), e = .returned v ∧ Owns w.heap.size m v w' ∧ pcs m = toldP l f ∧ Below w.heap.size w w' := by
  obtain ⟨so, sc, rfl, _, _⟩ := h.form
  have HA := hide h
  have HR := hide hr
  have HS := hide hs
  have HF := hide hf
  have HK := hide hK
  obtain ⟨n, hn⟩ : ∃ n, n = l.length := ⟨_, rfl⟩
  have hl : n ≤ 1000 := by rw [hn]; exact hs.n
  rw [← hn]
  have HN := hide hn
  clear h hn hr hs hf hK
  go_enter Try.func38, Try.ntmps38
  go_wp2_with fail
  go_loopw [5, 12] (fun ov ii wr => ∃ (i : Nat) (m : List Pm), ii = .int .i64 i ∧ i ≤ n ∧ Hid (Owns w.heap.size m ov wr) ∧ Hid (Below w.heap.size w wr) ∧ Hid (pcs m = toldP (l.take i) f)) (fun _ ii _ => (n - (intOf ii).toNat))
  case atStart => exact ⟨0, [], rfl, by omega, hide (Owns.nil _ _), hide (Below.refl _ _), hide rfl⟩
  case round =>
    rename World => wr
    obtain ⟨i, m, rfl, hi, HO, HB, HP⟩ := hrel
    rcases Nat.lt_or_ge i n with hlt | hge
    · have g1 : (i : Int) < (n : Int) := by omega
      have hil : i < l.length := by rw [← HN.out]; exact hlt
      obtain ⟨b0, off, cap, he, hbw, k0, k1, k2⟩ := (HA.out.later HB.out (Nat.le_refl _)).at i hil
      rw [← HN.out] at he
      simp only [Value.slice.injEq] at he
      obtain ⟨rfl, _, rfl⟩ := he
      have HTK := hide (toldP_take hil f)
      have HML := hide (show m.length ≤ 2000 from by
        have h1 := congrArg List.length HP.out
        rw [pcs_len] at h1
        have h2 := toldP_len (l := l.take i) (f := f) (fun y hy => HF.out y (List.mem_of_mem_take hy))
        rw [List.length_take] at h2
        omega)
      have hmem := List.getElem_mem hil
      obtain ⟨x, hx⟩ : ∃ x, x = l[i] := ⟨_, rfl⟩
      rw [← hx] at k0 k1 k2 hmem HTK
      have HRX := hide (show ∀ u : World, Below w.heap.size w u → RowAt x.r (.slice x.ro x.r.length x.rc) u from fun u hu => (HR.out.later hu) _ hmem)
      have HXL := hide (HS.out.r _ hmem)
      have HXS := hide (show ∀ v, v ∈ x.r → v.s.length ≤ 281474976710656 from fun v hv => by have := (HS.out.i _ hmem v hv).s; omega)
      have HKX := hide (HK.out _ hmem)
      obtain ⟨cs, hcs⟩ : ∃ cs, cs = f x := ⟨_, rfl⟩
      have hcl : cs.length ≤ 2 := by rw [hcs]; exact HF.out _ hmem
      rw [← hcs] at HKX HTK
      clear hx hbw hmem hcs
      obtain ⟨k9, hk9⟩ : ∃ k9, k9 = cs.length := ⟨_, rfl⟩
      rw [← hk9] at hcl
      have HK9 := hide hk9
      clear hk9
      have HBA := hide (HB.out.trans ((below_alloc wr (.cells #[.int .i64 x.s.1, .int .i64 x.s.2, .slice x.ro x.r.length x.rc] 56)).mono HB.out.size))
      have HXA := hide (Bx3.new wr x 56)
      have HOA := hide (HO.out.later (below_alloc wr (.cells #[.int .i64 x.s.1, .int .i64 x.s.2, .slice x.ro x.r.length x.rc] 56)) (Nat.le_refl _))
      have HNE := hide (show ∀ g, u5.ownBlock = some g → g < wr.heap.size from fun g hg => (HO.out.o.lt g hg).2)
      have hltA : wr.heap.size < (wr.alloc (.cells #[.int .i64 x.s.1, .int .i64 x.s.2, .slice x.ro x.r.length x.rc] 56)).heap.size := by simp
      have HLTA := hide hltA
      clear hltA
      go_wp2_with (go_at_call 61; refine (HKX.out _ HBA.out).mono ?_; rintro e w1 ⟨cv, rfl, hrow, hb1⟩; obtain ⟨co, cc, rfl, _, _⟩ := hrow.form; rw [← HK9.out] at hrow ⊢)
      have HX1 := hide (HXA.out.later hb1 HLTA.out)
      have HB1 := hide (HBA.out.trans (hb1.mono HBA.out.size))
      have HO1 := hide (HOA.out.later hb1 (Nat.le_refl _))
      have HAP := hide (show ∀ g, u5.ownBlock = some g → (Value.slice co k9 cc).ownBlock ≠ some g from fun g hg e => by
        have h1 := HNE.out g hg
        have h2 := (hrow.lt g e).1
        have := HLTA.out
        omega)
      have HROW := hide (hrow.mono (base' := w.heap.size) HBA.out.size)
      clear hrow hb1 HXA HBA HOA
      obtain ⟨kp, hkp⟩ : ∃ kp, kp = wr.heap.size := ⟨_, rfl⟩
      rw [← hkp] at HX1 HNE ⊢
      have HNP := hide (show u5.ownBlock ≠ some kp from fun e => by have := HNE.out kp e; omega)
      clear hkp HNE HLTA
      go_loopw [5, 20] (fun ov kk wk => ∃ (k : Nat) (mm : List Pm), kk = .int .i64 k ∧ k ≤ k9 ∧ Hid (Owns w.heap.size mm ov wk) ∧ Hid (Below w.heap.size w wk) ∧ Hid (pcs mm = pcs m ++ (cs.take k).map fun c => (c, x.r)) ∧ Hid (Spn.Row w.heap.size cs (.slice co k9 cc) wk) ∧ Hid (Bx3 x kp wk) ∧ Hid (∀ g, ov.ownBlock = some g → (Value.slice co k9 cc).ownBlock ≠ some g) ∧ Hid (ov.ownBlock ≠ some kp)) (fun _ kk _ => (k9 - (intOf kk).toNat))
      case atStart => exact ⟨0, m, rfl, by omega, HO1, HB1, hide (by simp), HROW, HX1, HAP, HNP⟩
      case round =>
        rename World => wk
        obtain ⟨k, mm, rfl, hk, HOK, HBK, HPK, HC, HXK, HAPK, HNPK⟩ := hrel
        clear HO1 HB1 HROW HX1 HAP HNP
        rcases Nat.lt_or_ge k k9 with hkk | hkk
        · have g2 : (k : Int) < (k9 : Int) := by omega
          have hkl : k < cs.length := by rw [← HK9.out]; exact hkk
          have HMML := hide (show mm.length ≤ 3000 from by
            have h1 := congrArg List.length HPK.out
            rw [pcs_len, List.length_append, pcs_len, List.length_map, List.length_take] at h1
            have := HML.out
            omega)
          have hh := HC.out.held (by omega)
          rw [← HK9.out] at hh
          obtain ⟨gc, gcap, hgv, _, _, _, _⟩ := hh
          simp only [Value.slice.injEq, true_and] at hgv
          obtain ⟨rfl, rfl⟩ := hgv
          obtain ⟨q0, q1, _, _⟩ := HC.out.at k hkl
          have HTK2 := hide (List.take_succ_eq_append_getElem hkl)
          obtain ⟨c, hc⟩ : ∃ c, c = cs[k] := ⟨_, rfl⟩
          rw [← hc] at HTK2 q0 q1
          clear hc
          have hlts : wk.heap.size < (wk.alloc (.cells #[.int .i64 c.1, .int .i64 c.2] 24)).heap.size := by simp
          obtain ⟨wd, hwd⟩ : ∃ wd, wd = (wk.alloc (.cells #[.int .i64 c.1, .int .i64 c.2] 24)).drew := ⟨_, rfl⟩
          have HQD := hide (show Below wk.heap.size wk wd from by rw [hwd]; exact (below_alloc _ _).drew)
          have HSB := hide (show At c wk.heap.size wd from by rw [hwd]; exact (At.new wk c.1 c.2 _).later (Below.refl (wk.heap.size + 1) _).drew (Nat.lt_succ_self _))
          have HOD := hide (HOK.out.later HQD.out (Nat.le_refl _))
          have HBD := hide (HBK.out.trans (HQD.out.mono HBK.out.size))
          have HCD := hide (HC.out.later HQD.out (Nat.le_refl _))
          have HXD := hide (HXK.out.later HQD.out HXK.out.lt)
          have HGK := hide (show ∀ g, u5.ownBlock = some g → g < wk.heap.size from fun g hg => (HOK.out.o.lt g hg).2)
          have CE := hide (show ∀ u : World, At c wk.heap.size u → Bx3 x kp u → (u.cell? ⟨kp, 2, none⟩ = some (.slice x.ro x.r.length x.rc) ∧ u.cell? ⟨wk.heap.size, 0, none⟩ = some (.int .i64 c.1) ∧ u.cell? ⟨wk.heap.size, 1, none⟩ = some (.int .i64 c.2)) from fun u h1 h2 => ⟨h2.c2, h1.c0, h1.c1⟩)
          clear hlts
          go_wp2_with fail
          refine wp_region_held_drew (S := fun u => u.cell? ⟨kp, 2, none⟩ = some (.slice x.ro x.r.length x.rc) ∧ u.cell? ⟨wk.heap.size, 0, none⟩ = some (.int .i64 c.1) ∧ u.cell? ⟨wk.heap.size, 1, none⟩ = some (.int .i64 c.2)) (by kernel_rfl) (by rw [← hwd]; exact CE.out _ HSB.out HXD.out) (fun hHeld => ?_)
          rw [← hwd] at hHeld ⊢
          clear hwd q0 q1
          refine Man.t1 0 hHeld ?_
          (try simp only [Act.put, Mqa, Mqb, Mqc])
          refine Man.t1 1 hHeld ?_
          (try simp only [Act.put, Mqa, Mqb, Mqc])
          refine Man.t1 2 hHeld ?_
          (try simp only [Act.put, Mqa, Mqb, Mqc])
          refine Man.t1 3 hHeld ?_
          (try simp only [Act.put, Mqa, Mqb, Mqc])
          refine Man.one (i := 4) rfl (by kernel_rfl) (fun K9 hK => ?_)
          go_simp
          with_reducible refine (Cod.copied_any x.r x.ro x.rc _ (HRX.out _ HBD.out) HXL.out HXS.out).mono ?_
          rintro e z1 ⟨ao', c', rfl, hrow, hb⟩
          have HO1 := hide (HOD.out.later hb (Nat.le_refl _))
          have HB1 := hide (HBD.out.trans (hb.mono HBD.out.size))
          have HC1 := hide (HCD.out.later hb (Nat.le_refl _))
          have HX1 := hide (HXD.out.later hb HXD.out.lt)
          have HS1 := hide (HSB.out.later hb HSB.out.lt)
          have HW1 := hide (RowAt.of_owns hrow rfl)
          have HWA := hide (show ∀ ad, ao' = some ad → ad.block < z1.heap.size ∧ u5.ownBlock ≠ some ad.block from fun ad e => by
            have h1 := hrow.lt ad.block (by rw [e]; rfl)
            refine ⟨h1.2, fun e9 => ?_⟩
            have h2 := HGK.out _ e9
            have h3 := HQD.out.size
            omega)
          have HWQ := hide (show ∀ ad, ao' = some ad → w.heap.size ≤ ad.block from fun ad e => by
            have h1 := hrow.lt ad.block (by rw [e]; rfl)
            have := HBD.out.size
            omega)
          clear hb hrow HOD HBD HCD HXD HSB
          refine hK.out _ _ (CE.out _ HS1.out HX1.out) (fun hNew => ?_)
          clear hK K9 hHeld
          have hHeld := hNew
          clear hNew
          (try simp only [Act.put, Mqa, Mqb, Mqc])
          refine Man.t1 5 hHeld ?_
          (try simp only [Act.put, Mqa, Mqb, Mqc])
          refine Man.one (i := 6) rfl (by kernel_rfl) (fun K9 hK => ?_)
          go_simp
          obtain ⟨y, hy⟩ : ∃ y : Pm, y = ⟨c, x.r, ao', c'⟩ := ⟨_, rfl⟩
          have HY1 := hide (show y.pc = (c, x.r) from by rw [hy]; rfl)
          have HWY := hide (show RowAt y.r y.sl z1 from by rw [hy]; exact HW1.out)
          have HWB := hide (show ∀ ad, y.ro = some ad → ad.block < z1.heap.size ∧ u5.ownBlock ≠ some ad.block from by rw [hy]; exact HWA.out)
          have HWE := hide (show ∀ ad, y.ro = some ad → w.heap.size ≤ ad.block from by rw [hy]; exact HWQ.out)
          obtain ⟨z2, hz2⟩ : ∃ z2, z2 = z1.alloc (.cells #[.int .i64 c.1, .int .i64 c.2, .slice ao' x.r.length c'] 56) := ⟨_, rfl⟩
          have HP2 := hide (show PcsAt [y] (.slice (some ⟨z1.heap.size, 0, none⟩) 1 1) z2 from by rw [hz2, hy]; exact one3_at z1 ⟨c, x.r, ao', c'⟩ _ rfl)
          have HQ2 := hide (show Below z1.heap.size z1 z2 from by rw [hz2]; exact below_alloc _ _)
          have HO2 := hide (HO1.out.later HQ2.out (Nat.le_refl _))
          have HB2 := hide (HB1.out.trans (HQ2.out.mono HB1.out.size))
          have HC2 := hide (HC1.out.later HQ2.out (Nat.le_refl _))
          have HX2 := hide (HX1.out.later HQ2.out HX1.out.lt)
          have HS2 := hide (HS1.out.later HQ2.out HS1.out.lt)
          have HW2 := hide (HWY.out.later HQ2.out)
          have HWC := hide (show ∀ ad, y.ro = some ad → ad.block < z2.heap.size ∧ u5.ownBlock ≠ some ad.block from fun ad e => ⟨Nat.lt_of_lt_of_le (HWB.out ad e).1 HQ2.out.size, (HWB.out ad e).2⟩)
          rw [← hz2]
          clear hz2 HQ2 hy HO1 HB1 HC1 HX1 HS1 HW1 HWA HWY HWB
          refine hK.out _ _ (CE.out _ HS2.out HX2.out) (fun hNew => ?_)
          clear hK K9 hHeld
          have hHeld := hNew
          clear hNew
          (try simp only [Act.put, Mqa, Mqb, Mqc])
          refine Man.one (i := 7) rfl (by kernel_rfl) (fun K9 hK => ?_)
          refine oper_if (by rfl) ?_
          refine oper_row3 (l := mm) (m := [y]) tyP _ _ rfl rfl rfl HO2.out.o HP2.out (by have := HMML.out; simp; omega) HB2.out.size (fun u z3 hu hg hob => ?_)
          have HO3 := hide (HO2.out.app HW2.out HWC.out HWE.out hu hg hob)
          have HB3 := hide (HB2.out.grown hg HB2.out.size (fun g hgg => (HO2.out.o.lt g hgg).1))
          have HC3 := hide (HC2.out.kept (fun g hgg => hg.block g (HC2.out.lt g hgg).2 (fun e9 => HAPK.out g e9.symm hgg)))
          have HX3 := hide (HX2.out.kept hg.size (hg.block kp HX2.out.lt (fun e9 => HNPK.out e9.symm)))
          have HS3 := hide (show At c wk.heap.size z3 from by
            have e : z3.heap[wk.heap.size]? = z2.heap[wk.heap.size]? := hg.block _ HS2.out.lt (fun e9 => by have := HGK.out _ e9.symm; omega)
            exact ⟨by rw [World.cell?_of_block (a := ⟨wk.heap.size, 0, none⟩) e]; exact HS2.out.c0, by rw [World.cell?_of_block (a := ⟨wk.heap.size, 1, none⟩) e]; exact HS2.out.c1, by rw [World.frozen?_of_block (a := ⟨wk.heap.size, 0, none⟩) e]; exact HS2.out.z, by rw [World.frozen?_of_block (a := ⟨wk.heap.size, 1, none⟩) e]; exact HS2.out.z1, Nat.lt_of_lt_of_le HS2.out.lt hg.size⟩)
          have HAP3 := hide (show ∀ g, u.ownBlock = some g → (Value.slice (some ⟨gc, 0, none⟩) k9 cc).ownBlock ≠ some g from fun g hgu e9 => by
            rcases hob with h9 | h9
            · rw [h9] at hgu; exact HAPK.out g hgu e9
            · rw [h9] at hgu
              have := Option.some.inj hgu
              have := (HC2.out.lt g e9).2
              omega)
          have HNP3 := hide (show u.ownBlock ≠ some kp from fun e9 => by
            rcases hob with h9 | h9
            · rw [h9] at e9; exact HNPK.out e9
            · rw [h9] at e9
              have := Option.some.inj e9
              have := HX2.out.lt
              omega)
          have HP3 := hide (show pcs (mm ++ [y]) = pcs m ++ (cs.take (k + 1)).map fun c => (c, x.r) from by
            rw [pcs_app, HPK.out, HTK2.out, List.map_append, List.append_assoc]
            congr 2
            simp only [pcs, List.map_cons, List.map_nil, HY1.out])
          clear hu hg hob HO2 HB2 HC2 HX2 HS2 HW2 HWC HP2
          refine hK.out _ _ (CE.out _ HS3.out HX3.out) (fun hNew => ?_)
          clear hK K9 hHeld
          have hHeld := hNew
          clear hNew
          (try simp only [Act.put, Mqa, Mqb, Mqc])
          refine Man.t1 8 hHeld ?_
          (try simp only [Act.put, Mqa, Mqb, Mqc])
          refine wpAnyH_done (by kernel_rfl) ?_ _
          go_wp2_with fail
          go_roundw
          case rel => exact ⟨k + 1, _, by go_num, by omega, HO3, HB3, HP3, HC3, HX3, HAP3, HNP3⟩
          case measure => simp [intOf]; omega
        · obtain rfl : k = k9 := by omega
          have g2 : ¬ (k : Int) < (k : Int) := by omega
          have HP2 := hide (show pcs mm = toldP (l.take (i + 1)) f from by
            have h9 := HPK.out
            rw [HK9.out, List.take_length] at h9
            rw [h9, HP.out, HTK.out])
          go_wp2_with fail
          go_roundw
          case rel => exact ⟨i + 1, _, by go_num, by omega, HOK, HBK, HP2⟩
          case measure => simp [intOf]; omega
    · obtain rfl : i = n := by omega
      have g1 : ¬ (i : Int) < (i : Int) := by omega
      have HE := hide (show pcs m = toldP l f from by rw [HP.out, HN.out, List.take_length])
      go_wp2_with fail
      go_ret
      exact ⟨m, u5, rfl, HO.out, HE.out, HB.out⟩
end Prd
end Go.Proofs.Ytoacombaddknfaa
