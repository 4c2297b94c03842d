/- HeapRoots is proved: for every row of texts the law returns true and its arguments read as they did. No other condition. -/
import Derived.Test.YtmccnlffikegfaaGreatDoorZNfto
import Derived.Test.YtmccnlffikegfaaGreatDoorZNi
import Derived.Test.YtmccnlffikegfaaGreatDoorZFrdto
import Derived.Deep.DeepCutAuto
import Derived.Deep.CutBlock
import Derived.WideKeyPair
import Derived.SizedLaws
namespace Go.Proofs.YtmccnlffikegfaaGreatDoor
open Go.ChangeShapes Go.WideShapes Go.ChangeAt Go.RowKit
open Go.ChangeMaps (open_string shut_string)
namespace LaHeapRoots
open Pgr Hep
open Dsk (PD Mine KeepQ Only pad zeros cell_later below_keeps)
open Crc (S S_of S_size)
theorem need_four {n : Nat} (h : n ≤ 500) : need n ≤ 4 := by unfold need; omega
/-- The root's record is the only one, or there is none. -/
def RootSt (x : Nat) (A : List Rec) : Prop := (x = 0 ∧ A = []) ∨ ∃ r : Rec, A = [r] ∧ r.id = x ∧ r.1.length ≤ 4
section
variable {W w w' : World} {Q : Nat → Prop} {B P L D n N K : Nat} {V : Pages} {c : Nat} {G : Pages} {x : Nat} {A : List Rec}
theorem set_root (h : Hp W Q B P L D n 40 K true V c G x A w) (hr : RootSt x A) (s : List UInt8) (hs : s.length ≤ 500) :
    Calls Tryz.prog 11 #[.pointer (some ⟨B, 0, none⟩), .string (S s)] w fun e w' => ∃ (l : List Nat) (G' : Pages), e = .returned (.int .i64 0) ∧ l.length = need s.length ∧ Hp W Q B P L D n 40 K true V (c + 17) G' (l.headD 0) [(l, s)] w' := by
  have h4 := need_four hs
  rcases hr with ⟨rfl, rfl⟩ | ⟨r, rfl, hx, hl⟩
  · refine (h.set_first s (by omega) (by simp [pgs]; omega)).mono fun e w' hh => ?_
    obtain ⟨l, G', he, hl, _, hp, _⟩ := hh
    exact ⟨l, G', he, hl, hp.wide (by omega)⟩
  · refine (h.set_again hx s (by omega) (by simp [pgs]; omega)).mono fun e w' hh => ?_
    obtain ⟨l, G', he, hl, _, hp, _⟩ := hh
    exact ⟨l, G', he, hl, hp.wide (by omega)⟩
/-- A commit: the pages are then as they are. -/
theorem hp_commit (h : Hp W Q B P L D n N K true V c G x A w) (hN : N ≤ 127) (hc : c * 131 / 100 + 1 ≤ n) (hn : n ≤ 998) (hK : K ≤ 700000) :
    Calls Tryz.prog 20 #[.pointer (some ⟨P, 0, none⟩)] w fun e w' => e = .returned (.int .i64 0) ∧ Hp W Q B P L D n N (K + 3000) true G 0 G x A w' := by
  refine (h.g.pg.commit hN hc hn hK).mono fun e w' hh => ?_
  obtain ⟨he, hp, hk⟩ := hh
  exact ⟨he, ⟨hp, h.g.inq, h.g.lo, (hk B h.g.inq).trans h.g.row⟩, h.h, h.us, h.rt⟩
/-- A heap opened anew over the pages that it had. -/
theorem again (h : PvG W Q P L D n N K true V c G w) (hs : Hs N G x A) (hu : ∀ j, j < N → inU G j = true → j < 2 ∨ j ∈ pgs A) (hr : x = 0 ∨ ∃ r ∈ A, r.id = x) :
    Calls Tryz.prog 19 #[.pointer (some ⟨P, 0, none⟩)] w fun e w' => ∃ B Q', e = .returned (.tuple #[.pointer (some ⟨B, 0, none⟩), .int .i64 0]) ∧ Hp W Q' B P L D n N K true V c G x A w' := by
  refine (hopen_old h hs.sz.1 hs.one (by rw [hs.root]; rfl)).mono fun e w' hh => ?_
  obtain ⟨B, Q', he, _, hg, _, _⟩ := hh
  exact ⟨B, Q', he, hg, hs, hu, hr⟩
end
set_option maxHeartbeats 16000000 in
set_option maxRecDepth 100000 in
theorem law_any (l : List (List UInt8)) (v0 : Value) (w : World) (h : StrsAt l v0 w) :
    Calls Tryz.prog 5 #[v0] w fun e w' => e = .returned (.bool true) ∧ Below w.heap.size w w' := by
  obtain ⟨lo, lc, rfl, hlc, hlm⟩ := h.form
  obtain ⟨ll, hll⟩ : ∃ n, n = l.length := ⟨_, rfl⟩
  have HLL := hidm hll
  have HSL := hidm h
  rw [← hll]
  have hll2 : ll ≤ 9223372036854775807 := by omega
  have N0 := hidm (show Calls Tryz.prog 17 #[.int .i64 80] w fun e w' => e = .returned (.tuple #[.pointer (some ⟨w.heap.size + 1, 0, none⟩), .int .i64 0]) ∧ Dsk.Mine w (fun _ => False) (w.heap.size + 1) (Dsk.PD.new 80) w' ∧ Below w.heap.size w w' from Dsk.m_new (W := w) (w := w) 80 (by omega) (by omega) (Below.refl _ _))
  clear h hll hlc hlm
  by_cases hbig : 20 < ll
  · have g1 : (20 : Int) < (ll : Int) := by omega
    clear hbig
    go_enter Tryz.func5, Tryz.ntmps5
    go_wp2_with fail
    refine N0.out.mono ?_
    rintro e w1 ⟨rfl, _, hb1⟩
    have HB1 := hidm hb1
    clear hb1 N0
    go_wp2_with fail
    refine (known_any _).mono ?_
    rintro e wk ⟨rfl, hb⟩
    have HB := hidm (HB1.out.trans (hb.mono HB1.out.size))
    clear hb
    go_wp2_with fail
    go_ret
    exact ⟨by trivial, HB.out⟩
  · have g1 : ¬ (20 : Int) < (ll : Int) := by omega
    have HL20 := hidm (show ll ≤ 20 from by omega)
    clear hbig
    go_enter Tryz.func5, Tryz.ntmps5
    go_wp2_with fail
    refine N0.out.mono ?_
    rintro e w1 ⟨rfl, hm1, hb1⟩
    have R1 := hidm (Re.new (n := 38) (N := 40) (by omega) hm1)
    obtain ⟨D, hD⟩ : ∃ D, D = w.heap.size + 1 := ⟨_, rfl⟩
    rw [← hD] at R1 ⊢
    clear hD hm1 hb1 N0
    go_wp2_with fail
    refine (R1.out.open (by omega) (by omega) (by omega) 40 rfl).mono ?_
    rintro e w2 ⟨P0, L0, rfl, h2, _⟩
    have H2 := hidm (pvg_new (h2.more (K' := 2000) (by omega)))
    clear h2 R1
    go_wp2_with fail
    refine (hopen_new H2.out (by omega) zero_free).mono ?_
    rintro e w3 ⟨B0, Q0, rfl, _, h3, _, _⟩
    have H3 := hidm (Hp.new h3 (by omega))
    clear h3 H2
    go_wp2_with fail
    go_loopw [5, 7, 9] (fun pp hh ii wr => ∃ (P L B i : Nat), pp = .pointer (some ⟨P, 0, none⟩) ∧ hh = .pointer (some ⟨B, 0, none⟩) ∧ ii = .int .i64 (i : Int) ∧ i ≤ ll ∧ Hid (∃ (Q : Nat → Prop) (V : Pages) (c : Nat) (G : Pages) (x : Nat) (A : List Rec), Hp w Q B P L D 38 40 (2000 + 5000 * i) true V c G x A wr ∧ c ≤ 3 ∧ RootSt x A)) (fun _ _ ii _ => ll - (intOf ii).toNat)
    case atStart => exact ⟨P0, L0, B0, 0, rfl, rfl, rfl, by omega, hidm ⟨Q0, _, 3, _, 0, [], H3.out, by omega, .inl ⟨rfl, rfl⟩⟩⟩
    case round =>
      rename World => wr
      obtain ⟨P, L, B, i, rfl, rfl, rfl, hi, HX⟩ := hrel
      clear H3
      rcases Nat.lt_or_ge i ll with hlt | hge
      · have f1 : (i : Int) < (ll : Int) := by omega
        obtain ⟨Q, V, c, G, x, A, hp, hc, hr⟩ := HX.out
        have HP := hidm hp
        have HC := hidm hc
        have HR := hidm hr
        have hil : i < l.length := by rw [← HLL.out]; exact hlt
        obtain ⟨b', o, cp, he, hbl, q0⟩ := HSL.out.at i hil
        rw [← HLL.out] at he
        simp only [Value.slice.injEq] at he
        obtain ⟨rfl, -, rfl⟩ := he
        have CE := hidm (show ∀ z, Below w.heap.size w z → z.cell? ⟨b', o + i, none⟩ = some (.string (S l[i])) from fun z hz => (hz.cell (p := ⟨b', o + i, none⟩) hbl).trans q0)
        obtain ⟨s, hs⟩ : ∃ s, s = l[i] := ⟨_, rfl⟩
        rw [← hs] at CE
        have hsz : (S s).size = s.length := S_size s
        obtain ⟨T, hT⟩ : ∃ T, T = S s := ⟨_, rfl⟩
        rw [← hT] at CE hsz
        have HT := hidm hT
        obtain ⟨sl, hsl⟩ : ∃ x, x = s.length := ⟨_, rfl⟩
        rw [← hsl] at hsz
        have HSL2 := hidm hsl
        have c0 := CE.out wr hp.bel
        obtain ⟨i2, hi3⟩ : ∃ i2, i2 = i + 1 := ⟨_, rfl⟩
        have e1 : (i : Int) + 1 = (i2 : Int) := by omega
        have e1w : IntKind.i64.wrap (i2 : Int) = (i2 : Int) := by simp only [IntKind.wrap_i64]; omega
        have HI2 := hidm hi3
        have HIK := hidm (show i2 ≤ ll ∧ i2 ≤ 20 from by have := HL20.out; omega)
        have HXX := HX
        clear hi3 hs hT hsl q0 hp hc hr hil hbl hi HX
        by_cases hs5 : 500 < sl
        · have g2 : (500 : Int) < (sl : Int) := by omega
          clear hs5
          go_wp2_with fail
          go_roundw
          case rel => exact ⟨P, L, B, i2, rfl, rfl, rfl, HIK.out.1, hidm ⟨Q, V, c, G, x, A, ⟨HP.out.g.more (by rw [HI2.out]; omega), HP.out.h, HP.out.us, HP.out.rt⟩, HC.out, HR.out⟩⟩
          case measure => have := HI2.out; simp [intOf]; omega
        · have g2 : ¬ (500 : Int) < (sl : Int) := by omega
          have HS5 := hidm (show s.length ≤ 500 from by rw [← HSL2.out]; omega)
          clear hs5 HXX
          obtain ⟨wd, hwd⟩ : ∃ wd, wd = wr.drew := ⟨_, rfl⟩
          have HPd := hidm (show Hp w Q B P L D 38 40 (2000 + 5000 * i) true V c G x A wd from by rw [hwd]; exact HP.out.later ((Below.refl _ _).drew))
          have HWD := hidm hwd
          have cd := CE.out wd HPd.out.bel
          have C := set_root HPd.out HR.out s HS5.out
          rw [← HT.out] at C
          have C := hidm C
          have hnd := need_four HS5.out
          obtain ⟨nd, hndd⟩ : ∃ x, x = need s.length := ⟨_, rfl⟩
          rw [← hndd] at hnd
          have HND := hidm hndd
          obtain ⟨fd, hfd⟩ : ∃ x, x = 38 - nd := ⟨_, rfl⟩
          have k1 : 38 - (nd : Int) = (fd : Int) := by omega
          have k2 : IntKind.i64.wrap (fd : Int) = (fd : Int) := by simp only [IntKind.wrap_i64]; omega
          have k3 : ((fd : Int) != (fd : Int)) = false := by simp
          have HFD := hidm (show fd = 38 - nd ∧ nd ≤ 4 from ⟨hfd, hnd⟩)
          clear hndd hfd hnd hwd HP
          go_upto_region 14 with fail
          refine wp_region_held_drew (S := fun z => z.cell? ⟨b', o + i, none⟩ = some (.string T)) (by kernel_rfl) (by rw [← HWD.out]; exact cd) (fun hHeld => ?_)
          rw [← HWD.out] at hHeld ⊢
          clear cd c0
          refine Man.t1 0 hHeld ?_
          (try simp only [Act.put, Mqa, Mqb, Mqc])
          refine Man.t1 1 hHeld ?_
          (try simp only [Act.put, Mqa, Mqb, Mqc])
          refine Man.t1 2 hHeld ?_
          (try simp only [Act.put, Mqa, Mqb, Mqc])
          refine Man.t1 3 hHeld ?_
          (try simp only [Act.put, Mqa, Mqb, Mqc])
          refine Man.t1 4 hHeld ?_
          (try simp only [Act.put, Mqa, Mqb, Mqc])
          refine Man.one (i := 5) rfl (by kernel_rfl) (fun K9 hK => ?_)
          go_simp
          with_reducible refine (C.out).mono ?_
          rintro e w4 ⟨la, G4, rfl, hla, hp⟩
          have H4 := hidm hp
          have HLA := hidm hla
          clear hp hla C HPd
          have hs9 := CE.out w4 H4.out.bel
          refine hK.out _ _ hs9 (fun hNew => ?_)
          clear hK K9 hHeld
          have hHeld := hNew
          clear hNew
          clear hs9
          (try simp only [Act.put, Mqa, Mqb, Mqc])
          refine Man.t1 6 hHeld ?_
          (try simp only [Act.put, Mqa, Mqb, Mqc])
          refine Man.t1 7 hHeld ?_
          (try simp only [Act.put, Mqa, Mqb, Mqc])
          refine Man.t1 8 hHeld ?_
          (try simp only [Act.put, Mqa, Mqb, Mqc])
          refine Man.one (i := 9) rfl (by kernel_rfl) (fun K9 hK => ?_)
          go_simp
          have C := hidm (hp_commit H4.out (by omega) (by have := HC.out; omega) (by omega) (by have := HIK.out; have := HI2.out; omega))
          with_reducible refine (C.out).mono ?_
          rintro e w5 ⟨rfl, hp⟩
          have H5 := hidm hp
          clear hp C H4
          have hs9 := CE.out w5 H5.out.bel
          refine hK.out _ _ hs9 (fun hNew => ?_)
          clear hK K9 hHeld
          have hHeld := hNew
          clear hNew
          clear hs9
          (try simp only [Act.put, Mqa, Mqb, Mqc])
          refine Man.t1 10 hHeld ?_
          (try simp only [Act.put, Mqa, Mqb, Mqc])
          refine Man.t1 11 hHeld ?_
          (try simp only [Act.put, Mqa, Mqb, Mqc])
          refine Man.t1 12 hHeld ?_
          (try simp only [Act.put, Mqa, Mqb, Mqc])
          refine Man.t1 13 hHeld ?_
          (try simp only [Act.put, Mqa, Mqb, Mqc])
          refine Man.t1 15 hHeld ?_
          (try simp only [Act.put, Mqa, Mqb, Mqc])
          refine Man.t1 16 hHeld ?_
          (try simp only [Act.put, Mqa, Mqb, Mqc])
          refine Man.t1 17 hHeld ?_
          (try simp only [Act.put, Mqa, Mqb, Mqc])
          refine Man.t1 18 hHeld ?_
          (try simp only [Act.put, Mqa, Mqb, Mqc])
          refine Man.t1 19 hHeld ?_
          (try simp only [Act.put, Mqa, Mqb, Mqc])
          refine Man.t1 20 hHeld ?_
          (try simp only [Act.put, Mqa, Mqb, Mqc])
          refine Man.one (i := 14) rfl (by kernel_rfl) (fun K9 hK => ?_)
          go_simp
          have C := H5.out.frees
          rw [show 40 - (2 + (pgs [(la, s)]).length) = fd by rw [show (pgs [(la, s)]).length = nd by (show (la ++ []).length = nd; rw [List.append_nil, HLA.out, HND.out])]; have := HFD.out; omega] at C
          have C := hidm C
          with_reducible refine (C.out).mono ?_
          rintro e w6 ⟨rfl, hb6⟩
          have H6 := hidm (H5.out.later hb6)
          clear hb6 C H5
          have hs9 := CE.out w6 H6.out.bel
          refine hK.out _ _ hs9 (fun hNew => ?_)
          clear hK K9 hHeld
          have hHeld := hNew
          clear hNew
          clear hs9
          (try simp only [Act.put, Mqa, Mqb, Mqc])
          refine Man.one (i := 21) rfl (by kernel_rfl) (fun K9 hK => ?_)
          go_simp
          have C := hidm (show Calls Tryz.prog 12 #[.pointer (some ⟨B, 0, none⟩), .int .i64 (sl : Int)] w6 fun e w' => e = .returned (.int .i64 (nd : Int)) ∧ w6 = w' from by rw [HND.out, HSL2.out]; exact H6.out.need s.length (by have := HS5.out; omega))
          with_reducible refine (C.out).mono ?_
          rintro e wz ⟨rfl, hwz⟩
          cases hwz
          clear C
          have hs9 := CE.out w6 H6.out.bel
          refine hK.out _ _ hs9 (fun hNew => ?_)
          clear hK K9 hHeld
          have hHeld := hNew
          clear hNew
          clear hs9
          (try simp only [Act.put, Mqa, Mqb, Mqc])
          refine Man.t1 22 hHeld ?_
          (try simp only [Act.put, Mqa, Mqb, Mqc])
          refine Man.t1 23 hHeld ?_
          (try simp only [Act.put, Mqa, Mqb, Mqc])
          refine Man.t1 24 hHeld ?_
          (try simp only [Act.put, Mqa, Mqb, Mqc])
          refine wpAnyH_done (by kernel_rfl) ?_ _
          have C := hidm (H6.out.g.pg.crash none 0 (by omega))
          go_wp2_with fail
          refine C.out.mono ?_
          rintro e w7 ⟨rfl, hre, _⟩
          have R7 := hidm hre
          clear hre C
          have HHH := hidm (show Hs 40 G4 (la.headD 0) [(la, s)] ∧ (∀ j, j < 40 → inU G4 j = true → j < 2 ∨ j ∈ pgs [(la, s)]) ∧ (la.headD 0 = 0 ∨ ∃ r ∈ [(la, s)], Rec.id r = la.headD 0) from ⟨H6.out.h, H6.out.us, H6.out.rt⟩)
          clear H6
          go_wp2_with fail
          refine (open_g R7.out (by omega) (by omega) (by have := HIK.out; have := HI2.out; omega) 40 rfl).mono ?_
          rintro e w8 ⟨P2, L2, rfl, hp8, _⟩
          have H8 := hidm hp8
          clear hp8 R7
          go_wp2_with fail
          refine (again H8.out HHH.out.1 HHH.out.2.1 HHH.out.2.2).mono ?_
          rintro e w9 ⟨B2, Q2, rfl, hp9⟩
          have H9 := hidm hp9
          clear hp9 H8
          have C := H9.out.root (r := (la, s)) (by simp) rfl
          rw [show S (((la, s) : Rec).2) = T from HT.out.symm] at C
          have C := hidm C
          go_wp2_with fail
          refine C.out.mono ?_
          rintro e w10 ⟨rfl, hb⟩
          have H10 := hidm (H9.out.later hb)
          have c10 := CE.out w10 H10.out.bel
          clear hb C H9
          have HFIN := hidm (show ∃ (Q : Nat → Prop) (V : Pages) (c : Nat) (G : Pages) (x : Nat) (A : List Rec), Hp w Q B2 P2 L2 D 38 40 (2000 + 5000 * i2) true V c G x A w10 ∧ c ≤ 3 ∧ RootSt x A from
            ⟨Q2, G4, 0, G4, la.headD 0, [(la, s)], ⟨H10.out.g.more (by rw [HI2.out]; omega), H10.out.h, H10.out.us, H10.out.rt⟩, by omega, .inr ⟨(la, s), rfl, rfl, by show la.length ≤ 4; rw [HLA.out]; exact need_four HS5.out⟩⟩)
          go_wp2_with fail
          go_roundw
          case rel => exact ⟨P2, L2, B2, i2, rfl, rfl, rfl, HIK.out.1, HFIN⟩
          case measure => have := HI2.out; simp [intOf]; omega
      · obtain rfl : i = ll := by omega
        have f1 : ¬ (i : Int) < (i : Int) := by omega
        have HB1 := hidm (show Below w.heap.size w wr from by
          obtain ⟨Q, V, c, G, x, A, hp, _, _⟩ := HX.out
          exact hp.bel)
        clear HX
        go_wp2_with fail
        refine (known_any _).mono ?_
        rintro e wk ⟨rfl, hb⟩
        have HB := hidm (HB1.out.trans (hb.mono HB1.out.size))
        clear hb
        go_wp2_with fail
        go_ret
        exact ⟨by trivial, HB.out⟩
theorem laidOut : laidOutB Tryz.prog = true := by kernel_rfl
set_option maxRecDepth 100000 in
theorem contract (H : Type) (enc : TypeId × Value → H) (W : World) (base : Nat) (args : Array Value) (ds gs : List (DataW H)) (before : List MemPlace)
    (hval : ∀ (j : Nat) t v, Tryz.f5.params[j]? = some t → args[j]? = some v → Value.okWide Tryz.prog W .any base t v)
    (hW : DataW.Whole enc Tryz.prog Tryz.f5.params.toList Rows.heapRootsSpec.vars false W args.toList ds gs before) :
    Calls Tryz.prog 5 args W fun e W' => ∃ v, e = .returned v ∧ Rows.heapRootsSpec.post enc Tryz.prog Tryz.f5 false true false false W args v W' := by
  have hW' := hW
  obtain ⟨p, q, hA0, hV, rfl, hfz, hnd⟩ := hW
  have hA : DataW.TrodAll enc Tryz.prog W 0 (fun _ => true) true Tryz.f5.params.toList args.toList ds p := hA0
  rw [Tryz.params5] at hA hval
  obtain ⟨v0, vs0, d0, ds0, p0, q0, hargs, rfl, rfl, h0, r0⟩ := trodAll_cons hA
  obtain ⟨rfl, rfl, rfl⟩ := trodAll_nil r0
  obtain rfl : args = #[v0] := by cases args; simp_all
  obtain ⟨rfl, rfl⟩ := trodVars_none hV
  obtain ⟨l, hml⟩ := Hep.open_strs (hval 0 28 v0 rfl rfl) h0
  clear hA0
  simp only [List.append_nil] at hW'
  have hlt : ∀ x ∈ p0, x.block < W.heap.size := fun x hx => hW'.lt x (by simpa using hx)
  have walk := law_any l _ W hml
  refine walk.mono fun e W' ⟨he, hg⟩ => ?_
  subst he
  refine ⟨_, rfl, Fr.post_made (pa := p0) (pv := []) hW' (fun _ _ _ => trodAll_cons_mk (shut_bool Tryz.underlying4 _) trodAll_mk0) (fun sp hsp => ?_) (fun _ _ => rfl) (by simp) hg (ok_one (by kernel_rfl) rfl (okWide_bool_mk Tryz.underlying4 _))⟩
  have g0 : DataW.Trod enc Tryz.prog W' 0 sp true 28 _ d0 p0 := WideElems.Trod_stays laidOut (by kernel_rfl) (of_decide_eq_true (by kernel_rfl)) h0 (fun x hx => hg.same (hlt x (by simp [hx]))) (fun x hx => hsp x (by simp [hx]))
  have hT := (trodAll_cons_mk g0 trodAll_mk0)
  simp only [List.append_nil] at hT
  exact hT
set_option maxRecDepth 100000 in
theorem reads (os : Os) {H : Type} (enc : TypeId × Value → H) : ∃ places, DataW.whole enc Tryz.prog ((World.laidAll Tryz.prog os Rows.heapRootsRow.laid).forCall (fun _ _ => 0) ⟨#[], #[.slice none 0 0], []⟩).memory Tryz.f5.params.toList Rows.heapRootsSpec.vars false (#[.slice none 0 0] : Array Value).toList 8 = some ([.nil], [], places) :=
  ⟨[], by kernel_rfl⟩
set_option maxRecDepth 100000 in
theorem lifted (os : Os) (started : os.Started) (H : Type) (enc : TypeId × Value → H) (F : Stop.Interp) :
    ReturnsInHanded {} Tryz.checked os 5 .any ((OpenSpec.ofChange Rows.heapRootsSpec).preRow enc Tryz.prog Tryz.f5 Rows.heapRootsRow.domain false Rows.heapRootsRow.laid) (((OpenSpec.ofChange Rows.heapRootsSpec).at F).post enc Tryz.prog Tryz.f5 false true false false) := by
  obtain ⟨places, hx⟩ := reads os enc
  refine returnsInHanded_of_row (C := Tryz.checked) (s := OpenSpec.ofChange Rows.heapRootsSpec) Fr.own started (by kernel_rfl) Tryz.func5
    (Fr.wit (World.laidAll Tryz.prog os Rows.heapRootsRow.laid) #[.slice none 0 0] (World.laidAll_os _ _ _) (World.shaped_of_ZipB (by kernel_rfl) (by kernel_rfl)) (by kernel_rfl)
      (OpenSpec.preRow_of_cond 8 hx (by kernel_rfl) (fun k hk => by cases hk) (by kernel_rfl) (laidMet_laidAll _ (by kernel_rfl) (by kernel_rfl)))) ?_
  intro W base args ds gs before hval hW _ _ _ _ _ _
  exact contract H enc W base args ds gs before hval hW
set_option maxRecDepth 100000 in
theorem said : Rows.HeapRootsSaid :=
  OpenClaim.holds_of_cond 5 Tryz.f5 rfl rfl rfl rfl rfl rfl rfl ⟨rfl, rfl, rfl, rfl, rfl⟩ rfl rfl rfl rfl rfl (by kernel_rfl) Tryz.func5 (by kernel_rfl)
    (of_decide_eq_true (by kernel_rfl)) (by unfold Func.isWrapper; first | (rw [if_pos (by decide +kernel)]; kernel_rfl) | (rw [if_neg (by decide +kernel)]; exact ⟨rfl, rfl⟩))
    (fun os started H enc _ F => by rw [OpenClaim.pre_eq_preRow]; exact lifted os started H enc F)
set_option maxRecDepth 100000 in
theorem plain (f : FuncId) (fn : Func) (hf : Tryz.pinned.checked.prog.funcNamed "memoir/memoirlaw10.HeapRoots" = some f) (hfn : Tryz.pinned.checked.prog.funcs[f]? = some fn) :
    true = Tryz.pinned.checked.prog.looks [] ∧ ∀ (j : Nat) t, fn.params[j]? = some t → Tryz.pinned.checked.prog.wantsStandIn t = false := by
  obtain rfl : f = 5 := Option.some.inj ((show Tryz.prog.funcNamed "memoir/memoirlaw10.HeapRoots" = some 5 by kernel_rfl).symm.trans hf) |>.symm
  obtain rfl : fn = Tryz.f5 := (Option.some.inj (Tryz.func5.symm.trans hfn)).symm
  refine ⟨by kernel_rfl, fun j t ht => ?_⟩
  rw [Tryz.params5] at ht
  have hm := Array.mem_of_getElem? ht
  simp only [List.mem_toArray, List.mem_cons, List.not_mem_nil, or_false] at hm
  subst hm
  all_goals first | exact (show Tryz.prog.wantsStandIn 28 = false by kernel_rfl)
set_option maxRecDepth 100000 in
theorem card : Rows.HeapRootsCardSaid :=
  Claim7.holds_tied_plain_at .later [] _ _ _ _ said (fun _ h => by cases h) (by kernel_rfl) (fun _ h => by cases h) heapRoots_row_tie rfl ⟨rfl, rfl⟩ (by kernel_rfl) rfl plain (by kernel_rfl)
end LaHeapRoots
end Go.Proofs.YtmccnlffikegfaaGreatDoor
