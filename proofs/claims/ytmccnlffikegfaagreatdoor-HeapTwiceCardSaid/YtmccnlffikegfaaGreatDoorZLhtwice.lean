/- HeapTwice is proved: for every script and text the law returns true and its arguments read as they did. No other condition. -/
import Derived.Test.YtmccnlffikegfaaGreatDoorZNfto
import Derived.Test.YtmccnlffikegfaaGreatDoorZNi
import Derived.Test.YtmccnlffikegfaaGreatDoorZFrdto
import Derived.Deep.DeepCutAuto
import Derived.Deep.CutBlock
import Derived.WideKeyPair
import Derived.SizedLaws
namespace Go.Proofs.YtmccnlffikegfaaGreatDoor
open Go.ChangeShapes Go.WideShapes Go.ChangeAt Go.RowKit
open Go.ChangeMaps (open_string shut_string)
namespace LaHeapTwice
open Pgr Hep
open Dsk (PD Mine KeepQ Only pad zeros cell_later below_keeps)
open Crc (S S_of S_size)
theorem need_few {n : Nat} (h : n ≤ 250) : need n ≤ 2 := by unfold need; omega
theorem need_some {n : Nat} (h : n ≤ 1000) : need n ≤ 8 := by unfold need; omega
theorem pgs_cons (r : Rec) (A : List Rec) : (pgs (r :: A)).length = r.1.length + (pgs A).length := by show (r.1 ++ pgs A).length = _; rw [List.length_append]
theorem least_in {N : Nat} {U l : List Nat} (h : Least N U l) (hl : 0 < l.length) : l.headD 0 ∉ U ∧ l.headD 0 ∈ l := by
  cases l with
  | nil => cases hl
  | cons a l => exact ⟨h.1.2.2.1, by simp⟩
set_option maxHeartbeats 16000000 in
set_option maxRecDepth 100000 in
theorem law_any (l : List Opv) (v0 : Value) (s : ByteArray) (w : World) (h : OpsAt l v0 w) :
    Calls Tryz.prog 7 #[v0, .string s] w fun e w' => e = .returned (.bool true) ∧ Below w.heap.size w w' := by
  obtain ⟨lo, lc, rfl, hlc, hlm⟩ := h.form
  obtain ⟨ll, hll⟩ : ∃ n, n = l.length := ⟨_, rfl⟩
  have HLL := hidm hll
  have HSL := hidm h
  rw [← hll]
  have hll2 : ll ≤ 9223372036854775807 := by omega
  have N0 := hidm (show Calls Tryz.prog 8 #[.int .i64 100] w fun e w' => BeginP 100 w e w' from begin_any 100 (by omega) w)
  clear h hll hlc hlm
  by_cases hbig : 1000 < s.size
  · have g1 : (1000 : Int) < (s.size : Int) := by omega
    clear hbig
    go_enter Tryz.func7, Tryz.ntmps7
    go_wp2_with fail
    refine N0.out.mono ?_
    rintro e w1 ⟨P, L, D, B, Q, rfl, h1⟩
    have HB1 := hidm h1.bel
    clear h1 N0
    go_wp2_with fail
    refine (known_any _).mono ?_
    rintro e wk ⟨rfl, hb⟩
    have HB := hidm (HB1.out.trans (hb.mono HB1.out.size))
    clear hb
    go_wp2_with fail
    go_ret
    exact ⟨by trivial, HB.out⟩
  · have g1 : ¬ (1000 : Int) < (s.size : Int) := by omega
    have HS9 := hidm (show s.data.toList.length ≤ 1000 from by rw [Dsk.len_eq]; omega)
    have hss := S_of s
    have hs9 := HS9.out
    clear HS9
    obtain ⟨sb, hsb⟩ : ∃ x, x = s.data.toList := ⟨_, rfl⟩
    rw [← hsb] at hss hs9
    have HS9 := hidm hs9
    have HSS := hidm (show S sb = s from hss)
    clear hss hs9 hsb
    clear hbig
    go_enter Tryz.func7, Tryz.ntmps7
    go_wp2_with fail
    refine N0.out.mono ?_
    rintro e w1 ⟨P, L, D, B, Q, rfl, h1⟩
    have H1 := hidm h1.any
    clear h1 N0
    go_upto_block 0 with fail
    go_cut [7] (fun _ wx => ∃ (G : Pages) (A : List Rec), Hid (Hp w Q B P L D 8 100 2000 true (fun _ => zeros) 100 G 0 A wx ∧ (pgs A).length ≤ 40))
    case first =>
      go_wp2_with fail
      go_loopw [7] (fun ii wr => ∃ i : Nat, ii = .int .i64 (i : Int) ∧ i ≤ ll ∧ i ≤ 20 ∧ Hid (∃ (G : Pages) (A : List Rec), Hp w Q B P L D 8 100 2000 true (fun _ => zeros) 100 G 0 A wr ∧ (pgs A).length ≤ 2 * i)) (fun ii _ => ll - (intOf ii).toNat)
      case atStart => exact ⟨0, rfl, by omega, by omega, hidm ⟨_, [], H1.out, by simp [pgs]⟩⟩
      case round =>
        rename World => wr
        obtain ⟨i, rfl, hi, hi2, HX⟩ := hrel
        clear H1
        by_cases hlt : i < ll ∧ i < 20
        · obtain ⟨hlt, hlt2⟩ := hlt
          have f1 : (i : Int) < (ll : Int) := by omega
          have f2 : (i : Int) < 20 := by omega
          obtain ⟨G, A, hp, hA⟩ := HX.out
          have HP := hidm hp
          have HA := hidm hA
          clear HX
          have hil : i < l.length := by rw [← HLL.out]; exact hlt
          obtain ⟨b', o, cp, he, hbl, q0, q1, q2⟩ := HSL.out.at i hil
          rw [← HLL.out] at he
          simp only [Value.slice.injEq] at he
          obtain ⟨rfl, -, rfl⟩ := he
          obtain ⟨x, hx⟩ : ∃ x, x = l[i] := ⟨_, rfl⟩
          rw [← hx] at q0 q1 q2
          have c0 := (hp.bel.cell (p := ⟨b', o + i * 3, none⟩) hbl).trans q0
          have c2 := (hp.bel.cell (p := ⟨b', o + i * 3 + 2, none⟩) hbl).trans q2
          obtain ⟨xk, hxk⟩ : ∃ a, a = x.kind := ⟨_, rfl⟩
          obtain ⟨xs, hxs⟩ : ∃ a, a = x.s := ⟨_, rfl⟩
          rw [← hxk] at c0
          rw [← hxs] at c2
          obtain ⟨i2, hi3⟩ : ∃ i2, i2 = i + 1 := ⟨_, rfl⟩
          have e1 : (i : Int) + 1 = (i2 : Int) := by omega
          have e1w : IntKind.i64.wrap (i2 : Int) = (i2 : Int) := by simp only [IntKind.wrap_i64]; omega
          have HI2 := hidm hi3
          have HIK := hidm (show i2 ≤ ll ∧ i2 ≤ 20 ∧ i < 20 from by omega)
          clear hi3 hx hxk hxs q0 q1 q2 hp hA hil hbl hi hi2
          by_cases hk0 : xk = 0
          · subst hk0
            by_cases hs2 : xs.size ≤ 250
            · have g2 : (xs.size : Int) ≤ 250 := by omega
              have C := HP.out.put xs.data.toList (by rw [Dsk.len_eq]; omega) (by
                have h1 := need_few (n := xs.data.toList.length) (by rw [Dsk.len_eq]; exact hs2)
                have := HA.out; have := HIK.out; omega)
              rw [S_of] at C
              have C := hidm C
              have HN2 := hidm (need_few (n := xs.data.toList.length) (by rw [Dsk.len_eq]; exact hs2))
              go_wp2_with fail
              refine C.out.mono ?_
              rintro e w2 ⟨l2, G2, rfl, hl2, _, hp2, _⟩
              have HX2 := hidm (show ∃ (G : Pages) (A : List Rec), Hp w Q B P L D 8 100 2000 true (fun _ => zeros) 100 G 0 A w2 ∧ (pgs A).length ≤ 2 * i2 from ⟨_, _, hp2.any, by rw [pgs_cons, HI2.out]; have := HA.out; have := HN2.out; show l2.length + _ ≤ _; omega⟩)
              clear hl2 hp2 C
              go_wp2_with fail
              go_roundw
              case rel => exact ⟨i2, rfl, HIK.out.1, HIK.out.2.1, HX2⟩
              case measure => have := HI2.out; simp [intOf]; omega
            · have g2 : ¬ (xs.size : Int) ≤ 250 := by omega
              go_wp2_with fail
              go_roundw
              case rel => exact ⟨i2, rfl, HIK.out.1, HIK.out.2.1, hidm ⟨G, A, HP.out, by have := HA.out; have := HI2.out; omega⟩⟩
              case measure => have := HI2.out; simp [intOf]; omega
          · have g2 : (xk == 0) = false := by simpa using hk0
            clear hk0
            go_wp2_with fail
            go_roundw
            case rel => exact ⟨i2, rfl, HIK.out.1, HIK.out.2.1, hidm ⟨G, A, HP.out, by have := HA.out; have := HI2.out; omega⟩⟩
            case measure => have := HI2.out; simp [intOf]; omega
        · have HE := hidm (show ∃ (G : Pages) (A : List Rec), Hid (Hp w Q B P L D 8 100 2000 true (fun _ => zeros) 100 G 0 A wr ∧ (pgs A).length ≤ 40) from by
            obtain ⟨G, A, hp, hA⟩ := HX.out
            exact ⟨G, A, hidm ⟨hp, by omega⟩⟩)
          rcases Nat.lt_or_ge i ll with hlt2 | hge
          · obtain rfl : i = 20 := by omega
            have f1 : (20 : Int) < (ll : Int) := by omega
            clear hlt hi2
            go_wp2_with fail
            go_meet
            exact HE.out
          · obtain rfl : i = ll := by omega
            have f1 : ¬ (i : Int) < (i : Int) := by omega
            clear hlt hi2
            go_wp2_with fail
            go_meet
            exact HE.out
    case rest =>
    rename World => wc
    obtain ⟨G, A, HX⟩ := hcut
    have H2 := hidm HX.out.1
    have HA := hidm HX.out.2
    clear HX H1
    have HND := hidm (need_some HS9.out)
    obtain ⟨fr, hfr⟩ : ∃ x, x = 100 - (2 + (pgs A).length) := ⟨_, rfl⟩
    have C := H2.out.frees
    rw [← hfr] at C
    have HFR := hidm hfr
    have C := hidm C
    clear hfr
    go_wp2_with fail
    refine C.out.mono ?_
    rintro e w2 ⟨rfl, hb⟩
    have H3 := hidm (H2.out.later hb)
    clear hb H2 C
    have C := H3.out.put sb (by have := HS9.out; omega) (by have := HND.out; have := HA.out; omega)
    rw [HSS.out] at C
    have C := hidm C
    go_wp2_with fail
    refine C.out.mono ?_
    rintro e w3 ⟨la, G3, rfl, hla, _, hp, _⟩
    have H4 := hidm hp.any
    have HLA := hidm hla
    have HPA := hidm (show (pgs ((la, sb) :: A)).length = la.length + (pgs A).length from pgs_cons _ _)
    obtain ⟨ia, hia⟩ : ∃ x, x = la.headD 0 := ⟨_, rfl⟩
    rw [← hia]
    have HIA := hidm hia
    clear hla hp C H3 hia
    have C := H4.out.put sb (by have := HS9.out; omega) (by rw [HPA.out]; have := HND.out; have := HA.out; have := HLA.out; omega)
    rw [HSS.out] at C
    have C := hidm C
    go_wp2_with fail
    refine C.out.mono ?_
    rintro e w4 ⟨lb, G4, rfl, hlb, hleb, hp, _⟩
    obtain ⟨ib, hib⟩ : ∃ x, x = lb.headD 0 := ⟨_, rfl⟩
    have hne : ia ≠ ib := fun e => by
      have h1 := (least_in hleb (by rw [hlb]; exact need_pos _)).1
      rw [← hib, ← e] at h1
      refine h1 (List.mem_append.2 (.inl ?_))
      rw [HIA.out]
      cases la with
      | nil => have h9 := HLA.out; have := need_pos sb.length; rw [← h9] at this; cases this
      | cons a t => simp
    have H5 := hidm (hp.any.perm (List.Perm.swap (la, sb) (lb, sb) A))
    have HLB := hidm hlb
    rw [← hib]
    have HIB := hidm hib
    have HNE := hidm hne
    have hnei : ((ia : Int) != (ib : Int)) = true := by simp only [bne, Bool.not_eq_true', beq_eq_false_iff_ne]; omega
    clear hlb hp C H4 hib hleb hne
    have C := hidm (H5.out.drop (.inl rfl) ia HIA.out.symm)
    go_wp2_with fail
    refine C.out.mono ?_
    rintro e w5 ⟨rfl, ⟨G5, hp⟩, hgn, _⟩
    have H6 := hidm hp.any
    have HN := hidm hgn
    clear hp hgn C H5
    have C := H6.out.get (r := (lb, sb)) (by simp) ib HIB.out.symm
    rw [show S (((lb, sb) : Rec).2) = s from HSS.out] at C
    have C := hidm C
    go_wp2_with fail
    refine C.out.mono ?_
    rintro e w6 ⟨rfl, hb⟩
    have H7 := hidm (H6.out.later hb)
    have HN2 := hidm (HN.out.later hb)
    clear hb H6 C HN
    go_wp2_with fail
    refine (HN2.out w6 (Below.refl _ _)).mono ?_
    rintro e w7 ⟨rfl, hb⟩
    have H8 := hidm (H7.out.later hb)
    clear hb H7 HN2
    have C := hidm (H8.out.drop (.inl rfl) ib HIB.out.symm)
    go_wp2_with fail
    refine C.out.mono ?_
    rintro e w8 ⟨rfl, ⟨G8, hp⟩, _, _⟩
    have H9 := hidm hp.any
    clear hp C H8
    have C := H9.out.frees
    rw [← HFR.out] at C
    have C := hidm C
    go_wp2_with fail
    refine C.out.mono ?_
    rintro e w9 ⟨rfl, hb⟩
    have H10 := hidm (H9.out.later hb)
    clear hb H9 C
    go_wp2_with fail
    refine (known_any _).mono ?_
    rintro e wk ⟨rfl, hb⟩
    have HB := hidm (H10.out.bel.trans (hb.mono H10.out.bel.size))
    clear hb
    go_wp2_with fail
    go_ret
    exact ⟨by trivial, HB.out⟩
theorem laidOut : laidOutB Tryz.prog = true := by kernel_rfl
set_option maxRecDepth 100000 in
theorem contract (H : Type) (enc : TypeId × Value → H) (W : World) (base : Nat) (args : Array Value) (ds gs : List (DataW H)) (before : List MemPlace)
    (hval : ∀ (j : Nat) t v, Tryz.f7.params[j]? = some t → args[j]? = some v → Value.okWide Tryz.prog W .any base t v)
    (hW : DataW.Whole enc Tryz.prog Tryz.f7.params.toList Rows.heapTwiceSpec.vars false W args.toList ds gs before) :
    Calls Tryz.prog 7 args W fun e W' => ∃ v, e = .returned v ∧ Rows.heapTwiceSpec.post enc Tryz.prog Tryz.f7 false true false false W args v W' := by
  have hW' := hW
  obtain ⟨p, q, hA0, hV, rfl, hfz, hnd⟩ := hW
  have hA : DataW.TrodAll enc Tryz.prog W 0 (fun _ => true) true Tryz.f7.params.toList args.toList ds p := hA0
  rw [Tryz.params7] at hA hval
  obtain ⟨v0, vs0, d0, ds0, p0, q0, hargs, rfl, rfl, h0, r0⟩ := trodAll_cons hA
  obtain ⟨v1, vs1, d1, ds1, p1, q1, rfl, rfl, rfl, h1, r1⟩ := trodAll_cons r0
  obtain ⟨rfl, rfl, rfl⟩ := trodAll_nil r1
  obtain rfl : args = #[v0, v1] := by cases args; simp_all
  obtain ⟨rfl, rfl⟩ := trodVars_none hV
  obtain ⟨l, hml⟩ := Hep.open_ops (hval 0 22 v0 rfl rfl) h0
  obtain ⟨s, rfl, hd1, hp1, ws⟩ := open_string Tryz.underlying9 (hval 1 9 v1 rfl rfl) h1
  clear hA0
  simp only [List.append_nil] at hW'
  have hlt : ∀ x ∈ p0 ++ p1, x.block < W.heap.size := fun x hx => hW'.lt x (by simpa using hx)
  have walk := law_any l _ s W hml
  refine walk.mono fun e W' ⟨he, hg⟩ => ?_
  subst he
  refine ⟨_, rfl, Fr.post_made (pa := p0 ++ p1) (pv := []) hW' (fun _ _ _ => trodAll_cons_mk (shut_bool Tryz.underlying4 _) trodAll_mk0) (fun sp hsp => ?_) (fun _ _ => rfl) (by simp) hg (ok_one (by kernel_rfl) rfl (okWide_bool_mk Tryz.underlying4 _))⟩
  have g0 : DataW.Trod enc Tryz.prog W' 0 sp true 22 _ d0 p0 := WideElems.Trod_stays laidOut (by kernel_rfl) (of_decide_eq_true (by kernel_rfl)) h0 (fun x hx => hg.same (hlt x (by simp [hx]))) (fun x hx => hsp x (by simp [hx]))
  have g1 : DataW.Trod enc Tryz.prog W' 0 sp true 9 _ d1 p1 := WideElems.Trod_stays laidOut (by kernel_rfl) (of_decide_eq_true (by kernel_rfl)) h1 (fun x hx => hg.same (hlt x (by simp [hx]))) (fun x hx => hsp x (by simp [hx]))
  have hT := (trodAll_cons_mk g0 (trodAll_cons_mk g1 trodAll_mk0))
  simp only [List.append_nil] at hT
  exact hT
set_option maxRecDepth 100000 in
theorem reads (os : Os) {H : Type} (enc : TypeId × Value → H) : ∃ places, DataW.whole enc Tryz.prog ((World.laidAll Tryz.prog os Rows.heapTwiceRow.laid).forCall (fun _ _ => 0) ⟨#[], #[.slice none 0 0, .string ⟨#[]⟩], []⟩).memory Tryz.f7.params.toList Rows.heapTwiceSpec.vars false (#[.slice none 0 0, .string ⟨#[]⟩] : Array Value).toList 8 = some ([.nil, .lit (.string [])], [], places) :=
  ⟨[], by kernel_rfl⟩
set_option maxRecDepth 100000 in
theorem lifted (os : Os) (started : os.Started) (H : Type) (enc : TypeId × Value → H) (F : Stop.Interp) :
    ReturnsInHanded {} Tryz.checked os 7 .any ((OpenSpec.ofChange Rows.heapTwiceSpec).preRow enc Tryz.prog Tryz.f7 Rows.heapTwiceRow.domain false Rows.heapTwiceRow.laid) (((OpenSpec.ofChange Rows.heapTwiceSpec).at F).post enc Tryz.prog Tryz.f7 false true false false) := by
  obtain ⟨places, hx⟩ := reads os enc
  refine returnsInHanded_of_row (C := Tryz.checked) (s := OpenSpec.ofChange Rows.heapTwiceSpec) Fr.own started (by kernel_rfl) Tryz.func7
    (Fr.wit (World.laidAll Tryz.prog os Rows.heapTwiceRow.laid) #[.slice none 0 0, .string ⟨#[]⟩] (World.laidAll_os _ _ _) (World.shaped_of_ZipB (by kernel_rfl) (by kernel_rfl)) (by kernel_rfl)
      (OpenSpec.preRow_of_cond 8 hx (by kernel_rfl) (fun k hk => by cases hk) (by kernel_rfl) (laidMet_laidAll _ (by kernel_rfl) (by kernel_rfl)))) ?_
  intro W base args ds gs before hval hW _ _ _ _ _ _
  exact contract H enc W base args ds gs before hval hW
set_option maxRecDepth 100000 in
theorem said : Rows.HeapTwiceSaid :=
  OpenClaim.holds_of_cond 7 Tryz.f7 rfl rfl rfl rfl rfl rfl rfl ⟨rfl, rfl, rfl, rfl, rfl⟩ rfl rfl rfl rfl rfl (by kernel_rfl) Tryz.func7 (by kernel_rfl)
    (of_decide_eq_true (by kernel_rfl)) (by unfold Func.isWrapper; first | (rw [if_pos (by decide +kernel)]; kernel_rfl) | (rw [if_neg (by decide +kernel)]; exact ⟨rfl, rfl⟩))
    (fun os started H enc _ F => by rw [OpenClaim.pre_eq_preRow]; exact lifted os started H enc F)
set_option maxRecDepth 100000 in
theorem plain (f : FuncId) (fn : Func) (hf : Tryz.pinned.checked.prog.funcNamed "memoir/memoirlaw10.HeapTwice" = some f) (hfn : Tryz.pinned.checked.prog.funcs[f]? = some fn) :
    true = Tryz.pinned.checked.prog.looks [] ∧ ∀ (j : Nat) t, fn.params[j]? = some t → Tryz.pinned.checked.prog.wantsStandIn t = false := by
  obtain rfl : f = 7 := Option.some.inj ((show Tryz.prog.funcNamed "memoir/memoirlaw10.HeapTwice" = some 7 by kernel_rfl).symm.trans hf) |>.symm
  obtain rfl : fn = Tryz.f7 := (Option.some.inj (Tryz.func7.symm.trans hfn)).symm
  refine ⟨by kernel_rfl, fun j t ht => ?_⟩
  rw [Tryz.params7] at ht
  have hm := Array.mem_of_getElem? ht
  simp only [List.mem_toArray, List.mem_cons, List.not_mem_nil, or_false] at hm
  rcases hm with rfl | rfl
  all_goals first | exact (show Tryz.prog.wantsStandIn 22 = false by kernel_rfl) | exact (show Tryz.prog.wantsStandIn 9 = false by kernel_rfl)
set_option maxRecDepth 100000 in
theorem card : Rows.HeapTwiceCardSaid :=
  Claim7.holds_tied_plain_at .later [] _ _ _ _ said (fun _ h => by cases h) (by kernel_rfl) (fun _ h => by cases h) heapTwice_row_tie rfl ⟨rfl, rfl⟩ (by kernel_rfl) rfl plain (by kernel_rfl)
end LaHeapTwice
end Go.Proofs.YtmccnlffikegfaaGreatDoor
