/- PeriodPuts: whatever was put and dropped, from nothing on, pieces are right; at each time that row is valid that was put last for it, if it was not dropped since: for all scripts, times. No other condition. -/
import Derived.Test.YtoacombaddknfaaR13
import Derived.Test.YtoacombaddknfaaFra
import Derived.WideKeyPair
import Derived.SizedLaws
namespace Go.Proofs.Ytoacombaddknfaa
open Go.ChangeShapes Go.WideShapes Go.ChangeAt Go.RowKit
open Go.ChangeMaps (open_string shut_string)
namespace LaPeriodPuts
open Prd
open Spn (hide)
open Spn (Sp At below_alloc Right Has)
open Cod (V RowAt S)
theorem atP_mem {α : Type} {l : List (Sp × α)} {t : Int} {r : α} (h : atP l t = some r) : ∃ p, p ∈ l ∧ p.2 = r := by
  induction l with
  | nil => simp [atP] at h
  | cons p l ih =>
    unfold atP at h
    split at h
    · exact ⟨p, by simp, by simpa using h⟩
    · obtain ⟨q, hq, e⟩ := ih h
      exact ⟨q, by simp [hq], e⟩
def rowOf (o : Option (List V)) : List V := o.getD []
theorem rowOf_small {l : List Pm} (hs : Small l) (t : Int) : (rowOf (atR (pcs l) t)).length ≤ 1000000 := by
  unfold rowOf
  cases h : atR (pcs l) t with
  | none => simp
  | some r =>
    unfold atR at h
    split at h
    · obtain ⟨p, hp, e⟩ := atP_mem h
      obtain ⟨x, hx, rfl⟩ := List.mem_map.1 hp
      show r.length ≤ _
      rw [← e]
      exact hs.r x hx
    · cases h
theorem at_one {l : List Pm} {t : Int} {w w' : World} {e : Ending} (h : MAtP l t w e w') : ∃ (ao : Option Addr) (ac : Nat), e = .returned (.tuple #[.slice ao (rowOf (atR (pcs l) t)).length ac, .bool (atR (pcs l) t).isSome]) ∧ RowAt (rowOf (atR (pcs l) t)) (.slice ao (rowOf (atR (pcs l) t)).length ac) w' ∧ Below w.heap.size w w' := by
  obtain ⟨h1, hb⟩ := h
  rcases h1 with ⟨r, ro, rc, h2, h3, h4⟩ | ⟨h2, h3⟩
  · rw [h2]
    exact ⟨ro, rc, h3, h4, hb⟩
  · rw [h2]
    exact ⟨none, 0, h3, ⟨none, 0, rfl, fun hne => absurd rfl hne⟩, hb⟩
/-- What the law holds at place i: is there a row, and which one. -/
def Want (os : List Opv) (t : Int) (w : World) (i : Nat) (b : Bool) (rw : List V) (wo : Option Addr) (wc : Nat) : Prop :=
  atP (steps [] (os.take i)) t = (if b = true then some rw else none) ∧ (b = true → RowAt rw (.slice wo rw.length wc) w ∧ rw.length ≤ 20)
theorem Want.skip {os : List Opv} {t : Int} {w : World} {i : Nat} {b : Bool} {rw : List V} {wo : Option Addr} {wc : Nat} (h : Want os t w i b rw wo wc) (hi : i < os.length)
    (hc : 20 < (os[i]).x.r.length ∨ ¬ Has (os[i]).x.s t ∨ ((os[i]).d = false ∧ ¬ (Right (os[i]).x.s ∧ Prd.Good (os[i]).x.r))) : Want os t w (i + 1) b rw wo wc := by
  refine ⟨?_, h.2⟩
  rw [steps_take hi, at_step (steps_right (os.take i) ok_nil).1, if_pos hc]
  exact h.1
theorem Want.new {os : List Opv} {t : Int} {w : World} {i : Nat} (hi : i < os.length) (hl : ¬ 20 < (os[i]).x.r.length) (hh : Has (os[i]).x.s t) (hg : (os[i]).d = false → Right (os[i]).x.s ∧ Prd.Good (os[i]).x.r)
    (hr : RowAt (os[i]).x.r (os[i]).x.sl w) : Want os t w (i + 1) (!(os[i]).d) (os[i]).x.r (os[i]).x.ro (os[i]).x.rc := by
  refine ⟨?_, fun _ => ⟨hr, by omega⟩⟩
  rw [steps_take hi, at_step (steps_right (os.take i) ok_nil).1, if_neg (fun h9 => by
    rcases h9 with h9 | h9 | ⟨h9, h8⟩
    · exact hl h9
    · exact h9 hh
    · exact h8 (hg h9))]
  cases (os[i]).d <;> simp
theorem ok_single {s : Sp} {r : List V} : Ok Prd.Good [(s, r)] ↔ Right s ∧ Prd.Good r := by
  rw [ok_cons]
  exact ⟨fun h => h.1, fun h => ⟨h, by simp, ok_nil⟩⟩
set_option maxHeartbeats 16000000 in
set_option maxRecDepth 100000 in
theorem walk {os : List Opv} {sv : Value} {w : World} (h : OpsAt os sv w) (hr : OpRows os w) (hi : ∀ o, o ∈ os → o.x.inn) (t : Int) :
    Calls Try.prog 5 #[sv, .int .i64 t] w fun x w' => x = .returned (.bool true) ∧ Below w.heap.size w w' := by
  have CB := hide (build_any putC dropC h hr hi)
  have HA := hide h
  have HR := hide hr
  have HI := hide hi
  obtain ⟨so, sc, rfl, _, hsm⟩ := h.form
  obtain ⟨n, hn⟩ : ∃ n, n = os.length := ⟨_, rfl⟩
  have hnm : n ≤ 9223372036854775807 := by rw [hn]; omega
  rw [← hn] at CB ⊢
  have HN := hide hn
  clear h hr hi hn hsm
  go_enter Try.func5, Try.ntmps5
  go_wp2_with fail
  refine CB.out.mono ?_
  rintro e w1 ⟨m, mv, rfl, hp1, hr1, he1, hl1, hs1, hb⟩
  have HB1 := hide hb
  have HM := hide hp1
  have HMR := hide hr1
  have HMS := hide hs1
  have HME := hide he1
  have HOK := hide (show Ok Prd.Good (pcs m) from by rw [he1]; exact made_ok os)
  have C2 := hide (right_any hp1 hr1 hs1)
  rw [decide_eq_true HOK.out] at C2
  obtain ⟨mo, mc, rfl, _, _⟩ := hp1.form
  clear hb hp1 hr1 he1 hl1 hs1 CB
  go_wp2_with fail
  refine C2.out.mono ?_
  rintro e w2 ⟨rfl, hb⟩
  have HB2 := hide (HB1.out.trans (hb.mono HB1.out.size))
  have HM2 := hide (HM.out.later hb (Nat.le_refl _))
  have HMR2 := hide (HMR.out.later hb)
  clear hb C2 HM HMR HB1
  go_wp2_with fail
  go_loopw [6, 7, 8] (fun wv bv ii wr => ∃ (i : Nat) (b : Bool) (rw : List V) (wo : Option Addr) (wc : Nat), ii = .int .i64 i ∧ bv = .bool b ∧ wv = .slice wo rw.length wc ∧ i ≤ n ∧ i ≤ 30 ∧ Hid (Want os t w i b rw wo wc) ∧ Hid (Below w2.heap.size w2 wr)) (fun _ _ ii _ => (n - (intOf ii).toNat))
  case atStart => exact ⟨0, false, [], none, 0, rfl, rfl, rfl, by omega, by omega, hide ⟨rfl, fun h9 => by cases h9⟩, hide (Below.refl _ _)⟩
  case round =>
    rename World => wr
    obtain ⟨i, b, rw, wo, wc, rfl, rfl, rfl, hi, hi3, HW, HB⟩ := hrel
    have HBw := hide (HB2.out.trans (HB.out.mono HB2.out.size))
    rcases Nat.lt_or_ge i n with hlt | hge
    · have g1 : (i : Int) < (n : Int) := by omega
      rcases Nat.lt_or_ge i 30 with hlt3 | hge3
      · have g2 : (i : Int) < 30 := by omega
        have hil : i < os.length := by rw [← HN.out]; exact hlt
        obtain ⟨b0, off, cap, he, hb0, k0, k1, k2, k3⟩ := (HA.out.later HBw.out (Nat.le_refl _)).at i hil
        rw [← HN.out] at he
        simp only [Value.slice.injEq] at he
        obtain ⟨rfl, _, rfl⟩ := he
        have HSK := hide (fun (hc : 20 < (os[i]).x.r.length ∨ ¬ Has (os[i]).x.s t ∨ ((os[i]).d = false ∧ ¬ (Right (os[i]).x.s ∧ Prd.Good (os[i]).x.r))) => HW.out.skip hil hc)
        have HNW := hide (fun (hl : ¬ 20 < (os[i]).x.r.length) (hh : Has (os[i]).x.s t) (hg : (os[i]).d = false → Right (os[i]).x.s ∧ Prd.Good (os[i]).x.r) => Want.new (w := w) hil hl hh hg (HR.out _ (List.getElem_mem hil)))
        have hmem := List.getElem_mem hil
        obtain ⟨o, ho⟩ : ∃ o, o = os[i] := ⟨_, rfl⟩
        rw [← ho] at k0 k1 k2 k3 HSK HNW hmem
        have HOR := hide (show ∀ u, Below w2.heap.size w2 u → RowAt o.x.r o.x.sl u from fun u hu => (HR.out o hmem).later (HB2.out.trans (hu.mono HB2.out.size)))
        have HOI := hide (HI.out o hmem)
        have HBA := hide (HB.out.trans ((below_alloc wr (.cells #[.bool o.d, .int .i64 o.x.s.1, .int .i64 o.x.s.2, .slice o.x.ro o.x.r.length o.x.rc] 27)).mono HB.out.size))
        have HOB := hide (show Ob o wr.heap.size (wr.alloc (.cells #[.bool o.d, .int .i64 o.x.s.1, .int .i64 o.x.s.2, .slice o.x.ro o.x.r.length o.x.rc] 27)) from ⟨by go_keep, by go_keep, by go_keep, by go_keep, by simp⟩)
        clear ho hb0 hmem
        by_cases h20 : 20 < o.x.r.length
        · have g3 : (20 : Int) < (o.x.r.length : Int) := by omega
          have HW2 := hide (HSK.out (.inl h20))
          clear h20
          go_wp2_with fail
          go_roundw
          case rel => exact ⟨i + 1, b, rw, wo, wc, by go_num, rfl, rfl, by omega, by omega, HW2, HBA⟩
          case measure => simp [intOf]; omega
        · have g3 : ¬ (20 : Int) < (o.x.r.length : Int) := by omega
          have HL20 := hide h20
          have CH := hide (fun u => Spn.rhas_any o.x.s.1 o.x.s.2 t u)
          by_cases hh : Has o.x.s t
          · have HH := hide hh
            rw [show decide (Has (o.x.s.1, o.x.s.2) t) = true from decide_eq_true hh] at CH
            cases hd : o.d with
            | true =>
              have HD := hide hd
              have HW2 := hide (HNW.out h20 hh (fun h9 => by rw [hd] at h9; cases h9))
              rw [hd] at HW2 HOB k0 HBA
              clear h20 hh hd
              go_wp2_with fail
              refine (CH.out _).mono ?_
              rintro e w3 ⟨rfl, hb⟩
              have HB3 := hide (HBA.out.trans (hb.mono HBA.out.size))
              have HO3 := hide (HOB.out.later hb HOB.out.lt)
              obtain ⟨j0, j1, j2, j3, _⟩ := HO3.out
              rw [show o.d = true from HD.out] at j0
              clear hb
              go_wp2_with fail
              go_roundw
              case rel => exact ⟨i + 1, false, o.x.r, o.x.ro, o.x.rc, by go_num, rfl, rfl, by omega, by omega, HW2, HB3⟩
              case measure => simp [intOf]; omega
            | false =>
              have HD := hide hd
              have CR := hide (show ∀ u, Below w2.heap.size w2 u → Calls Try.prog 16 #[.slice (some ⟨u.heap.size, 0, none⟩) 1 1] (u.alloc (.cells #[.int .i64 o.x.s.1, .int .i64 o.x.s.2, .slice o.x.ro o.x.r.length o.x.rc] 54)) fun e w' => e = .returned (.bool (decide (Right o.x.s ∧ Prd.Good o.x.r))) ∧ Below (u.alloc (.cells #[.int .i64 o.x.s.1, .int .i64 o.x.s.2, .slice o.x.ro o.x.r.length o.x.rc] 54)).heap.size (u.alloc (.cells #[.int .i64 o.x.s.1, .int .i64 o.x.s.2, .slice o.x.ro o.x.r.length o.x.rc] 54)) w' from fun u hu => by
                have h1 := rokay_any (one3_at u o.x 54 rfl) (fun y hy => by rw [List.mem_singleton.1 hy]; exact (HOR.out u hu).later (below_alloc u _)) (show Small [o.x] from ⟨by simp, fun y hy => by rw [List.mem_singleton.1 hy]; have := HL20.out; omega, fun y hy => by rw [List.mem_singleton.1 hy]; exact HOI.out.r⟩)
                rw [show decide (Ok Prd.Good (pcs [o.x])) = decide (Right o.x.s ∧ Prd.Good o.x.r) from decide_eq_decide.2 ok_single] at h1
                exact h1)
              by_cases hg : Right o.x.s ∧ Prd.Good o.x.r
              · have HW2 := hide (HNW.out h20 hh (fun _ => hg))
                rw [decide_eq_true hg] at CR
                rw [hd] at HW2 HOB k0 HBA
                clear h20 hh hd hg
                go_wp2_with fail
                refine (CH.out _).mono ?_
                rintro e w3 ⟨rfl, hb⟩
                have HB3 := hide (HBA.out.trans (hb.mono HBA.out.size))
                have HO3 := hide (HOB.out.later hb HOB.out.lt)
                obtain ⟨j0, j1, j2, j3, _⟩ := HO3.out
                rw [show o.d = false from HD.out] at j0
                have C5 := hide (CR.out w3 HB3.out)
                have HB4 := hide (HB3.out.trans ((below_alloc w3 (.cells #[.int .i64 o.x.s.1, .int .i64 o.x.s.2, .slice o.x.ro o.x.r.length o.x.rc] 54)).mono HB3.out.size))
                have HO4 := hide (HO3.out.later (below_alloc w3 (.cells #[.int .i64 o.x.s.1, .int .i64 o.x.s.2, .slice o.x.ro o.x.r.length o.x.rc] 54)) HO3.out.lt)
                clear hb
                go_wp2_with fail
                refine C5.out.mono ?_
                rintro e w4 ⟨rfl, hb⟩
                have HB5 := hide (HB4.out.trans (hb.mono HB4.out.size))
                have HO5 := hide (HO4.out.later hb HO4.out.lt)
                clear hb j0 j1 j2 j3
                obtain ⟨j0, j1, j2, j3, _⟩ := HO5.out
                rw [show o.d = false from HD.out] at j0
                go_wp2_with fail
                go_roundw
                case rel => exact ⟨i + 1, true, o.x.r, o.x.ro, o.x.rc, by go_num, rfl, rfl, by omega, by omega, HW2, HB5⟩
                case measure => simp [intOf]; omega
              · have HW2 := hide (HSK.out (.inr (.inr ⟨hd, hg⟩)))
                rw [decide_eq_false hg] at CR
                rw [hd] at HOB k0 HBA
                clear h20 hh hd hg
                go_wp2_with fail
                refine (CH.out _).mono ?_
                rintro e w3 ⟨rfl, hb⟩
                have HB3 := hide (HBA.out.trans (hb.mono HBA.out.size))
                have HO3 := hide (HOB.out.later hb HOB.out.lt)
                obtain ⟨j0, j1, j2, j3, _⟩ := HO3.out
                rw [show o.d = false from HD.out] at j0
                have C5 := hide (CR.out w3 HB3.out)
                have HB4 := hide (HB3.out.trans ((below_alloc w3 (.cells #[.int .i64 o.x.s.1, .int .i64 o.x.s.2, .slice o.x.ro o.x.r.length o.x.rc] 54)).mono HB3.out.size))
                clear hb
                go_wp2_with fail
                refine C5.out.mono ?_
                rintro e w4 ⟨rfl, hb⟩
                have HB5 := hide (HB4.out.trans (hb.mono HB4.out.size))
                clear hb
                go_wp2_with fail
                go_roundw
                case rel => exact ⟨i + 1, b, rw, wo, wc, by go_num, rfl, rfl, by omega, by omega, HW2, HB5⟩
                case measure => simp [intOf]; omega
          · rw [show decide (Has (o.x.s.1, o.x.s.2) t) = false from decide_eq_false hh] at CH
            have HW2 := hide (HSK.out (.inr (.inl hh)))
            clear h20 hh
            go_wp2_with fail
            refine (CH.out _).mono ?_
            rintro e w3 ⟨rfl, hb⟩
            have HB3 := hide (HBA.out.trans (hb.mono HBA.out.size))
            clear hb
            go_wp2_with fail
            go_roundw
            case rel => exact ⟨i + 1, b, rw, wo, wc, by go_num, rfl, rfl, by omega, by omega, HW2, HB3⟩
            case measure => simp [intOf]; omega
      · obtain rfl : i = 30 := by omega
        have g2 : ¬ ((30 : Nat) : Int) < 30 := by omega
        have HT := hide (show steps [] (os.take 30) = made os from rfl)
        have HM3 := hide (HM2.out.later HB.out (Nat.le_refl _))
        have HMR3 := hide (HMR2.out.later HB.out)
        have C3 := hide (mat_any HM3.out HMR3.out HMS.out t)
        have HAT := hide (show atR (pcs m) t = (if b = true then some rw else none) from by unfold atR; rw [if_pos HOK.out, HME.out, ← HT.out]; exact HW.out.1)
        go_wp2_with fail
        refine C3.out.mono ?_
        intro e w6 hat
        obtain ⟨ao, ac, rfl, hrow, hb⟩ := at_one hat
        rw [HAT.out] at hrow ⊢
        have HB6 := hide (HBw.out.trans (hb.mono HBw.out.size))
        clear hat C3
        cases b with
        | false =>
          have C6 := hide (known_any w6)
          rw [show (if false = true then some rw else none) = (none : Option (List V)) from rfl]
          rw [show (none : Option (List V)).isSome = false from rfl]
          clear hrow hb
          go_wp2_with fail
          refine C6.out.mono ?_
          rintro e w7 ⟨rfl, hb⟩
          have HB7 := hide (HB6.out.trans (hb.mono HB6.out.size))
          clear hb C6
          go_wp2_with fail
          go_ret
          exact ⟨rfl, HB7.out⟩
        | true =>
          rw [show rowOf (if true = true then some rw else none) = rw from rfl] at hrow ⊢
          rw [show (if true = true then some rw else none).isSome = true from rfl]
          obtain ⟨hwr, hwl⟩ := HW.out.2 rfl
          have C6 := hide (Cod.rows_any rw rw _ _ (by omega) (by omega) w6 hrow (hwr.later HB6.out))
          rw [decide_eq_true rfl] at C6
          clear hrow hb hwr hwl
          go_wp2_with fail
          refine C6.out.mono ?_
          rintro e w7 ⟨rfl, hb⟩
          have HB7 := hide (HB6.out.trans (hb.mono HB6.out.size))
          have C7 := hide (known_any w7)
          clear hb C6
          go_wp2_with fail
          refine C7.out.mono ?_
          rintro e w8 ⟨rfl, hb⟩
          have HB8 := hide (HB7.out.trans (hb.mono HB7.out.size))
          clear hb C7
          go_wp2_with fail
          go_ret
          exact ⟨rfl, HB8.out⟩
    · obtain rfl : i = n := by omega
      have g1 : ¬ (i : Int) < (i : Int) := by omega
      have HT := hide (show steps [] (os.take i) = made os from by unfold made; rw [List.take_of_length_le (by rw [← HN.out]; exact Nat.le_refl _), List.take_of_length_le (by rw [← HN.out]; exact hi3)])
      have HM3 := hide (HM2.out.later HB.out (Nat.le_refl _))
      have HMR3 := hide (HMR2.out.later HB.out)
      have C3 := hide (mat_any HM3.out HMR3.out HMS.out t)
      have HAT := hide (show atR (pcs m) t = (if b = true then some rw else none) from by unfold atR; rw [if_pos HOK.out, HME.out, ← HT.out]; exact HW.out.1)
      go_wp2_with fail
      refine C3.out.mono ?_
      intro e w6 hat
      obtain ⟨ao, ac, rfl, hrow, hb⟩ := at_one hat
      rw [HAT.out] at hrow ⊢
      have HB6 := hide (HBw.out.trans (hb.mono HBw.out.size))
      clear hat C3
      cases b with
      | false =>
        have C6 := hide (known_any w6)
        rw [show (if false = true then some rw else none) = (none : Option (List V)) from rfl]
        rw [show (none : Option (List V)).isSome = false from rfl]
        clear hrow hb
        go_wp2_with fail
        refine C6.out.mono ?_
        rintro e w7 ⟨rfl, hb⟩
        have HB7 := hide (HB6.out.trans (hb.mono HB6.out.size))
        clear hb C6
        go_wp2_with fail
        go_ret
        exact ⟨rfl, HB7.out⟩
      | true =>
        rw [show rowOf (if true = true then some rw else none) = rw from rfl] at hrow ⊢
        rw [show (if true = true then some rw else none).isSome = true from rfl]
        obtain ⟨hwr, hwl⟩ := HW.out.2 rfl
        have C6 := hide (Cod.rows_any rw rw _ _ (by omega) (by omega) w6 hrow (hwr.later HB6.out))
        rw [decide_eq_true rfl] at C6
        clear hrow hb hwr hwl
        go_wp2_with fail
        refine C6.out.mono ?_
        rintro e w7 ⟨rfl, hb⟩
        have HB7 := hide (HB6.out.trans (hb.mono HB6.out.size))
        have C7 := hide (known_any w7)
        clear hb C6
        go_wp2_with fail
        refine C7.out.mono ?_
        rintro e w8 ⟨rfl, hb⟩
        have HB8 := hide (HB7.out.trans (hb.mono HB7.out.size))
        clear hb C7
        go_wp2_with fail
        go_ret
        exact ⟨rfl, HB8.out⟩
theorem laidOut : laidOutB Try.prog = true := by kernel_rfl
set_option maxRecDepth 100000 in
theorem contract (H : Type) (enc : TypeId × Value → H) (W : World) (base : Nat) (args : Array Value) (ds gs : List (DataW H)) (before : List MemPlace)
    (hval : ∀ (j : Nat) t v, Try.f5.params[j]? = some t → args[j]? = some v → Value.okWide Try.prog W .any base t v)
    (hW : DataW.Whole enc Try.prog Try.f5.params.toList Rows.periodPutsSpec.vars false W args.toList ds gs before)
    (hsz0 : (DataW.weightsEach Try.prog (Try.f5.params.toList ++ Rows.periodPutsSpec.plain.varTypes Try.prog) (ds ++ gs)).all (· ≤ reachBytes) = true) :
    Calls Try.prog 5 args W fun e W' => ∃ v, e = .returned v ∧ Rows.periodPutsSpec.post enc Try.prog Try.f5 false true false false W args v W' := by
  have hW' := hW
  obtain ⟨p, q, hA0, hV, rfl, hfz, hnd⟩ := hW
  have hA : DataW.TrodAll enc Try.prog W 0 (fun _ => true) true Try.f5.params.toList args.toList ds p := hA0
  rw [Try.params5] at hA hval hsz0
  obtain ⟨v0, vs0, d0, ds0, p0, q0, hargs, rfl, rfl, h0, r0⟩ := trodAll_cons hA
  obtain ⟨v1, vs1, d1, ds1, p1, q1, rfl, rfl, rfl, h1, r1⟩ := trodAll_cons r0
  obtain ⟨rfl, rfl, rfl⟩ := trodAll_nil r1
  obtain rfl : args = #[v0, v1] := by cases args; simp_all
  obtain ⟨rfl, rfl⟩ := trodVars_none hV
  have hsz := fun n hn => of_decide_eq_true (List.all_eq_true.1 hsz0 n hn)
  obtain ⟨t, rfl, hd1, hp1, wt⟩ := open_int Try.underlying3 (hval 1 3 v1 rfl rfl) h1
  have bt := bounds_i64 wt
  obtain ⟨s, hms, hrs, his⟩ := Prd.open_ops (hval 0 50 v0 rfl rfl) h0 (fun n hn => hsz n (DataW.weights_mem_each (j := 0) (t := 50) rfl rfl n hn))
  clear hA0 hsz0
  simp only [List.append_nil] at hW'
  have hlt : ∀ x ∈ p0 ++ p1, x.block < W.heap.size := fun x hx => hW'.lt x (by simpa using hx)
  have walk := walk hms hrs his t
  refine walk.mono fun e W' ⟨he, hg⟩ => ?_
  subst he
  refine ⟨_, rfl, Fr.post_made (pa := p0 ++ p1) (pv := []) hW' (fun _ _ _ => trodAll_cons_mk (shut_bool Try.underlying4 _) trodAll_mk0) (fun sp hsp => ?_) (fun _ _ => rfl) (by simp) hg (ok_one (by kernel_rfl) rfl (okWide_bool_mk Try.underlying4 _))⟩
  have g0 : DataW.Trod enc Try.prog W' 0 sp true 50 _ d0 p0 := WideElems.Trod_stays laidOut (by kernel_rfl) (of_decide_eq_true (by kernel_rfl)) h0 (fun x hx => hg.same (hlt x (by simp [hx]))) (fun x hx => hsp x (by simp [hx]))
  have g1 : DataW.Trod enc Try.prog W' 0 sp true 3 _ d1 p1 := WideElems.Trod_stays laidOut (by kernel_rfl) (of_decide_eq_true (by kernel_rfl)) h1 (fun x hx => hg.same (hlt x (by simp [hx]))) (fun x hx => hsp x (by simp [hx]))
  have hT := (trodAll_cons_mk g0 (trodAll_cons_mk g1 trodAll_mk0))
  simp only [List.append_nil] at hT
  exact hT
set_option maxRecDepth 100000 in
theorem lifted (os : Os) (started : os.Started) (H : Type) (enc : TypeId × Value → H) :
    ReturnsInHanded {} Try.checked os 5 .any (Rows.periodPutsSpec.pre6 enc Try.prog Try.f5 Rows.periodPutsRow.domain false) (Rows.periodPutsSpec.post enc Try.prog Try.f5 false true false false) := by
  refine returnsInHanded_of_change_sized (C := Try.checked) Fr.own started (by kernel_rfl) Try.func5
    (ChangeSpec.witness6 (enc := enc) (C := Try.checked) false ⟨#[], #[.slice none 0 0, .int .i64 0], []⟩ 8 (by kernel_rfl) (by kernel_rfl) (by kernel_rfl) (by kernel_rfl)) ?_
  intro W base args ds gs before hval hW _ hsz _
  exact contract H enc W base args ds gs before hval hW hsz
theorem said : Rows.PeriodPutsSaid :=
  OpenClaim.holds_of_wide 5 Try.f5 rfl rfl rfl rfl rfl rfl rfl ⟨rfl, rfl, rfl, rfl, rfl⟩ rfl rfl rfl rfl rfl (by kernel_rfl) Try.func5 (by kernel_rfl)
    (of_decide_eq_true (by kernel_rfl)) (by unfold Func.isWrapper; first | (rw [if_pos (by decide +kernel)]; kernel_rfl) | (rw [if_neg (by decide +kernel)]; exact ⟨rfl, rfl⟩))
    (fun os started H enc _ => lifted os started H enc)
end LaPeriodPuts
end Go.Proofs.Ytoacombaddknfaa
