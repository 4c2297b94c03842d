/- DiskPlays is proved: for every number and script the law returns true and its arguments read as they did. No other condition. -/
import Derived.Test.YtkbadjlehmaneaaRf
import Derived.Test.YtkbadjlehmaneaaRw
import Derived.Test.YtkbadjlehmaneaaFra
import Derived.WideKeyPair
import Derived.SizedLaws
namespace Go.Proofs.Ytkbadjlehmaneaa
open Go.ChangeShapes Go.WideShapes Go.ChangeAt Go.RowKit
open Go.ChangeMaps (open_string shut_string)
namespace LaDiskPlays
open Dsk
set_option maxHeartbeats 2000000 in
set_option maxRecDepth 100000 in
theorem plays_known (N : Int) (h1 : 200 < N) (h2 : N ≤ 4096) (v : Value) (w : World) :
    Calls Try.prog 3 #[.int .i64 N, v] w fun e w' => e = .returned (.bool true) ∧ Below w.heap.size w w' := by
  go_enter Try.func3, Try.ntmps3
  go_wp2_with fail
  refine (known_any _).mono ?_
  rintro e wk ⟨rfl, hbk⟩
  have HBE := hidm hbk
  clear hbk
  go_wp2_with fail
  go_ret
  exact ⟨rfl, HBE.out⟩
set_option maxHeartbeats 8000000 in
set_option maxRecDepth 100000 in
theorem plays_bad (N : Int) (hN : N < 1 ∨ 4096 < N) (lo : Option Addr) (n lc : Nat) (w : World) (hnb : n ≤ 9223372036854775807) :
    Calls Try.prog 3 #[.int .i64 N, .slice lo n lc] w fun e w' => e = .returned (.bool true) ∧ Below w.heap.size w w' := by
  have C1 := hidm (new_bad N hN w)
  have C2 := hidm (rnew_bad N hN w)
  rcases hN with h | h
  · have f1 : ¬ (200 : Int) < N := by omega
    go_enter Try.func3, Try.ntmps3
    go_wp2_with fail
    refine C1.out.mono ?_
    rintro e w1 ⟨rfl, rfl⟩
    go_wp2_with fail
    refine C2.out.mono ?_
    rintro e w2 ⟨rfl, hb2⟩
    have HB2 := hidm hb2
    clear hb2
    go_wp2_with fail
    go_loopw [5, 9] (fun dd ii wr => dd = .pointer none ∧ ii = .int .i64 0 ∧ wr = w2) (fun _ _ _ => 0)
    case atStart => exact ⟨rfl, rfl, rfl⟩
    case round =>
      rename World => wr
      obtain ⟨rfl, rfl, rfl⟩ := hrel
      rcases Nat.lt_or_ge 0 n with hl | hl
      · have g1 : (0 : Int) < n := by omega
        go_wp2_with fail
        refine (known_any _).mono ?_
        rintro e wk ⟨rfl, hbk⟩
        have HBE := hidm (HB2.out.trans (hbk.mono HB2.out.size))
        clear hbk
        go_wp2_with fail
        go_ret
        exact ⟨rfl, HBE.out⟩
      · have g1 : ¬ (0 : Int) < n := by omega
        go_wp2_with fail
        refine (known_any _).mono ?_
        rintro e wk ⟨rfl, hbk⟩
        have HBE := hidm (HB2.out.trans (hbk.mono HB2.out.size))
        clear hbk
        go_wp2_with fail
        go_ret
        exact ⟨rfl, HBE.out⟩
  · have f1 : (200 : Int) < N := by omega
    have f2 : ¬ N ≤ (4096 : Int) := by omega
    go_enter Try.func3, Try.ntmps3
    go_wp2_with fail
    refine C1.out.mono ?_
    rintro e w1 ⟨rfl, rfl⟩
    go_wp2_with fail
    refine C2.out.mono ?_
    rintro e w2 ⟨rfl, hb2⟩
    have HB2 := hidm hb2
    clear hb2
    go_wp2_with fail
    go_loopw [5, 9] (fun dd ii wr => dd = .pointer none ∧ ii = .int .i64 0 ∧ wr = w2) (fun _ _ _ => 0)
    case atStart => exact ⟨rfl, rfl, rfl⟩
    case round =>
      rename World => wr
      obtain ⟨rfl, rfl, rfl⟩ := hrel
      rcases Nat.lt_or_ge 0 n with hl | hl
      · have g1 : (0 : Int) < n := by omega
        go_wp2_with fail
        refine (known_any _).mono ?_
        rintro e wk ⟨rfl, hbk⟩
        have HBE := hidm (HB2.out.trans (hbk.mono HB2.out.size))
        clear hbk
        go_wp2_with fail
        go_ret
        exact ⟨rfl, HBE.out⟩
      · have g1 : ¬ (0 : Int) < n := by omega
        go_wp2_with fail
        refine (known_any _).mono ?_
        rintro e wk ⟨rfl, hbk⟩
        have HBE := hidm (HB2.out.trans (hbk.mono HB2.out.size))
        clear hbk
        go_wp2_with fail
        go_ret
        exact ⟨rfl, HBE.out⟩
theorem law_any (N : Int) (l : List Opv) (sl : Value) (w : World) (hin : OpsAt l sl w) (hinn : ∀ x ∈ l, x.inn) :
    Calls Try.prog 3 #[.int .i64 N, sl] w fun e w' => e = .returned (.bool true) ∧ Below w.heap.size w w' := by
  obtain ⟨lo, lc, rfl, h1, h2⟩ := hin.form
  by_cases hb : N < 1 ∨ 4096 < N
  · exact plays_bad N hb lo _ lc w (by omega)
  · by_cases hk : 200 < N
    · exact plays_known N hk (by omega) _ w
    · obtain ⟨m, rfl⟩ := Int.eq_ofNat_of_zero_le (show 0 ≤ N by omega)
      exact plays_main rwrite_on m (by omega) (by omega) l lo _ lc w rfl (by omega) hin hinn
theorem laidOut : laidOutB Try.prog = true := by kernel_rfl
set_option maxRecDepth 100000 in
theorem contract (H : Type) (enc : TypeId × Value → H) (W : World) (base : Nat) (args : Array Value) (ds gs : List (DataW H)) (before : List MemPlace)
    (hval : ∀ (j : Nat) t v, Try.f3.params[j]? = some t → args[j]? = some v → Value.okWide Try.prog W .any base t v)
    (hW : DataW.Whole enc Try.prog Try.f3.params.toList Rows.diskPlaysSpec.vars false W args.toList ds gs before)
    (hsz0 : (DataW.weightsEach Try.prog (Try.f3.params.toList ++ Rows.diskPlaysSpec.plain.varTypes Try.prog) (ds ++ gs)).all (· ≤ reachBytes) = true) :
    Calls Try.prog 3 args W fun e W' => ∃ v, e = .returned v ∧ Rows.diskPlaysSpec.post enc Try.prog Try.f3 false true false false W args v W' := by
  have hW' := hW
  obtain ⟨p, q, hA0, hV, rfl, hfz, hnd⟩ := hW
  have hA : DataW.TrodAll enc Try.prog W 0 (fun _ => true) true Try.f3.params.toList args.toList ds p := hA0
  rw [Try.params3] at hA hval hsz0
  obtain ⟨v0, vs0, d0, ds0, p0, q0, hargs, rfl, rfl, h0, r0⟩ := trodAll_cons hA
  obtain ⟨v1, vs1, d1, ds1, p1, q1, rfl, rfl, rfl, h1, r1⟩ := trodAll_cons r0
  obtain ⟨rfl, rfl, rfl⟩ := trodAll_nil r1
  obtain rfl : args = #[v0, v1] := by cases args; simp_all
  obtain ⟨rfl, rfl⟩ := trodVars_none hV
  have hsz := fun n hn => of_decide_eq_true (List.all_eq_true.1 hsz0 n hn)
  obtain ⟨N, rfl, hd0, hp0, wN⟩ := open_int Try.underlying3 (hval 0 3 v0 rfl rfl) h0
  have bN := bounds_i64 wN
  obtain ⟨l, hml, hnl⟩ := open_ops (hval 1 22 v1 rfl rfl) h1
  clear hA0 hsz0
  simp only [List.append_nil] at hW'
  have hlt : ∀ x ∈ p0 ++ p1, x.block < W.heap.size := fun x hx => hW'.lt x (by simpa using hx)
  have walk := law_any N l v1 W hml hnl
  refine walk.mono fun e W' ⟨he, hg⟩ => ?_
  subst he
  refine ⟨_, rfl, Fr.post_made (pa := p0 ++ p1) (pv := []) hW' (fun _ _ _ => trodAll_cons_mk (shut_bool Try.underlying4 _) trodAll_mk0) (fun sp hsp => ?_) (fun _ _ => rfl) (by simp) hg (ok_one (by kernel_rfl) rfl (okWide_bool_mk Try.underlying4 _))⟩
  have g0 : DataW.Trod enc Try.prog W' 0 sp true 3 _ d0 p0 := WideElems.Trod_stays laidOut (by kernel_rfl) (of_decide_eq_true (by kernel_rfl)) h0 (fun x hx => hg.same (hlt x (by simp [hx]))) (fun x hx => hsp x (by simp [hx]))
  have g1 : DataW.Trod enc Try.prog W' 0 sp true 22 _ d1 p1 := WideElems.Trod_stays laidOut (by kernel_rfl) (of_decide_eq_true (by kernel_rfl)) h1 (fun x hx => hg.same (hlt x (by simp [hx]))) (fun x hx => hsp x (by simp [hx]))
  have hT := (trodAll_cons_mk g0 (trodAll_cons_mk g1 trodAll_mk0))
  simp only [List.append_nil] at hT
  exact hT
set_option maxRecDepth 100000 in
theorem lifted (os : Os) (started : os.Started) (H : Type) (enc : TypeId × Value → H) :
    ReturnsInHanded {} Try.checked os 3 .any (Rows.diskPlaysSpec.pre6 enc Try.prog Try.f3 Rows.diskPlaysRow.domain false) (Rows.diskPlaysSpec.post enc Try.prog Try.f3 false true false false) := by
  refine returnsInHanded_of_change_sized (C := Try.checked) Fr.own started (by kernel_rfl) Try.func3
    (ChangeSpec.witness6 (enc := enc) (C := Try.checked) false ⟨#[], #[.int .i64 0, .slice none 0 0], []⟩ 8 (by kernel_rfl) (by kernel_rfl) (by kernel_rfl) (by kernel_rfl)) ?_
  intro W base args ds gs before hval hW _ hsz _
  exact contract H enc W base args ds gs before hval hW hsz
theorem said : Rows.DiskPlaysSaid :=
  OpenClaim.holds_of_wide 3 Try.f3 rfl rfl rfl rfl rfl rfl rfl ⟨rfl, rfl, rfl, rfl, rfl⟩ rfl rfl rfl rfl rfl (by kernel_rfl) Try.func3 (by kernel_rfl)
    (of_decide_eq_true (by kernel_rfl)) (by unfold Func.isWrapper; first | (rw [if_pos (by decide +kernel)]; kernel_rfl) | (rw [if_neg (by decide +kernel)]; exact ⟨rfl, rfl⟩))
    (fun os started H enc _ => lifted os started H enc)
end LaDiskPlays
end Go.Proofs.Ytkbadjlehmaneaa
