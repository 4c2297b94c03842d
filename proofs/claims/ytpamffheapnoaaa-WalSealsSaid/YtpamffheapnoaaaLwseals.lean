/- WalSeals is proved: for every two texts the law returns true and its arguments read as they did. No other condition. -/
import Derived.Test.YtpamffheapnoaaaWv
import Derived.Test.YtpamffheapnoaaaWe
import Derived.Test.YtpamffheapnoaaaWo
import Derived.Test.YtpamffheapnoaaaFra
import Derived.WideKeyPair
import Derived.SizedLaws
namespace Go.Proofs.Ytpamffheapnoaaa
open Go.ChangeShapes Go.WideShapes Go.ChangeAt Go.RowKit
open Go.ChangeMaps (open_string shut_string)
namespace LaWalSeals
open Wal
open Dsk (PD Mine KeepQ DiskIs Only Grow upd pad BoolsAt NotGiven)
open Crc (S S_of S_size S_append S_add hidm)
open Dsk (open_ops open_bools OpsAt Opv)
set_option maxHeartbeats 4000000 in
set_option maxRecDepth 100000 in
theorem law_any (b s : ByteArray) (w : World) :
    Calls Try.prog 3 #[.string b, .string s] w fun e w' => e = .returned (.bool true) ∧ Below w.heap.size w w' := by
  rcases Nat.lt_or_ge 300 b.size with hb3 | hb3
  · have f1 : (300 : Int) < (b.size : Int) := by omega
    go_enter Try.func3, Try.ntmps3
    go_wp2_with fail
    refine (known_any _).mono ?_
    rintro e wk ⟨rfl, hb⟩
    have HB := hidm hb
    clear hb
    go_wp2_with fail
    go_ret
    exact ⟨rfl, HB.out⟩
  · have f1 : ¬ (300 : Int) < (b.size : Int) := by omega
    rcases Nat.lt_or_ge 300 s.size with hs3 | hs3
    · have f2 : (300 : Int) < (s.size : Int) := by omega
      go_enter Try.func3, Try.ntmps3
      go_wp2_with fail
      refine (known_any _).mono ?_
      rintro e wk ⟨rfl, hb⟩
      have HB := hidm hb
      clear hb
      go_wp2_with fail
      go_ret
      exact ⟨rfl, HB.out⟩
    · have f2 : ¬ (300 : Int) < (s.size : Int) := by omega
      have U1 := hidm (fun w => unseal_any s (by omega) w)
      have U2 := hidm (fun w => runseal_any s (by omega) w)
      obtain ⟨x, hx⟩ : ∃ x, x = S ((un s.data.toList).getD []) := ⟨_, rfl⟩
      obtain ⟨m, hm⟩ : ∃ m, m = (un s.data.toList).isSome := ⟨_, rfl⟩
      rw [← hx, ← hm] at U1 U2
      have S1 := hidm (fun w => seal_any b (by omega) w)
      have S2 := hidm (fun w => rseal_any b (by omega) w)
      obtain ⟨sx, hsx⟩ : ∃ sx, sx = S (sealB b.data.toList) := ⟨_, rfl⟩
      rw [← hsx] at S1 S2
      have hsxs : sx.size ≤ 400 := by
        rw [hsx, S_size]
        unfold sealB
        split
        · exact Nat.zero_le _
        · rw [List.length_cons, Crc.put_len, len_eq]; omega
      have hlim : ¬ 9223372036854775807 < sx.size + s.size := by omega
      obtain ⟨y, hy⟩ : ∃ y, y = sx ++ s := ⟨_, rfl⟩
      have hys : y.size ≤ 1000 := by rw [hy, ByteArray.size_append]; omega
      have HY := hidm hy.symm
      have U3 := hidm (fun w => unseal_any y (by omega) w)
      have e1 : (sx.toList == sx.toList) = true := beq_self_eq_true _
      have e2 : (x.toList == x.toList) = true := beq_self_eq_true _
      rcases Nat.lt_or_ge 123 b.size with h123 | h123
      · have f3 : (123 : Int) < (b.size : Int) := by omega
        obtain ⟨z, hz⟩ : ∃ z, z = S ((un y.data.toList).getD []) := ⟨_, rfl⟩
        obtain ⟨i, hi⟩ : ∃ i, i = (un y.data.toList).isSome := ⟨_, rfl⟩
        rw [← hz, ← hi] at U3
        clear hz hi hx hm hsx hy hys hsxs
        go_enter Try.func3, Try.ntmps3
        go_wp2_with fail
        refine (U1.out w).mono ?_
        rintro e w1 ⟨rfl, hb⟩
        have B1 := hidm hb
        clear hb
        go_wp2_with fail
        refine (U2.out w1).mono ?_
        rintro e w2 ⟨rfl, hb⟩
        have B2 := hidm (B1.out.trans (hb.mono B1.out.size))
        clear hb
        go_wp2_with fail
        refine (S1.out w2).mono ?_
        rintro e w3 ⟨rfl, hb⟩
        have B3 := hidm (B2.out.trans (hb.mono B2.out.size))
        clear hb
        go_wp2_with fail
        rw [HY.out]
        refine (U3.out w3).mono ?_
        rintro e w4 ⟨rfl, hb⟩
        have B4 := hidm (B3.out.trans (hb.mono B3.out.size))
        clear hb
        go_wp2_with fail
        refine (S1.out w4).mono ?_
        rintro e w5 ⟨rfl, hb⟩
        have B5 := hidm (B4.out.trans (hb.mono B4.out.size))
        clear hb
        go_wp2_with fail
        refine (S2.out w5).mono ?_
        rintro e w6 ⟨rfl, hb⟩
        have B6 := hidm (B5.out.trans (hb.mono B5.out.size))
        clear hb
        go_wp2_with fail
        refine (known_any _).mono ?_
        rintro e wk ⟨rfl, hb⟩
        have B := hidm (B6.out.trans (hb.mono B6.out.size))
        clear hb
        go_wp2_with fail
        go_ret
        exact ⟨rfl, B.out⟩
      · have f3 : ¬ (123 : Int) < (b.size : Int) := by omega
        have hu : un y.data.toList = some b.data.toList := by
          rw [hy, hsx, ByteArray.data_append, Array.toList_append]
          exact un_seal (by rw [len_eq]; exact h123) s.data.toList
        have U3 := hidm (show ∀ w, Calls Try.prog 10 #[.string y] w fun e w' => e = .returned (.tuple #[.string b, .bool true]) ∧ Below w.heap.size w w' from fun w => by
          have h := U3.out w
          rw [hu] at h
          simp only [Option.getD_some, Option.isSome_some, S_of] at h
          exact h)
        have e3 : (b.toList == b.toList) = true := beq_self_eq_true _
        clear hx hm hsx hy hys hsxs hu
        go_enter Try.func3, Try.ntmps3
        go_wp2_with fail
        refine (U1.out w).mono ?_
        rintro e w1 ⟨rfl, hb⟩
        have B1 := hidm hb
        clear hb
        go_wp2_with fail
        refine (U2.out w1).mono ?_
        rintro e w2 ⟨rfl, hb⟩
        have B2 := hidm (B1.out.trans (hb.mono B1.out.size))
        clear hb
        go_wp2_with fail
        refine (S1.out w2).mono ?_
        rintro e w3 ⟨rfl, hb⟩
        have B3 := hidm (B2.out.trans (hb.mono B2.out.size))
        clear hb
        go_wp2_with fail
        rw [HY.out]
        refine (U3.out w3).mono ?_
        rintro e w4 ⟨rfl, hb⟩
        have B4 := hidm (B3.out.trans (hb.mono B3.out.size))
        clear hb
        go_wp2_with fail
        refine (S1.out w4).mono ?_
        rintro e w5 ⟨rfl, hb⟩
        have B5 := hidm (B4.out.trans (hb.mono B4.out.size))
        clear hb
        go_wp2_with fail
        refine (S2.out w5).mono ?_
        rintro e w6 ⟨rfl, hb⟩
        have B6 := hidm (B5.out.trans (hb.mono B5.out.size))
        clear hb
        go_wp2_with fail
        refine (known_any _).mono ?_
        rintro e wk ⟨rfl, hb⟩
        have B := hidm (B6.out.trans (hb.mono B6.out.size))
        clear hb
        go_wp2_with fail
        go_ret
        exact ⟨rfl, B.out⟩
theorem laidOut : laidOutB Try.prog = true := by kernel_rfl
set_option maxRecDepth 100000 in
theorem contract (H : Type) (enc : TypeId × Value → H) (W : World) (base : Nat) (args : Array Value) (ds gs : List (DataW H)) (before : List MemPlace)
    (hval : ∀ (j : Nat) t v, Try.f3.params[j]? = some t → args[j]? = some v → Value.okWide Try.prog W .any base t v)
    (hW : DataW.Whole enc Try.prog Try.f3.params.toList Rows.walSealsSpec.vars false W args.toList ds gs before)
    (hsz0 : (DataW.weightsEach Try.prog (Try.f3.params.toList ++ Rows.walSealsSpec.plain.varTypes Try.prog) (ds ++ gs)).all (· ≤ reachBytes) = true) :
    Calls Try.prog 3 args W fun e W' => ∃ v, e = .returned v ∧ Rows.walSealsSpec.post enc Try.prog Try.f3 false true false false W args v W' := by
  have hW' := hW
  obtain ⟨p, q, hA0, hV, rfl, hfz, hnd⟩ := hW
  have hA : DataW.TrodAll enc Try.prog W 0 (fun _ => true) true Try.f3.params.toList args.toList ds p := hA0
  rw [Try.params3] at hA hval hsz0
  obtain ⟨v0, vs0, d0, ds0, p0, q0, hargs, rfl, rfl, h0, r0⟩ := trodAll_cons hA
  obtain ⟨v1, vs1, d1, ds1, p1, q1, rfl, rfl, rfl, h1, r1⟩ := trodAll_cons r0
  obtain ⟨rfl, rfl, rfl⟩ := trodAll_nil r1
  obtain rfl : args = #[v0, v1] := by cases args; simp_all
  obtain ⟨rfl, rfl⟩ := trodVars_none hV
  have hsz := fun n hn => of_decide_eq_true (List.all_eq_true.1 hsz0 n hn)
  obtain ⟨b, rfl, hd0, hp0, wb⟩ := open_string Try.underlying9 (hval 0 9 v0 rfl rfl) h0
  obtain ⟨s, rfl, hd1, hp1, ws⟩ := open_string Try.underlying9 (hval 1 9 v1 rfl rfl) h1
  clear hA0 hsz0
  simp only [List.append_nil] at hW'
  have hlt : ∀ x ∈ p0 ++ p1, x.block < W.heap.size := fun x hx => hW'.lt x (by simpa using hx)
  have walk := law_any b s W
  refine walk.mono fun e W' ⟨he, hg⟩ => ?_
  subst he
  refine ⟨_, rfl, Fr.post_made (pa := p0 ++ p1) (pv := []) hW' (fun _ _ _ => trodAll_cons_mk (shut_bool Try.underlying4 _) trodAll_mk0) (fun sp hsp => ?_) (fun _ _ => rfl) (by simp) hg (ok_one (by kernel_rfl) rfl (okWide_bool_mk Try.underlying4 _))⟩
  have g0 : DataW.Trod enc Try.prog W' 0 sp true 9 _ d0 p0 := WideElems.Trod_stays laidOut (by kernel_rfl) (of_decide_eq_true (by kernel_rfl)) h0 (fun x hx => hg.same (hlt x (by simp [hx]))) (fun x hx => hsp x (by simp [hx]))
  have g1 : DataW.Trod enc Try.prog W' 0 sp true 9 _ d1 p1 := WideElems.Trod_stays laidOut (by kernel_rfl) (of_decide_eq_true (by kernel_rfl)) h1 (fun x hx => hg.same (hlt x (by simp [hx]))) (fun x hx => hsp x (by simp [hx]))
  have hT := (trodAll_cons_mk g0 (trodAll_cons_mk g1 trodAll_mk0))
  simp only [List.append_nil] at hT
  exact hT
set_option maxRecDepth 100000 in
theorem lifted (os : Os) (started : os.Started) (H : Type) (enc : TypeId × Value → H) :
    ReturnsInHanded {} Try.checked os 3 .any (Rows.walSealsSpec.pre6 enc Try.prog Try.f3 Rows.walSealsRow.domain false) (Rows.walSealsSpec.post enc Try.prog Try.f3 false true false false) := by
  refine returnsInHanded_of_change_sized (C := Try.checked) Fr.own started (by kernel_rfl) Try.func3
    (ChangeSpec.witness6 (enc := enc) (C := Try.checked) false ⟨#[], #[.string ⟨#[]⟩, .string ⟨#[]⟩], []⟩ 8 (by kernel_rfl) (by kernel_rfl) (by kernel_rfl) (by kernel_rfl)) ?_
  intro W base args ds gs before hval hW _ hsz _
  exact contract H enc W base args ds gs before hval hW hsz
theorem said : Rows.WalSealsSaid :=
  OpenClaim.holds_of_wide 3 Try.f3 rfl rfl rfl rfl rfl rfl rfl ⟨rfl, rfl, rfl, rfl, rfl⟩ rfl rfl rfl rfl rfl (by kernel_rfl) Try.func3 (by kernel_rfl)
    (of_decide_eq_true (by kernel_rfl)) (by unfold Func.isWrapper; first | (rw [if_pos (by decide +kernel)]; kernel_rfl) | (rw [if_neg (by decide +kernel)]; exact ⟨rfl, rfl⟩))
    (fun os started H enc _ => lifted os started H enc)
end LaWalSeals
end Go.Proofs.Ytpamffheapnoaaa
