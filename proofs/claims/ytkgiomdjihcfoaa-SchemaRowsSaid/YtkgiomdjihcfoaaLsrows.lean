/- SchemaRows is proved: for every schema and every row the law returns true and its arguments read as they did. No other condition. -/
import Derived.Test.YtkgiomdjihcfoaaJx
import Derived.Test.YtkgiomdjihcfoaaJy
import Derived.Test.YtkgiomdjihcfoaaJz
import Derived.Test.YtkgiomdjihcfoaaKl
import Derived.WideKeyPair
namespace Go.Proofs.Ytkgiomdjihcfoaa
open Go.ChangeShapes Go.WideShapes Go.ChangeAt Go.RowKit
open Go.ChangeMaps (open_string shut_string)
namespace LaSchemaRows
open Cod Sch
theorem lim_of {a : T} {r : List V} (h : lightB a r = true) : Lim a := by
  obtain ⟨h1, h2, _, h4, _⟩ := light_parts h
  exact ⟨by omega, fun c hc => by have := h4 c hc; omega, by omega⟩
theorem light_is {s : T} {r : List V} {b : Bool} (hb : lightB s r = b) (sl rl : Value) (hcn : s.cols.length ≤ 9223372036854775807) (hrn : r.length ≤ 9223372036854775807) (w : World) (h : ColsAt s.cols sl w) (hr : RowAt r rl w) :
    Calls Try.prog 9 #[.agg #[.string (S s.nm), sl, .int .i64 s.keys], rl] w fun e w' => e = .returned (.bool b) ∧ Below w.heap.size w w' := hb ▸ light_any s sl r rl hcn hrn w h hr
theorem key_short (x : T) (r : List V) (h : r.length ≤ 1000000) : (keyB x r).length ≤ 1000000 := by
  unfold keyB; split
  · rw [List.length_take]; omega
  · simp
theorem wide_short (a : T) (r : List V) (h : a.cols.length ≤ 1000000) : (widenB a r).1.length ≤ 1000000 := by
  unfold widenB
  split
  · simp
  · split
    · simp
    · split
      · show (wideB a r).length ≤ _
        rw [wide_len (by omega)]; exact h
      · simp
theorem r_step {q : Nat} {wb : World} {a : T} {ao : Option Addr} {ac : Nat} {w1 w' : World} (h : w1.cell? ⟨q, 0, none⟩ = some (.string (S a.nm)) ∧ w1.cell? ⟨q, 1, none⟩ = some (.slice ao a.cols.length ac) ∧ w1.cell? ⟨q, 2, none⟩ = some (.int .i64 a.keys) ∧ Below wb.heap.size wb w1 ∧ wb.heap.size ≤ w1.heap.size) (hb : Below w1.heap.size w1 w') : w'.cell? ⟨q, 0, none⟩ = some (.string (S a.nm)) ∧ w'.cell? ⟨q, 1, none⟩ = some (.slice ao a.cols.length ac) ∧ w'.cell? ⟨q, 2, none⟩ = some (.int .i64 a.keys) ∧ Below wb.heap.size wb w' ∧ wb.heap.size ≤ w'.heap.size := by
  obtain ⟨c0, c1, c2, hB, hz⟩ := h
  exact ⟨cell_later hb c0, cell_later hb c1, cell_later hb c2, hB.trans (hb.mono hz), Nat.le_trans hz hb.size⟩
set_option maxHeartbeats 8000000 in
set_option maxRecDepth 100000 in
theorem skip_a (a : T) (ao : Option Addr) (ac : Nat) (r : List V) (ro : Option Addr) (rc : Nat) (na : a.inn) (nr : r.length ≤ 9223372036854775807) (hb64 : ∀ v ∈ r, v.b < 18446744073709551616) (w : World) (h1 : ColsAt a.cols (.slice ao a.cols.length ac) w) (hr : RowC r (.slice ro r.length rc) w) (hl : lightB a r = false) : Calls Try.prog 4 #[.agg #[.string (S a.nm), .slice ao a.cols.length ac, .int .i64 a.keys], .slice ro r.length rc] w fun e w' => e = .returned (.bool true) ∧ Below w.heap.size w w' := by
  have hla := hidm hl
  clear hl
  have HS0 := hidm (Boxed.start a ao ac w)
  have HA := hidm h1
  have HR := hidm hr
  have NA := hidm na
  have NR := hidm nr
  have HRB := hidm hb64
  clear h1 hr na nr hb64
  go_enter Try.func4, Try.ntmps4
  go_wp2_with fail
  refine (light_is hla.out (.slice ao a.cols.length ac) (.slice ro r.length rc) NA.out.n NR.out _ (HA.out.later HS0.out.below) (HR.out.later HS0.out.below).row).mono ?_
  rintro e w1 ⟨rfl, hb⟩
  have HS1 := hidm (HS0.out.then hb)
  clear hb
  go_wp2_with fail
  refine (known_any _).mono ?_
  rintro e wk ⟨rfl, hb⟩
  have HSK := hidm (HS1.out.then hb)
  clear hb
  go_wp2_with fail
  go_ret
  exact ⟨rfl, HSK.out.below⟩
set_option maxHeartbeats 8000000 in
set_option maxRecDepth 100000 in
theorem main_any (a : T) (ao : Option Addr) (ac : Nat) (r : List V) (ro : Option Addr) (rc : Nat) (na : a.inn) (nr : r.length ≤ 9223372036854775807) (hb64 : ∀ v ∈ r, v.b < 18446744073709551616) (w : World) (h1 : ColsAt a.cols (.slice ao a.cols.length ac) w) (hr : RowC r (.slice ro r.length rc) w) (hl : lightB a r = true) : Calls Try.prog 4 #[.agg #[.string (S a.nm), .slice ao a.cols.length ac, .int .i64 a.keys], .slice ro r.length rc] w fun e w' => e = .returned (.bool true) ∧ Below w.heap.size w w' := by
  have hla := hidm hl
  have LM := hidm (lim_of hl)
  have HRN := hidm (show r.length ≤ 1000000 from by have := (light_parts hl).2.2.1; omega)
  have HRS := hidm (show ∀ v ∈ r, v.s.length ≤ 281474976710656 from fun v hv => by have := (light_parts hl).2.2.2.2 v hv; omega)
  have HCN := hidm (show a.cols.length ≤ 1000000 from by have := (light_parts hl).1; omega)
  obtain ⟨fx, hfx⟩ : ∃ q, fitsB a r = q := ⟨_, rfl⟩
  have HF := hidm hfx
  obtain ⟨x6, hx6⟩ : ∃ q, q = (widenB a r).2 := ⟨_, rfl⟩
  have HXX := hidm hx6
  obtain ⟨ws, hws⟩ : ∃ q, q = (widenB a r).1 := ⟨_, rfl⟩
  have HWW := hidm hws
  have HWL := hidm (show ws.length ≤ 1000000 from by rw [hws]; exact wide_short a r HCN.out)
  clear hl hfx hx6 hws
  have HS0 := hidm (Boxed.start a ao ac w)
  have HA := hidm h1
  have HR := hidm hr
  have NA := hidm na
  have NR := hidm nr
  have HRB := hidm hb64
  clear h1 hr na nr hb64
  go_enter Try.func4, Try.ntmps4
  go_wp2_with fail
  refine (light_is hla.out (.slice ao a.cols.length ac) (.slice ro r.length rc) NA.out.n NR.out _ (HA.out.later HS0.out.below) (HR.out.later HS0.out.below).row).mono ?_
  rintro e w1 ⟨rfl, hb⟩
  have HS1 := hidm (HS0.out.then hb)
  clear hb
  have c0 := HS1.out.c0
  have c1 := HS1.out.c1
  have c2 := HS1.out.c2
  go_wp2_with fail
  have W1 := widen_any a LM.out (.slice ao a.cols.length ac) r (.slice ro r.length rc) HRN.out HRS.out _ (HA.out.later HS1.out.below) (HR.out.later HS1.out.below)
  rw [← HXX.out, ← HWW.out] at W1
  refine W1.mono ?_
  rintro e w2 ⟨v2, rfl, hv, hb⟩
  have HS2 := hidm (HS1.out.then hb)
  have HV2 := hidm hv
  clear hb hv W1 c0 c1 c2
  have c0 := HS2.out.c0
  have c1 := HS2.out.c1
  have c2 := HS2.out.c2
  go_wp2_with fail
  have W1 := rwiden_any a LM.out (.slice ao a.cols.length ac) r (.slice ro r.length rc) HRN.out HRB.out _ (HA.out.later HS2.out.below) (HR.out.later HS2.out.below)
  rw [← HXX.out, ← HWW.out] at W1
  refine W1.mono ?_
  rintro e w3 ⟨v3, rfl, hv, hb⟩
  have HS3 := hidm (HS2.out.then hb)
  have HV3 := hidm hv
  have HV2b := hidm (HV2.out.later hb)
  clear hb hv W1 c0 c1 c2 HV2
  have c0 := HS3.out.c0
  have c1 := HS3.out.c1
  have c2 := HS3.out.c2
  have HA3 := hidm (HA.out.later HS3.out.below)
  have HR3 := hidm (HR.out.later HS3.out.below)
  have SS0 := hidm (show w3.cell? ⟨w.heap.size, 0, none⟩ = some (.string (S a.nm)) ∧ w3.cell? ⟨w.heap.size, 1, none⟩ = some (.slice ao a.cols.length ac) ∧ w3.cell? ⟨w.heap.size, 2, none⟩ = some (.int .i64 a.keys) ∧ Below w3.heap.size w3 w3 ∧ w3.heap.size ≤ w3.heap.size from ⟨c0, c1, c2, Below.refl _ _, Nat.le_refl _⟩)
  clear c0 c1 c2
  go_wp2_with fail
  refine wp_region_held_drew (S := fun u => u.cell? ⟨w.heap.size, 0, none⟩ = some (.string (S a.nm)) ∧ u.cell? ⟨w.heap.size, 1, none⟩ = some (.slice ao a.cols.length ac) ∧ u.cell? ⟨w.heap.size, 2, none⟩ = some (.int .i64 a.keys) ∧ Below w3.heap.size w3 u ∧ w3.heap.size ≤ u.heap.size) (by kernel_rfl) ?_ (fun hHeld => ?_)
  · exact r_step SS0.out ((Below.refl _ _).drew)
  refine Man.take1 (i := 0) (v := ?_) rfl (by kernel_rfl) (by kernel_rfl) (by kernel_rfl) (fun _ _ _ h => h) (by rfl) ?_ (by assumption) ?_
  rotate_left
  · (intro u hSu; (try dsimp only at hSu); go_simp; (try with_reducible rfl))
  (try simp only [Act.put, List.setIfInBounds_toArray, List.set_cons_zero, List.set_cons_succ])
  refine Man.take1 (i := 1) (v := ?_) rfl (by kernel_rfl) (by kernel_rfl) (by kernel_rfl) (fun _ _ _ h => h) (by rfl) ?_ (by assumption) ?_
  rotate_left
  · (intro u hSu; (try dsimp only at hSu); go_simp; (try with_reducible rfl))
  (try simp only [Act.put, List.setIfInBounds_toArray, List.set_cons_zero, List.set_cons_succ])
  refine Man.take1 (i := 3) (v := ?_) rfl (by kernel_rfl) (by kernel_rfl) (by kernel_rfl) (fun _ _ _ h => h) (by rfl) ?_ (by assumption) ?_
  rotate_left
  · (intro u hSu; (try dsimp only at hSu); go_simp; (try with_reducible rfl))
  (try simp only [Act.put, List.setIfInBounds_toArray, List.set_cons_zero, List.set_cons_succ])
  refine Man.take1 (i := 4) (v := ?_) rfl (by kernel_rfl) (by kernel_rfl) (by kernel_rfl) (fun _ _ _ h => h) (by rfl) ?_ (by assumption) ?_
  rotate_left
  · (intro u hSu; (try dsimp only at hSu); go_simp; (try with_reducible rfl))
  (try simp only [Act.put, List.setIfInBounds_toArray, List.set_cons_zero, List.set_cons_succ])
  refine Man.one (i := 2) rfl (by kernel_rfl) (fun K hK => ?_)
  go_simp
  (go_at_call 23; (with_reducible refine (fits_is HF.out LM.out _ _ HRN.out _ (HA3.out.later hHeld.2.2.2.1) (RowC.row (HR3.out.later hHeld.2.2.2.1))).mono ?_); rintro e w' ⟨rfl, hb⟩)
  refine hK.out _ _ ?_ (fun hNew => ?_)
  · exact r_step hHeld hb
  clear hHeld hK K hb
  have hHeld := hNew
  clear hNew
  (try simp only [Act.put, List.setIfInBounds_toArray, List.set_cons_zero, List.set_cons_succ])
  refine Man.one (i := 5) rfl (by kernel_rfl) (fun K hK => ?_)
  go_simp
  (go_at_call 24; (with_reducible refine (rfits_is HF.out LM.out _ _ HRN.out HRB.out _ (HA3.out.later hHeld.2.2.2.1) (RowC.row (HR3.out.later hHeld.2.2.2.1))).mono ?_); rintro e w' ⟨rfl, hb⟩)
  refine hK.out _ _ ?_ (fun hNew => ?_)
  · exact r_step hHeld hb
  clear hHeld hK K hb
  have hHeld := hNew
  clear hNew
  (try simp only [Act.put, List.setIfInBounds_toArray, List.set_cons_zero, List.set_cons_succ])
  refine Man.take1 (i := 6) (v := ?_) rfl (by kernel_rfl) (by kernel_rfl) (by kernel_rfl) (fun _ _ _ h => h) (by rfl) ?_ (by assumption) ?_
  rotate_left
  · (intro u hSu; (try dsimp only at hSu); go_simp; (try with_reducible rfl))
  (try simp only [Act.put, List.setIfInBounds_toArray, List.set_cons_zero, List.set_cons_succ])
  refine Man.take1 (i := 7) (v := ?_) rfl (by kernel_rfl) (by kernel_rfl) (by kernel_rfl) (fun _ _ _ h => h) (by rfl) ?_ (by assumption) ?_
  rotate_left
  · (intro u hSu; (try dsimp only at hSu); go_simp; (try with_reducible rfl))
  (try simp only [Act.put, List.setIfInBounds_toArray, List.set_cons_zero, List.set_cons_succ])
  refine Man.take1 (i := 8) (v := ?_) rfl (by kernel_rfl) (by kernel_rfl) (by kernel_rfl) (fun _ _ _ h => h) (by rfl) ?_ (by assumption) ?_
  rotate_left
  · (intro u hSu; (try dsimp only at hSu); go_simp; (try with_reducible rfl))
  (try simp only [Act.put, List.setIfInBounds_toArray, List.set_cons_zero, List.set_cons_succ])
  refine Man.take1 (i := 9) (v := ?_) rfl (by kernel_rfl) (by kernel_rfl) (by kernel_rfl) (fun _ _ _ h => h) (by rfl) ?_ (by assumption) ?_
  rotate_left
  · (intro u hSu; (try dsimp only at hSu); go_simp; (try with_reducible rfl))
  (try simp only [Act.put, List.setIfInBounds_toArray, List.set_cons_zero, List.set_cons_succ])
  refine Man.take1 (i := 11) (v := ?_) rfl (by kernel_rfl) (by kernel_rfl) (by kernel_rfl) (fun _ _ _ h => h) (by rfl) ?_ (by assumption) ?_
  rotate_left
  · (intro u hSu; (try dsimp only at hSu); go_simp; (try with_reducible rfl))
  (try simp only [Act.put, List.setIfInBounds_toArray, List.set_cons_zero, List.set_cons_succ])
  refine Man.take1 (i := 12) (v := ?_) rfl (by kernel_rfl) (by kernel_rfl) (by kernel_rfl) (fun _ _ _ h => h) (by rfl) ?_ (by assumption) ?_
  rotate_left
  · (intro u hSu; (try dsimp only at hSu); go_simp; (try with_reducible rfl))
  (try simp only [Act.put, List.setIfInBounds_toArray, List.set_cons_zero, List.set_cons_succ])
  refine Man.one (i := 10) rfl (by kernel_rfl) (fun K hK => ?_)
  go_simp
  (go_at_call 26; (refine (key_any a LM.out (.slice ao a.cols.length ac) r (.slice ro r.length rc) HRN.out HRS.out _ (HA3.out.later hHeld.2.2.2.1) (HR3.out.later hHeld.2.2.2.1)).mono ?_); rintro e w' ⟨vk, rfl, hvk, hb⟩; have HVK := hidm hvk; clear hvk)
  refine hK.out _ _ ?_ (fun hNew => ?_)
  · exact r_step hHeld hb
  clear hHeld hK K hb
  have hHeld := hNew
  clear hNew
  (try simp only [Act.put, List.setIfInBounds_toArray, List.set_cons_zero, List.set_cons_succ])
  refine Man.one (i := 13) rfl (by kernel_rfl) (fun K hK => ?_)
  go_simp
  (go_at_call 27; (refine (rkey_any a LM.out (.slice ao a.cols.length ac) r (.slice ro r.length rc) HRN.out HRB.out _ (HA3.out.later hHeld.2.2.2.1) (HR3.out.later hHeld.2.2.2.1)).mono ?_); rintro e w' ⟨vk2, rfl, hvk2, hb⟩; have HVK1 := hidm (HVK.out.later hb); have HVK2 := hidm hvk2; clear hvk2)
  refine hK.out _ _ ?_ (fun hNew => ?_)
  · exact r_step hHeld hb
  clear hHeld hK K hb
  have hHeld := hNew
  clear hNew
  (try simp only [Act.put, List.setIfInBounds_toArray, List.set_cons_zero, List.set_cons_succ])
  refine Man.one (i := 14) rfl (by kernel_rfl) (fun K hK => ?_)
  go_simp
  (go_at_call 25; (with_reducible refine (rows_same (keyB a r) _ _ (key_short a r HRN.out) _ HVK1.out.row HVK2.out.row).mono ?_); rintro e w' ⟨rfl, hb⟩)
  refine hK.out _ _ ?_ (fun hNew => ?_)
  · exact r_step hHeld hb
  clear hHeld hK K hb
  have hHeld := hNew
  clear hNew
  (try simp only [Act.put, List.setIfInBounds_toArray, List.set_cons_zero, List.set_cons_succ])
  refine Man.take1 (i := 15) (v := ?_) rfl (by kernel_rfl) (by kernel_rfl) (by kernel_rfl) (fun _ _ _ h => h) (by rfl) ?_ (by assumption) ?_
  rotate_left
  · (intro u hSu; (try dsimp only at hSu); go_simp; (try with_reducible rfl))
  (try simp only [Act.put, List.setIfInBounds_toArray, List.set_cons_zero, List.set_cons_succ])
  refine Man.take1 (i := 16) (v := ?_) rfl (by kernel_rfl) (by kernel_rfl) (by kernel_rfl) (fun _ _ _ h => h) (by rfl) ?_ (by assumption) ?_
  rotate_left
  · (intro u hSu; (try dsimp only at hSu); go_simp; (try with_reducible rfl))
  (try simp only [Act.put, List.setIfInBounds_toArray, List.set_cons_zero, List.set_cons_succ])
  refine Man.take1 (i := 17) (v := ?_) rfl (by kernel_rfl) (by kernel_rfl) (by kernel_rfl) (fun _ _ _ h => h) (by rfl) ?_ (by assumption) ?_
  rotate_left
  · (intro u hSu; (try dsimp only at hSu); go_simp; (try with_reducible rfl))
  (try simp only [Act.put, List.setIfInBounds_toArray, List.set_cons_zero, List.set_cons_succ])
  refine Man.take1 (i := 18) (v := ?_) rfl (by kernel_rfl) (by kernel_rfl) (by kernel_rfl) (fun _ _ _ h => h) (by rfl) ?_ (by assumption) ?_
  rotate_left
  · (intro u hSu; (try dsimp only at hSu); go_simp; (try with_reducible rfl))
  (try simp only [Act.put, List.setIfInBounds_toArray, List.set_cons_zero, List.set_cons_succ])
  refine Man.one (i := 19) rfl (by kernel_rfl) (fun K hK => ?_)
  go_simp
  (go_at_call 25; (with_reducible refine (rows_same ws _ _ HWL.out _ (RowC.row (HV2b.out.later hHeld.2.2.2.1)) (RowC.row (HV3.out.later hHeld.2.2.2.1))).mono ?_); rintro e w' ⟨rfl, hb⟩)
  refine hK.out _ _ ?_ (fun hNew => ?_)
  · exact r_step hHeld hb
  clear hHeld hK K hb
  have hHeld := hNew
  clear hNew
  (try simp only [Act.put, List.setIfInBounds_toArray, List.set_cons_zero, List.set_cons_succ])
  refine Man.take1 (i := 20) (v := ?_) rfl (by kernel_rfl) (by kernel_rfl) (by kernel_rfl) (fun _ _ _ h => h) (by rfl) ?_ (by assumption) ?_
  rotate_left
  · (intro u hSu; (try dsimp only at hSu); go_simp; (try with_reducible rfl))
  (try simp only [Act.put, List.setIfInBounds_toArray, List.set_cons_zero, List.set_cons_succ])
  refine Man.take1 (i := 21) (v := ?_) rfl (by kernel_rfl) (by kernel_rfl) (by kernel_rfl) (fun _ _ _ h => h) (by rfl) ?_ (by assumption) ?_
  rotate_left
  · (intro u hSu; (try dsimp only at hSu); go_simp; (try with_reducible rfl))
  (try simp only [Act.put, List.setIfInBounds_toArray, List.set_cons_zero, List.set_cons_succ])
  refine Man.take1 (i := 22) (v := ?_) rfl (by kernel_rfl) (by kernel_rfl) (by kernel_rfl) (fun _ _ _ h => h) (by rfl) ?_ (by assumption) ?_
  rotate_left
  · (intro u hSu; (try dsimp only at hSu); go_simp; (try with_reducible rfl))
  (try simp only [Act.put, List.setIfInBounds_toArray, List.set_cons_zero, List.set_cons_succ])
  refine Man.take1 (i := 23) (v := ?_) rfl (by kernel_rfl) (by kernel_rfl) (by kernel_rfl) (fun _ _ _ h => h) (by rfl) ?_ (by assumption) ?_
  rotate_left
  · (intro u hSu; (try dsimp only at hSu); go_simp; (try with_reducible rfl))
  (try simp only [Act.put, List.setIfInBounds_toArray, List.set_cons_zero, List.set_cons_succ])
  refine Man.take1 (i := 24) (v := ?_) rfl (by kernel_rfl) (by kernel_rfl) (by kernel_rfl) (fun _ _ _ h => h) (by rfl) ?_ (by assumption) ?_
  rotate_left
  · (intro u hSu; (try dsimp only at hSu); go_simp; (try with_reducible rfl))
  (try simp only [Act.put, List.setIfInBounds_toArray, List.set_cons_zero, List.set_cons_succ])
  refine Man.take1 (i := 25) (v := ?_) rfl (by kernel_rfl) (by kernel_rfl) (by kernel_rfl) (fun _ _ _ h => h) (by rfl) ?_ (by assumption) ?_
  rotate_left
  · (intro u hSu; (try dsimp only at hSu); go_simp; (try with_reducible rfl))
  (try simp only [Act.put, List.setIfInBounds_toArray, List.set_cons_zero, List.set_cons_succ])
  refine Man.take1 (i := 26) (v := ?_) rfl (by kernel_rfl) (by kernel_rfl) (by kernel_rfl) (fun _ _ _ h => h) (by rfl) ?_ (by assumption) ?_
  rotate_left
  · (intro u hSu; (try dsimp only at hSu); go_simp; (try with_reducible rfl))
  (try simp only [Act.put, List.setIfInBounds_toArray, List.set_cons_zero, List.set_cons_succ])
  refine Man.one (i := 27) rfl (by kernel_rfl) (fun K hK => ?_)
  go_simp
  (go_at_call 10; (with_reducible refine (known_any _).mono ?_); rintro e w' ⟨rfl, hb⟩)
  refine hK.out _ _ ?_ (fun hNew => ?_)
  · exact r_step hHeld hb
  clear hHeld hK K hb
  have hHeld := hNew
  clear hNew
  (try simp only [Act.put, List.setIfInBounds_toArray, List.set_cons_zero, List.set_cons_succ])
  refine Man.take1 (i := 28) (v := ?_) rfl (by kernel_rfl) (by kernel_rfl) (by kernel_rfl) (fun _ _ _ h => h) (by rfl) ?_ (by assumption) ?_
  rotate_left
  · (intro u hSu; (try dsimp only at hSu); go_simp; (try with_reducible rfl))
  (try simp only [Act.put, List.setIfInBounds_toArray, List.set_cons_zero, List.set_cons_succ])
  refine Man.take1 (i := 29) (v := ?_) rfl (by kernel_rfl) (by kernel_rfl) (by kernel_rfl) (fun _ _ _ h => h) (by rfl) ?_ (by assumption) ?_
  rotate_left
  · (intro u hSu; (try dsimp only at hSu); go_simp; (try with_reducible rfl))
  (try simp only [Act.put, List.setIfInBounds_toArray, List.set_cons_zero, List.set_cons_succ])
  refine wpAnyH_done (by kernel_rfl) ?_ _
  obtain ⟨_, _, _, hqb, hqz⟩ := hHeld
  have HBF := hidm (HS3.out.then hqb)
  clear hqb hqz SS0
  go_wp2_with fail
  go_ret
  exact ⟨rfl, HBF.out.below⟩
theorem law_any (a : T) (sa : Value) (r : List V) (rl : Value) (na : a.inn) (nr : r.length ≤ 9223372036854775807) (hb64 : ∀ v ∈ r, v.b < 18446744073709551616) (w : World) (h1 : ColsAt a.cols sa w) (hr : RowC r rl w) :
    Calls Try.prog 4 #[.agg #[.string (S a.nm), sa, .int .i64 a.keys], rl] w fun e w' => e = .returned (.bool true) ∧ Below w.heap.size w w' := by
  obtain ⟨ao, ac, rfl, _, _⟩ := h1.form
  obtain ⟨ro, rc, hrl, _, _⟩ := hr.2
  subst hrl
  rcases g1 : lightB a r with _ | _
  · exact skip_a a ao ac r ro rc na nr hb64 w h1 hr g1
  · exact main_any a ao ac r ro rc na nr hb64 w h1 hr g1
theorem laidOut : laidOutB Try.prog = true := by kernel_rfl
set_option maxRecDepth 100000 in
theorem contract (H : Type) (enc : TypeId × Value → H) (W : World) (base : Nat) (args : Array Value) (ds gs : List (DataW H)) (before : List MemPlace)
    (hval : ∀ (j : Nat) t v, Try.f4.params[j]? = some t → args[j]? = some v → Value.okWide Try.prog W .any base t v)
    (hW : DataW.Whole enc Try.prog Try.f4.params.toList Rows.schemaRowsSpec.vars false W args.toList ds gs before) :
    Calls Try.prog 4 args W fun e W' => ∃ v, e = .returned v ∧ Rows.schemaRowsSpec.post enc Try.prog Try.f4 false true false false W args v W' := by
  have hW' := hW
  obtain ⟨p, q, hA0, hV, rfl, hfz, hnd⟩ := hW
  have hA : DataW.TrodAll enc Try.prog W 0 (fun _ => true) true Try.f4.params.toList args.toList ds p := hA0
  rw [Try.params4] at hA hval
  obtain ⟨v0, vs0, d0, ds0, p0, q0, hargs, rfl, rfl, h0, r0⟩ := trodAll_cons hA
  obtain ⟨v1, vs1, d1, ds1, p1, q1, rfl, rfl, rfl, h1, r1⟩ := trodAll_cons r0
  obtain ⟨rfl, rfl, rfl⟩ := trodAll_nil r1
  obtain rfl : args = #[v0, v1] := by cases args; simp_all
  obtain ⟨rfl, rfl⟩ := trodVars_none hV
  obtain ⟨a, sla, rfl, hca, hna⟩ := open_schema (hval 0 24 v0 rfl rfl) h0
  obtain ⟨r, hcr, hir, hnr⟩ := open_row (hval 1 32 v1 rfl rfl) h1
  clear hA0
  simp only [List.append_nil] at hW'
  have hlt : ∀ x ∈ p0 ++ p1, x.block < W.heap.size := fun x hx => hW'.lt x (by simpa using hx)
  have walk := law_any a sla r v1 hna hnr (fun v hv => (hir v hv).b) W hca hcr
  refine walk.mono fun e W' ⟨he, hg⟩ => ?_
  subst he
  refine ⟨_, rfl, Fr.post_made (pa := p0 ++ p1) (pv := []) hW' (fun _ _ _ => trodAll_cons_mk (shut_bool Try.underlying4 _) trodAll_mk0) (fun sp hsp => ?_) (fun _ _ => rfl) (by simp) hg (ok_one (by kernel_rfl) rfl (okWide_bool_mk Try.underlying4 _))⟩
  have g0 : DataW.Trod enc Try.prog W' 0 sp true 24 _ d0 p0 := WideElems.Trod_stays laidOut (by kernel_rfl) (of_decide_eq_true (by kernel_rfl)) h0 (fun x hx => hg.same (hlt x (by simp [hx]))) (fun x hx => hsp x (by simp [hx]))
  have g1 : DataW.Trod enc Try.prog W' 0 sp true 32 _ d1 p1 := WideElems.Trod_stays laidOut (by kernel_rfl) (of_decide_eq_true (by kernel_rfl)) h1 (fun x hx => hg.same (hlt x (by simp [hx]))) (fun x hx => hsp x (by simp [hx]))
  have hT := (trodAll_cons_mk g0 (trodAll_cons_mk g1 trodAll_mk0))
  simp only [List.append_nil] at hT
  exact hT
set_option maxRecDepth 100000 in
theorem lifted (os : Os) (started : os.Started) (H : Type) (enc : TypeId × Value → H) :
    ReturnsInHanded {} Try.checked os 4 .any (Rows.schemaRowsSpec.pre6 enc Try.prog Try.f4 Rows.schemaRowsRow.domain false) (Rows.schemaRowsSpec.post enc Try.prog Try.f4 false true false false) := by
  refine returnsInHanded_of_change (C := Try.checked) Fr.own started (by kernel_rfl) Try.func4
    (ChangeSpec.witness6 (enc := enc) (C := Try.checked) false ⟨#[], #[.agg #[.string ⟨#[]⟩, .slice none 0 0, .int .i64 0], .slice none 0 0], []⟩ 8 (by kernel_rfl) (by kernel_rfl) (by kernel_rfl) (by kernel_rfl)) ?_
  intro W base args ds gs before hval hW _ _
  exact contract H enc W base args ds gs before hval hW
theorem said : Rows.SchemaRowsSaid :=
  OpenClaim.holds_of_wide 4 Try.f4 rfl rfl rfl rfl rfl rfl rfl ⟨rfl, rfl, rfl, rfl, rfl⟩ rfl rfl rfl rfl rfl (by kernel_rfl) Try.func4 (by kernel_rfl)
    (of_decide_eq_true (by kernel_rfl)) (by unfold Func.isWrapper; first | (rw [if_pos (by decide +kernel)]; kernel_rfl) | (rw [if_neg (by decide +kernel)]; exact ⟨rfl, rfl⟩))
    (fun os started H enc _ => lifted os started H enc)
end LaSchemaRows
end Go.Proofs.Ytkgiomdjihcfoaa
