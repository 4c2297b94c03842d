/- SchemaTells is proved: for every two schemas and every text the law returns true and its arguments read as they did. No other condition. -/
import Derived.Test.YtkgiomdjihcfoaaJx
import Derived.Test.YtkgiomdjihcfoaaJy
import Derived.Test.YtkgiomdjihcfoaaJz
import Derived.Test.YtkgiomdjihcfoaaKa
import Derived.Test.YtkgiomdjihcfoaaKh
import Derived.Test.YtkgiomdjihcfoaaKi
import Derived.WideKeyPair
namespace Go.Proofs.Ytkgiomdjihcfoaa
open Go.ChangeShapes Go.WideShapes Go.ChangeAt Go.RowKit
open Go.ChangeMaps (open_string shut_string)
namespace LaSchemaTells
open Cod Sch
theorem lim_of {a : T} {r : List V} (h : lightB a r = true) : Lim a := by
  obtain ⟨h1, h2, _, h4, _⟩ := light_parts h
  exact ⟨by omega, fun c hc => by have := h4 c hc; omega, by omega⟩
theorem light_is {s : T} {r : List V} {b : Bool} (hb : lightB s r = b) (sl rl : Value) (hcn : s.cols.length ≤ 9223372036854775807) (hrn : r.length ≤ 9223372036854775807) (w : World) (h : ColsAt s.cols sl w) (hr : RowAt r rl w) :
    Calls Try.prog 9 #[.agg #[.string (S s.nm), sl, .int .i64 s.keys], rl] w fun e w' => e = .returned (.bool b) ∧ Below w.heap.size w w' := hb ▸ light_any s sl r rl hcn hrn w h hr
theorem row_nil (w : World) : RowAt [] (.slice none 0 0) w := ⟨none, 0, rfl, fun hne => absurd rfl hne⟩
theorem rext_is {a b : T} {x : Bool} (hx : extB a b = x) (la : Lim a) (lb : Lim b) (sa sb : Value) (w : World) (h1 : ColsAt a.cols sa w) (h2 : ColsAt b.cols sb w) :
    Calls Try.prog 16 #[.agg #[.string (S a.nm), sa, .int .i64 a.keys], .agg #[.string (S b.nm), sb, .int .i64 b.keys]] w fun e w' => e = .returned (.bool x) ∧ Below w.heap.size w w' := hx ▸ rextends_any a b la lb sa sb w h1 h2
theorem rsame_is {a b : T} {x : Bool} (hx : sameB a b = x) (sa sb : Value) (ha : a.cols.length ≤ 1000000) (hb : b.cols.length ≤ 1000000) (w : World) (h1 : ColsAt a.cols sa w) (h2 : ColsAt b.cols sb w) :
    Calls Try.prog 18 #[.agg #[.string (S a.nm), sa, .int .i64 a.keys], .agg #[.string (S b.nm), sb, .int .i64 b.keys]] w fun e w' => e = .returned (.bool x) ∧ Below w.heap.size w w' := hx ▸ rsame_any a b sa sb ha hb w h1 h2
theorem t_step {q : Nat} {wb : World} {a b : T} {ao bo : Option Addr} {ac bc : Nat} {w1 w' : World} (h : w1.cell? ⟨q, 0, none⟩ = some (.string (S a.nm)) ∧ w1.cell? ⟨q, 1, none⟩ = some (.slice ao a.cols.length ac) ∧ w1.cell? ⟨q, 2, none⟩ = some (.int .i64 a.keys) ∧ w1.cell? ⟨q + 1, 0, none⟩ = some (.string (S b.nm)) ∧ w1.cell? ⟨q + 1, 1, none⟩ = some (.slice bo b.cols.length bc) ∧ w1.cell? ⟨q + 1, 2, none⟩ = some (.int .i64 b.keys) ∧ Below wb.heap.size wb w1 ∧ wb.heap.size ≤ w1.heap.size) (hb : Below w1.heap.size w1 w') : w'.cell? ⟨q, 0, none⟩ = some (.string (S a.nm)) ∧ w'.cell? ⟨q, 1, none⟩ = some (.slice ao a.cols.length ac) ∧ w'.cell? ⟨q, 2, none⟩ = some (.int .i64 a.keys) ∧ w'.cell? ⟨q + 1, 0, none⟩ = some (.string (S b.nm)) ∧ w'.cell? ⟨q + 1, 1, none⟩ = some (.slice bo b.cols.length bc) ∧ w'.cell? ⟨q + 1, 2, none⟩ = some (.int .i64 b.keys) ∧ Below wb.heap.size wb w' ∧ wb.heap.size ≤ w'.heap.size := by
  obtain ⟨c0, c1, c2, c3, c4, c5, hB, hz⟩ := h
  exact ⟨cell_later hb c0, cell_later hb c1, cell_later hb c2, cell_later hb c3, cell_later hb c4, cell_later hb c5, hB.trans (hb.mono hz), Nat.le_trans hz hb.size⟩
set_option maxHeartbeats 8000000 in
set_option maxRecDepth 100000 in
theorem skip_a (a b : T) (ao bo : Option Addr) (ac bc : Nat) (l : List UInt8) (na : a.inn) (nb : b.inn) (w : World) (h1 : ColsAt a.cols (.slice ao a.cols.length ac) w) (h2 : ColsAt b.cols (.slice bo b.cols.length bc) w) (hl : lightB a [] = false) : Calls Try.prog 3 #[.agg #[.string (S a.nm), .slice ao a.cols.length ac, .int .i64 a.keys], .agg #[.string (S b.nm), .slice bo b.cols.length bc, .int .i64 b.keys], .string (S l)] w fun e w' => e = .returned (.bool true) ∧ Below w.heap.size w w' := by
  have hla := hidm hl
  clear hl
  have HS0 := hidm (Boxed2.start a b ao ac bo bc w)
  have HA := hidm h1
  have HB := hidm h2
  have NA := hidm na
  have NB := hidm nb
  clear h1 h2 na nb
  go_enter Try.func3, Try.ntmps3
  go_wp2_with fail
  refine (light_is hla.out (.slice ao a.cols.length ac) (.slice none 0 0) NA.out.n (by simp) _ (HA.out.later HS0.out.below) (row_nil _)).mono ?_
  rintro e w1 ⟨rfl, hb⟩
  have HS1 := hidm (HS0.out.then hb)
  clear hb
  go_wp2_with fail
  refine (known_any _).mono ?_
  rintro e wk ⟨rfl, hb⟩
  have HSK := hidm (HS1.out.then hb)
  clear hb
  go_wp2_with fail
  go_ret
  exact ⟨rfl, HSK.out.below⟩
set_option maxHeartbeats 8000000 in
set_option maxRecDepth 100000 in
theorem skip_b (a b : T) (ao bo : Option Addr) (ac bc : Nat) (l : List UInt8) (na : a.inn) (nb : b.inn) (w : World) (h1 : ColsAt a.cols (.slice ao a.cols.length ac) w) (h2 : ColsAt b.cols (.slice bo b.cols.length bc) w) (hl : lightB a [] = true) (hl2 : lightB b [] = false) : Calls Try.prog 3 #[.agg #[.string (S a.nm), .slice ao a.cols.length ac, .int .i64 a.keys], .agg #[.string (S b.nm), .slice bo b.cols.length bc, .int .i64 b.keys], .string (S l)] w fun e w' => e = .returned (.bool true) ∧ Below w.heap.size w w' := by
  have hla := hidm hl
  have hlb := hidm hl2
  clear hl hl2
  have HS0 := hidm (Boxed2.start a b ao ac bo bc w)
  have HA := hidm h1
  have HB := hidm h2
  have NA := hidm na
  have NB := hidm nb
  clear h1 h2 na nb
  go_enter Try.func3, Try.ntmps3
  go_wp2_with fail
  refine (light_is hla.out (.slice ao a.cols.length ac) (.slice none 0 0) NA.out.n (by simp) _ (HA.out.later HS0.out.below) (row_nil _)).mono ?_
  rintro e w1 ⟨rfl, hb⟩
  have HS1 := hidm (HS0.out.then hb)
  clear hb
  have b0 := HS1.out.b0
  have b1 := HS1.out.b1
  have b2 := HS1.out.b2
  go_wp2_with fail
  refine (light_is hlb.out (.slice bo b.cols.length bc) (.slice none 0 0) NB.out.n (by simp) _ (HB.out.later HS1.out.below) (row_nil _)).mono ?_
  rintro e w2 ⟨rfl, hb⟩
  have HS2 := hidm (HS1.out.then hb)
  clear hb
  clear b0 b1 b2
  go_wp2_with fail
  refine (known_any _).mono ?_
  rintro e wk ⟨rfl, hb⟩
  have HSK := hidm (HS2.out.then hb)
  clear hb
  go_wp2_with fail
  go_ret
  exact ⟨rfl, HSK.out.below⟩
set_option maxHeartbeats 8000000 in
set_option maxRecDepth 100000 in
theorem skip_l (a b : T) (ao bo : Option Addr) (ac bc : Nat) (l : List UInt8) (na : a.inn) (nb : b.inn) (w : World) (h1 : ColsAt a.cols (.slice ao a.cols.length ac) w) (h2 : ColsAt b.cols (.slice bo b.cols.length bc) w) (hl : lightB a [] = true) (hl2 : lightB b [] = true) (hl3 : 100 < l.length) : Calls Try.prog 3 #[.agg #[.string (S a.nm), .slice ao a.cols.length ac, .int .i64 a.keys], .agg #[.string (S b.nm), .slice bo b.cols.length bc, .int .i64 b.keys], .string (S l)] w fun e w' => e = .returned (.bool true) ∧ Below w.heap.size w w' := by
  have hla := hidm hl
  have hlb := hidm hl2
  have f1 : (100 : Int) < (l.length : Int) := by omega
  have f2 : l.toArray.size = l.length := by simp
  clear hl hl2
  have HS0 := hidm (Boxed2.start a b ao ac bo bc w)
  have HA := hidm h1
  have HB := hidm h2
  have NA := hidm na
  have NB := hidm nb
  clear h1 h2 na nb
  go_enter Try.func3, Try.ntmps3
  go_wp2_with fail
  refine (light_is hla.out (.slice ao a.cols.length ac) (.slice none 0 0) NA.out.n (by simp) _ (HA.out.later HS0.out.below) (row_nil _)).mono ?_
  rintro e w1 ⟨rfl, hb⟩
  have HS1 := hidm (HS0.out.then hb)
  clear hb
  have b0 := HS1.out.b0
  have b1 := HS1.out.b1
  have b2 := HS1.out.b2
  go_wp2_with fail
  refine (light_is hlb.out (.slice bo b.cols.length bc) (.slice none 0 0) NB.out.n (by simp) _ (HB.out.later HS1.out.below) (row_nil _)).mono ?_
  rintro e w2 ⟨rfl, hb⟩
  have HS2 := hidm (HS1.out.then hb)
  clear hb
  clear b0 b1 b2
  go_wp2_with fail
  refine (known_any _).mono ?_
  rintro e wk ⟨rfl, hb⟩
  have HSK := hidm (HS2.out.then hb)
  clear hb
  go_wp2_with fail
  go_ret
  exact ⟨rfl, HSK.out.below⟩
set_option maxHeartbeats 8000000 in
set_option maxRecDepth 100000 in
theorem main_any (a b : T) (ao bo : Option Addr) (ac bc : Nat) (l : List UInt8) (na : a.inn) (nb : b.inn) (w : World) (h1 : ColsAt a.cols (.slice ao a.cols.length ac) w) (h2 : ColsAt b.cols (.slice bo b.cols.length bc) w) (hl : lightB a [] = true) (hl2 : lightB b [] = true) (hl3 : l.length ≤ 100) : Calls Try.prog 3 #[.agg #[.string (S a.nm), .slice ao a.cols.length ac, .int .i64 a.keys], .agg #[.string (S b.nm), .slice bo b.cols.length bc, .int .i64 b.keys], .string (S l)] w fun e w' => e = .returned (.bool true) ∧ Below w.heap.size w w' := by
  have hla := hidm hl
  have hlb := hidm hl2
  have LMA := hidm (lim_of hl)
  have LMB := hidm (lim_of hl2)
  have f1 : ¬ (100 : Int) < (l.length : Int) := by omega
  have f2 : l.toArray.size = l.length := by simp
  have HLS := hidm (show (S l).size ≤ 281474976710656 from by rw [S_size]; omega)
  obtain ⟨ra, hra⟩ : ∃ x, rightB a = x := ⟨_, rfl⟩
  obtain ⟨nm, hnm⟩ : ∃ x, nameB (S l).data.toList = x := ⟨_, rfl⟩
  obtain ⟨ex, hex⟩ : ∃ x, extB a b = x := ⟨_, rfl⟩
  obtain ⟨sm, hsm⟩ : ∃ x, sameB a b = x := ⟨_, rfl⟩
  obtain ⟨en, hen⟩ : ∃ x, encB a = x := ⟨_, rfl⟩
  have HRA := hidm hra
  have HNM := hidm hnm
  have HEX := hidm hex
  have HSM := hidm hsm
  have HEN := hidm hen
  clear hl hl2 hra hnm hex hsm hen
  have HS0 := hidm (Boxed2.start a b ao ac bo bc w)
  have HA := hidm h1
  have HB := hidm h2
  have NA := hidm na
  have NB := hidm nb
  clear h1 h2 na nb
  go_enter Try.func3, Try.ntmps3
  go_wp2_with fail
  refine (light_is hla.out (.slice ao a.cols.length ac) (.slice none 0 0) NA.out.n (by simp) _ (HA.out.later HS0.out.below) (row_nil _)).mono ?_
  rintro e w1 ⟨rfl, hb⟩
  have HS1 := hidm (HS0.out.then hb)
  clear hb
  have b0 := HS1.out.b0
  have b1 := HS1.out.b1
  have b2 := HS1.out.b2
  go_wp2_with fail
  refine (light_is hlb.out (.slice bo b.cols.length bc) (.slice none 0 0) NB.out.n (by simp) _ (HB.out.later HS1.out.below) (row_nil _)).mono ?_
  rintro e w2 ⟨rfl, hb⟩
  have HS2 := hidm (HS1.out.then hb)
  clear hb
  clear b0 b1 b2
  have a0 := HS2.out.a0
  have a1 := HS2.out.a1
  have a2 := HS2.out.a2
  have b0 := HS2.out.b0
  have b1 := HS2.out.b1
  have b2 := HS2.out.b2
  have HA2 := hidm (HA.out.later HS2.out.below)
  have HB2 := hidm (HB.out.later HS2.out.below)
  have SS0 := hidm (show w2.cell? ⟨w.heap.size, 0, none⟩ = some (.string (S a.nm)) ∧ w2.cell? ⟨w.heap.size, 1, none⟩ = some (.slice ao a.cols.length ac) ∧ w2.cell? ⟨w.heap.size, 2, none⟩ = some (.int .i64 a.keys) ∧ w2.cell? ⟨w.heap.size + 1, 0, none⟩ = some (.string (S b.nm)) ∧ w2.cell? ⟨w.heap.size + 1, 1, none⟩ = some (.slice bo b.cols.length bc) ∧ w2.cell? ⟨w.heap.size + 1, 2, none⟩ = some (.int .i64 b.keys) ∧ Below w2.heap.size w2 w2 ∧ w2.heap.size ≤ w2.heap.size from ⟨a0, a1, a2, b0, b1, b2, Below.refl _ _, Nat.le_refl _⟩)
  clear a0 a1 a2 b0 b1 b2
  go_wp2_with fail
  refine wp_region_held_drew (S := fun u => u.cell? ⟨w.heap.size, 0, none⟩ = some (.string (S a.nm)) ∧ u.cell? ⟨w.heap.size, 1, none⟩ = some (.slice ao a.cols.length ac) ∧ u.cell? ⟨w.heap.size, 2, none⟩ = some (.int .i64 a.keys) ∧ u.cell? ⟨w.heap.size + 1, 0, none⟩ = some (.string (S b.nm)) ∧ u.cell? ⟨w.heap.size + 1, 1, none⟩ = some (.slice bo b.cols.length bc) ∧ u.cell? ⟨w.heap.size + 1, 2, none⟩ = some (.int .i64 b.keys) ∧ Below w2.heap.size w2 u ∧ w2.heap.size ≤ u.heap.size) (by kernel_rfl) ?_ (fun hHeld => ?_)
  · exact t_step SS0.out ((Below.refl _ _).drew)
  refine Man.take1 (i := 0) (v := ?_) rfl (by kernel_rfl) (by kernel_rfl) (by kernel_rfl) (fun _ _ _ h => h) (by rfl) ?_ (by assumption) ?_
  rotate_left
  · (intro u hSu; (try dsimp only at hSu); go_simp; (try with_reducible rfl))
  (try simp only [Act.put, List.setIfInBounds_toArray, List.set_cons_zero, List.set_cons_succ])
  refine Man.take1 (i := 2) (v := ?_) rfl (by kernel_rfl) (by kernel_rfl) (by kernel_rfl) (fun _ _ _ h => h) (by rfl) ?_ (by assumption) ?_
  rotate_left
  · (intro u hSu; (try dsimp only at hSu); go_simp; (try with_reducible rfl))
  (try simp only [Act.put, List.setIfInBounds_toArray, List.set_cons_zero, List.set_cons_succ])
  refine Man.one (i := 1) rfl (by kernel_rfl) (fun K hK => ?_)
  go_simp
  (go_at_call 11; (with_reducible refine (right_is HRA.out LMA.out _ _ (HA2.out.later hHeld.2.2.2.2.2.2.1)).mono ?_); rintro e w' ⟨rfl, hb⟩)
  refine hK.out _ _ ?_ (fun hNew => ?_)
  · exact t_step hHeld hb
  clear hHeld hK K hb
  have hHeld := hNew
  clear hNew
  (try simp only [Act.put, List.setIfInBounds_toArray, List.set_cons_zero, List.set_cons_succ])
  refine Man.one (i := 3) rfl (by kernel_rfl) (fun K hK => ?_)
  go_simp
  (go_at_call 12; (with_reducible refine (rright_is HRA.out LMA.out _ _ (HA2.out.later hHeld.2.2.2.2.2.2.1)).mono ?_); rintro e w' ⟨rfl, hb⟩)
  refine hK.out _ _ ?_ (fun hNew => ?_)
  · exact t_step hHeld hb
  clear hHeld hK K hb
  have hHeld := hNew
  clear hNew
  (try simp only [Act.put, List.setIfInBounds_toArray, List.set_cons_zero, List.set_cons_succ])
  refine Man.take1 (i := 4) (v := ?_) rfl (by kernel_rfl) (by kernel_rfl) (by kernel_rfl) (fun _ _ _ h => h) (by rfl) ?_ (by assumption) ?_
  rotate_left
  · (intro u hSu; (try dsimp only at hSu); go_simp; (try with_reducible rfl))
  (try simp only [Act.put, List.setIfInBounds_toArray, List.set_cons_zero, List.set_cons_succ])
  refine Man.take1 (i := 5) (v := ?_) rfl (by kernel_rfl) (by kernel_rfl) (by kernel_rfl) (fun _ _ _ h => h) (by rfl) ?_ (by assumption) ?_
  rotate_left
  · (intro u hSu; (try dsimp only at hSu); go_simp; (try with_reducible rfl))
  (try simp only [Act.put, List.setIfInBounds_toArray, List.set_cons_zero, List.set_cons_succ])
  refine Man.take1 (i := 6) (v := ?_) rfl (by kernel_rfl) (by kernel_rfl) (by kernel_rfl) (fun _ _ _ h => h) (by rfl) ?_ (by assumption) ?_
  rotate_left
  · (intro u hSu; (try dsimp only at hSu); go_simp; (try with_reducible rfl))
  (try simp only [Act.put, List.setIfInBounds_toArray, List.set_cons_zero, List.set_cons_succ])
  refine Man.take1 (i := 8) (v := ?_) rfl (by kernel_rfl) (by kernel_rfl) (by kernel_rfl) (fun _ _ _ h => h) (by rfl) ?_ (by assumption) ?_
  rotate_left
  · (intro u hSu; (try dsimp only at hSu); go_simp; (try with_reducible rfl))
  (try simp only [Act.put, List.setIfInBounds_toArray, List.set_cons_zero, List.set_cons_succ])
  refine Man.one (i := 7) rfl (by kernel_rfl) (fun K hK => ?_)
  go_simp
  (go_at_call 13; (with_reducible refine (name_is HNM.out HLS.out _).mono ?_); rintro e w' ⟨rfl, hb⟩)
  refine hK.out _ _ ?_ (fun hNew => ?_)
  · exact t_step hHeld hb
  clear hHeld hK K hb
  have hHeld := hNew
  clear hNew
  (try simp only [Act.put, List.setIfInBounds_toArray, List.set_cons_zero, List.set_cons_succ])
  refine Man.one (i := 9) rfl (by kernel_rfl) (fun K hK => ?_)
  go_simp
  (go_at_call 14; (with_reducible refine (rname_is HNM.out HLS.out _).mono ?_); rintro e w' ⟨rfl, hb⟩)
  refine hK.out _ _ ?_ (fun hNew => ?_)
  · exact t_step hHeld hb
  clear hHeld hK K hb
  have hHeld := hNew
  clear hNew
  (try simp only [Act.put, List.setIfInBounds_toArray, List.set_cons_zero, List.set_cons_succ])
  refine Man.take1 (i := 10) (v := ?_) rfl (by kernel_rfl) (by kernel_rfl) (by kernel_rfl) (fun _ _ _ h => h) (by rfl) ?_ (by assumption) ?_
  rotate_left
  · (intro u hSu; (try dsimp only at hSu); go_simp; (try with_reducible rfl))
  (try simp only [Act.put, List.setIfInBounds_toArray, List.set_cons_zero, List.set_cons_succ])
  refine Man.take1 (i := 11) (v := ?_) rfl (by kernel_rfl) (by kernel_rfl) (by kernel_rfl) (fun _ _ _ h => h) (by rfl) ?_ (by assumption) ?_
  rotate_left
  · (intro u hSu; (try dsimp only at hSu); go_simp; (try with_reducible rfl))
  (try simp only [Act.put, List.setIfInBounds_toArray, List.set_cons_zero, List.set_cons_succ])
  refine Man.take1 (i := 12) (v := ?_) rfl (by kernel_rfl) (by kernel_rfl) (by kernel_rfl) (fun _ _ _ h => h) (by rfl) ?_ (by assumption) ?_
  rotate_left
  · (intro u hSu; (try dsimp only at hSu); go_simp; (try with_reducible rfl))
  (try simp only [Act.put, List.setIfInBounds_toArray, List.set_cons_zero, List.set_cons_succ])
  refine Man.take1 (i := 13) (v := ?_) rfl (by kernel_rfl) (by kernel_rfl) (by kernel_rfl) (fun _ _ _ h => h) (by rfl) ?_ (by assumption) ?_
  rotate_left
  · (intro u hSu; (try dsimp only at hSu); go_simp; (try with_reducible rfl))
  (try simp only [Act.put, List.setIfInBounds_toArray, List.set_cons_zero, List.set_cons_succ])
  refine Man.take1 (i := 14) (v := ?_) rfl (by kernel_rfl) (by kernel_rfl) (by kernel_rfl) (fun _ _ _ h => h) (by rfl) ?_ (by assumption) ?_
  rotate_left
  · (intro u hSu; (try dsimp only at hSu); go_simp; (try with_reducible rfl))
  (try simp only [Act.put, List.setIfInBounds_toArray, List.set_cons_zero, List.set_cons_succ])
  refine Man.take1 (i := 16) (v := ?_) rfl (by kernel_rfl) (by kernel_rfl) (by kernel_rfl) (fun _ _ _ h => h) (by rfl) ?_ (by assumption) ?_
  rotate_left
  · (intro u hSu; (try dsimp only at hSu); go_simp; (try with_reducible rfl))
  (try simp only [Act.put, List.setIfInBounds_toArray, List.set_cons_zero, List.set_cons_succ])
  refine Man.take1 (i := 17) (v := ?_) rfl (by kernel_rfl) (by kernel_rfl) (by kernel_rfl) (fun _ _ _ h => h) (by rfl) ?_ (by assumption) ?_
  rotate_left
  · (intro u hSu; (try dsimp only at hSu); go_simp; (try with_reducible rfl))
  (try simp only [Act.put, List.setIfInBounds_toArray, List.set_cons_zero, List.set_cons_succ])
  refine Man.one (i := 15) rfl (by kernel_rfl) (fun K hK => ?_)
  go_simp
  (go_at_call 15; (with_reducible refine (ext_is HEX.out LMA.out LMB.out _ _ _ (HA2.out.later hHeld.2.2.2.2.2.2.1) (HB2.out.later hHeld.2.2.2.2.2.2.1)).mono ?_); rintro e w' ⟨rfl, hb⟩)
  refine hK.out _ _ ?_ (fun hNew => ?_)
  · exact t_step hHeld hb
  clear hHeld hK K hb
  have hHeld := hNew
  clear hNew
  (try simp only [Act.put, List.setIfInBounds_toArray, List.set_cons_zero, List.set_cons_succ])
  refine Man.one (i := 18) rfl (by kernel_rfl) (fun K hK => ?_)
  go_simp
  (go_at_call 16; (with_reducible refine (rext_is HEX.out LMA.out LMB.out _ _ _ (HA2.out.later hHeld.2.2.2.2.2.2.1) (HB2.out.later hHeld.2.2.2.2.2.2.1)).mono ?_); rintro e w' ⟨rfl, hb⟩)
  refine hK.out _ _ ?_ (fun hNew => ?_)
  · exact t_step hHeld hb
  clear hHeld hK K hb
  have hHeld := hNew
  clear hNew
  (try simp only [Act.put, List.setIfInBounds_toArray, List.set_cons_zero, List.set_cons_succ])
  refine Man.take1 (i := 19) (v := ?_) rfl (by kernel_rfl) (by kernel_rfl) (by kernel_rfl) (fun _ _ _ h => h) (by rfl) ?_ (by assumption) ?_
  rotate_left
  · (intro u hSu; (try dsimp only at hSu); go_simp; (try with_reducible rfl))
  (try simp only [Act.put, List.setIfInBounds_toArray, List.set_cons_zero, List.set_cons_succ])
  refine Man.take1 (i := 20) (v := ?_) rfl (by kernel_rfl) (by kernel_rfl) (by kernel_rfl) (fun _ _ _ h => h) (by rfl) ?_ (by assumption) ?_
  rotate_left
  · (intro u hSu; (try dsimp only at hSu); go_simp; (try with_reducible rfl))
  (try simp only [Act.put, List.setIfInBounds_toArray, List.set_cons_zero, List.set_cons_succ])
  refine Man.take1 (i := 21) (v := ?_) rfl (by kernel_rfl) (by kernel_rfl) (by kernel_rfl) (fun _ _ _ h => h) (by rfl) ?_ (by assumption) ?_
  rotate_left
  · (intro u hSu; (try dsimp only at hSu); go_simp; (try with_reducible rfl))
  (try simp only [Act.put, List.setIfInBounds_toArray, List.set_cons_zero, List.set_cons_succ])
  refine Man.take1 (i := 22) (v := ?_) rfl (by kernel_rfl) (by kernel_rfl) (by kernel_rfl) (fun _ _ _ h => h) (by rfl) ?_ (by assumption) ?_
  rotate_left
  · (intro u hSu; (try dsimp only at hSu); go_simp; (try with_reducible rfl))
  (try simp only [Act.put, List.setIfInBounds_toArray, List.set_cons_zero, List.set_cons_succ])
  refine Man.take1 (i := 23) (v := ?_) rfl (by kernel_rfl) (by kernel_rfl) (by kernel_rfl) (fun _ _ _ h => h) (by rfl) ?_ (by assumption) ?_
  rotate_left
  · (intro u hSu; (try dsimp only at hSu); go_simp; (try with_reducible rfl))
  (try simp only [Act.put, List.setIfInBounds_toArray, List.set_cons_zero, List.set_cons_succ])
  refine Man.take1 (i := 25) (v := ?_) rfl (by kernel_rfl) (by kernel_rfl) (by kernel_rfl) (fun _ _ _ h => h) (by rfl) ?_ (by assumption) ?_
  rotate_left
  · (intro u hSu; (try dsimp only at hSu); go_simp; (try with_reducible rfl))
  (try simp only [Act.put, List.setIfInBounds_toArray, List.set_cons_zero, List.set_cons_succ])
  refine Man.take1 (i := 26) (v := ?_) rfl (by kernel_rfl) (by kernel_rfl) (by kernel_rfl) (fun _ _ _ h => h) (by rfl) ?_ (by assumption) ?_
  rotate_left
  · (intro u hSu; (try dsimp only at hSu); go_simp; (try with_reducible rfl))
  (try simp only [Act.put, List.setIfInBounds_toArray, List.set_cons_zero, List.set_cons_succ])
  refine Man.one (i := 24) rfl (by kernel_rfl) (fun K hK => ?_)
  go_simp
  (go_at_call 17; (with_reducible refine (same_is HSM.out _ _ LMA.out.n LMB.out.n _ (HA2.out.later hHeld.2.2.2.2.2.2.1) (HB2.out.later hHeld.2.2.2.2.2.2.1)).mono ?_); rintro e w' ⟨rfl, hb⟩)
  refine hK.out _ _ ?_ (fun hNew => ?_)
  · exact t_step hHeld hb
  clear hHeld hK K hb
  have hHeld := hNew
  clear hNew
  (try simp only [Act.put, List.setIfInBounds_toArray, List.set_cons_zero, List.set_cons_succ])
  refine Man.one (i := 27) rfl (by kernel_rfl) (fun K hK => ?_)
  go_simp
  (go_at_call 18; (with_reducible refine (rsame_is HSM.out _ _ LMA.out.n LMB.out.n _ (HA2.out.later hHeld.2.2.2.2.2.2.1) (HB2.out.later hHeld.2.2.2.2.2.2.1)).mono ?_); rintro e w' ⟨rfl, hb⟩)
  refine hK.out _ _ ?_ (fun hNew => ?_)
  · exact t_step hHeld hb
  clear hHeld hK K hb
  have hHeld := hNew
  clear hNew
  (try simp only [Act.put, List.setIfInBounds_toArray, List.set_cons_zero, List.set_cons_succ])
  refine Man.take1 (i := 28) (v := ?_) rfl (by kernel_rfl) (by kernel_rfl) (by kernel_rfl) (fun _ _ _ h => h) (by rfl) ?_ (by assumption) ?_
  rotate_left
  · (intro u hSu; (try dsimp only at hSu); go_simp; (try with_reducible rfl))
  (try simp only [Act.put, List.setIfInBounds_toArray, List.set_cons_zero, List.set_cons_succ])
  refine Man.take1 (i := 29) (v := ?_) rfl (by kernel_rfl) (by kernel_rfl) (by kernel_rfl) (fun _ _ _ h => h) (by rfl) ?_ (by assumption) ?_
  rotate_left
  · (intro u hSu; (try dsimp only at hSu); go_simp; (try with_reducible rfl))
  (try simp only [Act.put, List.setIfInBounds_toArray, List.set_cons_zero, List.set_cons_succ])
  refine Man.take1 (i := 30) (v := ?_) rfl (by kernel_rfl) (by kernel_rfl) (by kernel_rfl) (fun _ _ _ h => h) (by rfl) ?_ (by assumption) ?_
  rotate_left
  · (intro u hSu; (try dsimp only at hSu); go_simp; (try with_reducible rfl))
  (try simp only [Act.put, List.setIfInBounds_toArray, List.set_cons_zero, List.set_cons_succ])
  refine Man.take1 (i := 31) (v := ?_) rfl (by kernel_rfl) (by kernel_rfl) (by kernel_rfl) (fun _ _ _ h => h) (by rfl) ?_ (by assumption) ?_
  rotate_left
  · (intro u hSu; (try dsimp only at hSu); go_simp; (try with_reducible rfl))
  (try simp only [Act.put, List.setIfInBounds_toArray, List.set_cons_zero, List.set_cons_succ])
  refine Man.take1 (i := 33) (v := ?_) rfl (by kernel_rfl) (by kernel_rfl) (by kernel_rfl) (fun _ _ _ h => h) (by rfl) ?_ (by assumption) ?_
  rotate_left
  · (intro u hSu; (try dsimp only at hSu); go_simp; (try with_reducible rfl))
  (try simp only [Act.put, List.setIfInBounds_toArray, List.set_cons_zero, List.set_cons_succ])
  refine Man.one (i := 32) rfl (by kernel_rfl) (fun K hK => ?_)
  go_simp
  (go_at_call 19; (with_reducible refine (encode_is HEN.out LMA.out _ _ (HA2.out.later hHeld.2.2.2.2.2.2.1)).mono ?_); rintro e w' ⟨rfl, hb⟩)
  refine hK.out _ _ ?_ (fun hNew => ?_)
  · exact t_step hHeld hb
  clear hHeld hK K hb
  have hHeld := hNew
  clear hNew
  (try simp only [Act.put, List.setIfInBounds_toArray, List.set_cons_zero, List.set_cons_succ])
  refine Man.one (i := 34) rfl (by kernel_rfl) (fun K hK => ?_)
  go_simp
  (go_at_call 20; (with_reducible refine (rencode_is HEN.out LMA.out _ _ (HA2.out.later hHeld.2.2.2.2.2.2.1)).mono ?_); rintro e w' ⟨rfl, hb⟩)
  refine hK.out _ _ ?_ (fun hNew => ?_)
  · exact t_step hHeld hb
  clear hHeld hK K hb
  have hHeld := hNew
  clear hNew
  (try simp only [Act.put, List.setIfInBounds_toArray, List.set_cons_zero, List.set_cons_succ])
  refine Man.take1 (i := 35) (v := ?_) rfl (by kernel_rfl) (by kernel_rfl) (by kernel_rfl) (fun _ _ _ h => h) (by rfl) ?_ (by assumption) ?_
  rotate_left
  · (intro u hSu; (try dsimp only at hSu); go_simp; (try with_reducible rfl))
  (try simp only [Act.put, List.setIfInBounds_toArray, List.set_cons_zero, List.set_cons_succ])
  refine Man.take1 (i := 36) (v := ?_) rfl (by kernel_rfl) (by kernel_rfl) (by kernel_rfl) (fun _ _ _ h => h) (by rfl) ?_ (by assumption) ?_
  rotate_left
  · (intro u hSu; (try dsimp only at hSu); go_simp; (try with_reducible rfl))
  (try simp only [Act.put, List.setIfInBounds_toArray, List.set_cons_zero, List.set_cons_succ])
  refine Man.take1 (i := 37) (v := ?_) rfl (by kernel_rfl) (by kernel_rfl) (by kernel_rfl) (fun _ _ _ h => h) (by rfl) ?_ (by assumption) ?_
  rotate_left
  · (intro u hSu; (try dsimp only at hSu); go_simp; (try with_reducible rfl))
  (try simp only [Act.put, List.setIfInBounds_toArray, List.set_cons_zero, List.set_cons_succ])
  refine Man.one (i := 38) rfl (by kernel_rfl) (fun K hK => ?_)
  go_simp
  (go_at_call 10; (with_reducible refine (known_any _).mono ?_); rintro e w' ⟨rfl, hb⟩)
  refine hK.out _ _ ?_ (fun hNew => ?_)
  · exact t_step hHeld hb
  clear hHeld hK K hb
  have hHeld := hNew
  clear hNew
  (try simp only [Act.put, List.setIfInBounds_toArray, List.set_cons_zero, List.set_cons_succ])
  refine Man.take1 (i := 39) (v := ?_) rfl (by kernel_rfl) (by kernel_rfl) (by kernel_rfl) (fun _ _ _ h => h) (by rfl) ?_ (by assumption) ?_
  rotate_left
  · (intro u hSu; (try dsimp only at hSu); go_simp; (try with_reducible rfl))
  (try simp only [Act.put, List.setIfInBounds_toArray, List.set_cons_zero, List.set_cons_succ])
  refine Man.take1 (i := 40) (v := ?_) rfl (by kernel_rfl) (by kernel_rfl) (by kernel_rfl) (fun _ _ _ h => h) (by rfl) ?_ (by assumption) ?_
  rotate_left
  · (intro u hSu; (try dsimp only at hSu); go_simp; (try with_reducible rfl))
  (try simp only [Act.put, List.setIfInBounds_toArray, List.set_cons_zero, List.set_cons_succ])
  refine wpAnyH_done (by kernel_rfl) ?_ _
  obtain ⟨_, _, _, _, _, _, hqb, hqz⟩ := hHeld
  have HBF := hidm (HS2.out.then hqb)
  clear hqb hqz SS0
  go_wp2_with fail
  go_ret
  exact ⟨rfl, HBF.out.below⟩
theorem law_any (a : T) (sa : Value) (b : T) (sb : Value) (s : ByteArray) (na : a.inn) (nb : b.inn) (w : World) (h1 : ColsAt a.cols sa w) (h2 : ColsAt b.cols sb w) :
    Calls Try.prog 3 #[.agg #[.string (S a.nm), sa, .int .i64 a.keys], .agg #[.string (S b.nm), sb, .int .i64 b.keys], .string s] w fun e w' => e = .returned (.bool true) ∧ Below w.heap.size w w' := by
  obtain ⟨l, hl⟩ : ∃ l, l = s.data.toList := ⟨_, rfl⟩
  have hs : s = S l := by rw [hl, S_of]
  subst hs
  obtain ⟨ao, ac, rfl, _, _⟩ := h1.form
  obtain ⟨bo, bc, rfl, _, _⟩ := h2.form
  rcases g1 : lightB a [] with _ | _
  · exact skip_a a b ao bo ac bc l na nb w h1 h2 g1
  · rcases g2 : lightB b [] with _ | _
    · exact skip_b a b ao bo ac bc l na nb w h1 h2 g1 g2
    · rcases Nat.lt_or_ge 100 l.length with g3 | g3
      · exact skip_l a b ao bo ac bc l na nb w h1 h2 g1 g2 g3
      · exact main_any a b ao bo ac bc l na nb w h1 h2 g1 g2 g3
theorem laidOut : laidOutB Try.prog = true := by kernel_rfl
set_option maxRecDepth 100000 in
theorem contract (H : Type) (enc : TypeId × Value → H) (W : World) (base : Nat) (args : Array Value) (ds gs : List (DataW H)) (before : List MemPlace)
    (hval : ∀ (j : Nat) t v, Try.f3.params[j]? = some t → args[j]? = some v → Value.okWide Try.prog W .any base t v)
    (hW : DataW.Whole enc Try.prog Try.f3.params.toList Rows.schemaTellsSpec.vars false W args.toList ds gs before) :
    Calls Try.prog 3 args W fun e W' => ∃ v, e = .returned v ∧ Rows.schemaTellsSpec.post enc Try.prog Try.f3 false true false false W args v W' := by
  have hW' := hW
  obtain ⟨p, q, hA0, hV, rfl, hfz, hnd⟩ := hW
  have hA : DataW.TrodAll enc Try.prog W 0 (fun _ => true) true Try.f3.params.toList args.toList ds p := hA0
  rw [Try.params3] at hA hval
  obtain ⟨v0, vs0, d0, ds0, p0, q0, hargs, rfl, rfl, h0, r0⟩ := trodAll_cons hA
  obtain ⟨v1, vs1, d1, ds1, p1, q1, rfl, rfl, rfl, h1, r1⟩ := trodAll_cons r0
  obtain ⟨v2, vs2, d2, ds2, p2, q2, rfl, rfl, rfl, h2, r2⟩ := trodAll_cons r1
  obtain ⟨rfl, rfl, rfl⟩ := trodAll_nil r2
  obtain rfl : args = #[v0, v1, v2] := by cases args; simp_all
  obtain ⟨rfl, rfl⟩ := trodVars_none hV
  obtain ⟨a, sla, rfl, hca, hna⟩ := open_schema (hval 0 24 v0 rfl rfl) h0
  obtain ⟨b, slb, rfl, hcb, hnb⟩ := open_schema (hval 1 24 v1 rfl rfl) h1
  obtain ⟨s, rfl, hd2, hp2, ws⟩ := open_string Try.underlying9 (hval 2 9 v2 rfl rfl) h2
  clear hA0
  simp only [List.append_nil] at hW'
  have hlt : ∀ x ∈ p0 ++ p1 ++ p2, x.block < W.heap.size := fun x hx => hW'.lt x (by simpa using hx)
  have walk := law_any a sla b slb s hna hnb W hca hcb
  refine walk.mono fun e W' ⟨he, hg⟩ => ?_
  subst he
  refine ⟨_, rfl, Fr.post_made (pa := p0 ++ (p1 ++ p2)) (pv := []) hW' (fun _ _ _ => trodAll_cons_mk (shut_bool Try.underlying4 _) trodAll_mk0) (fun sp hsp => ?_) (fun _ _ => rfl) (by simp) hg (ok_one (by kernel_rfl) rfl (okWide_bool_mk Try.underlying4 _))⟩
  have g0 : DataW.Trod enc Try.prog W' 0 sp true 24 _ d0 p0 := WideElems.Trod_stays laidOut (by kernel_rfl) (of_decide_eq_true (by kernel_rfl)) h0 (fun x hx => hg.same (hlt x (by simp [hx]))) (fun x hx => hsp x (by simp [hx]))
  have g1 : DataW.Trod enc Try.prog W' 0 sp true 24 _ d1 p1 := WideElems.Trod_stays laidOut (by kernel_rfl) (of_decide_eq_true (by kernel_rfl)) h1 (fun x hx => hg.same (hlt x (by simp [hx]))) (fun x hx => hsp x (by simp [hx]))
  have g2 : DataW.Trod enc Try.prog W' 0 sp true 9 _ d2 p2 := WideElems.Trod_stays laidOut (by kernel_rfl) (of_decide_eq_true (by kernel_rfl)) h2 (fun x hx => hg.same (hlt x (by simp [hx]))) (fun x hx => hsp x (by simp [hx]))
  have hT := (trodAll_cons_mk g0 (trodAll_cons_mk g1 (trodAll_cons_mk g2 trodAll_mk0)))
  simp only [List.append_nil] at hT
  exact hT
set_option maxRecDepth 100000 in
theorem lifted (os : Os) (started : os.Started) (H : Type) (enc : TypeId × Value → H) :
    ReturnsInHanded {} Try.checked os 3 .any (Rows.schemaTellsSpec.pre6 enc Try.prog Try.f3 Rows.schemaTellsRow.domain false) (Rows.schemaTellsSpec.post enc Try.prog Try.f3 false true false false) := by
  refine returnsInHanded_of_change (C := Try.checked) Fr.own started (by kernel_rfl) Try.func3
    (ChangeSpec.witness6 (enc := enc) (C := Try.checked) false ⟨#[], #[.agg #[.string ⟨#[]⟩, .slice none 0 0, .int .i64 0], .agg #[.string ⟨#[]⟩, .slice none 0 0, .int .i64 0], .string ⟨#[]⟩], []⟩ 8 (by kernel_rfl) (by kernel_rfl) (by kernel_rfl) (by kernel_rfl)) ?_
  intro W base args ds gs before hval hW _ _
  exact contract H enc W base args ds gs before hval hW
theorem said : Rows.SchemaTellsSaid :=
  OpenClaim.holds_of_wide 3 Try.f3 rfl rfl rfl rfl rfl rfl rfl ⟨rfl, rfl, rfl, rfl, rfl⟩ rfl rfl rfl rfl rfl (by kernel_rfl) Try.func3 (by kernel_rfl)
    (of_decide_eq_true (by kernel_rfl)) (by unfold Func.isWrapper; first | (rw [if_pos (by decide +kernel)]; kernel_rfl) | (rw [if_neg (by decide +kernel)]; exact ⟨rfl, rfl⟩))
    (fun os started H enc _ => lifted os started H enc)
end LaSchemaTells
end Go.Proofs.Ytkgiomdjihcfoaa
