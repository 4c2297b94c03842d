/- CodeReads is proved: for every text and every row of bytes the law returns true and its arguments read as they did. No other condition. -/
import Derived.Test.YtinnkdbojgoicaaSc
import Derived.Test.YtinnkdbojgoicaaFra
import Derived.Deep.Slices
import Derived.Carry
import Derived.WideKeyPair
import Derived.ChangeSlices
namespace Go.Proofs.Ytinnkdbojgoicaa
open Go.ChangeShapes Go.WideShapes Go.ChangeAt Go.RowKit Go.Deep
open Go.ChangeMaps (open_string shut_string)
namespace LaCodeReads
open Cod Rr
theorem two_keep {r x p : Nat} {s : ByteArray} {e : Int} {w u u' : World} (h : u.cell? ⟨x, 2, none⟩ = some (.int .i64 e) ∧ Hid (Two r x s p e w u)) (hb : Below u.heap.size u u') : u'.cell? ⟨x, 2, none⟩ = some (.int .i64 e) ∧ Hid (Two r x s p e w u') :=
  ⟨(h.2.out.later hb).2.1.c2, hidm (h.2.out.later hb)⟩
theorem two_of {r x p : Nat} {s : ByteArray} {e : Int} {w u : World} (h : u.cell? ⟨x, 2, none⟩ = some (.int .i64 e) ∧ Hid (Two r x s p e w u)) : Two r x s p e w u := h.2.out
theorem self_eqV (k n b : Int) (t : ByteArray) : Val.eqV k n b t k n b t = true := by simp [Val.eqV]
/-- The cells of a slice of bytes. -/
def BytesAt (ao : Option Addr) (n : Nat) (w : World) : Prop := ∀ j, j < n → ∃ b off, ∃ y : Nat, ao = some ⟨b, off, none⟩ ∧ b < w.heap.size ∧ y < 256 ∧ w.cell? ⟨b, off + j, none⟩ = some (.int .u8 y)
set_option maxHeartbeats 2000000 in
theorem long_any (s : ByteArray) (ao : Option Addr) (n cap : Nat) (hs : 3000 < s.size) (w : World) : Calls Try.prog 3 #[.string s, .slice ao n cap] w fun e w' => e = .returned (.bool true) ∧ Below w.heap.size w w' := by
  have f1 : (3000 : Int) < (s.size : Int) := by omega
  go_enter Try.func3, Try.ntmps3
  go_wp2_with fail
  refine (Cod.known_any _).mono ?_
  rintro e w1 ⟨rfl, hb⟩
  have HB1 := hidm hb
  clear hb
  go_wp2_with fail
  go_ret
  exact ⟨rfl, HB1.out⟩
set_option maxHeartbeats 8000000 in
set_option maxRecDepth 100000 in
theorem main_any (s : ByteArray) (ao : Option Addr) (n cap : Nat) (hs : s.size ≤ 3000) (w : World) (hscr : BytesAt ao n w) : Calls Try.prog 3 #[.string s, .slice ao n cap] w fun e w' => e = .returned (.bool true) ∧ Below w.heap.size w w' := by
  have f1 : ¬ (3000 : Int) < (s.size : Int) := by omega
  have HS8 := hidm (show s.size ≤ 281474976710656 by omega)
  have HSC := hidm hscr
  clear hscr
  go_enter Try.func3, Try.ntmps3
  go_wp2_with fail
  refine (Cod.new_any s w HS8.out).mono ?_
  rintro en w1 ⟨r, hrw, rfl, hr1, hb1⟩
  have hrlt := hr1.lt
  have HR1 := hidm hr1
  have HB1 := hidm hb1
  clear hr1 hb1
  go_wp2_with fail
  refine (Rr.new_any s w1).mono ?_
  rintro en w2 ⟨x, hxw1, rfl, hx2, hb2⟩
  have hrx : r ≠ x := by omega
  have hxw : w.heap.size ≤ x := Nat.le_trans HB1.out.size hxw1
  have HT0 := hidm (show Two r x s 0 0 w w2 from ⟨HR1.out.later hb2, hx2, HB1.out.trans (hb2.mono HB1.out.size)⟩)
  clear hx2 hb2 hrlt hxw1
  go_wp2_with fail
  go_loopw [7] (fun ii wr => ∃ (i p : Nat) (e : Int), ii = .int .i64 i ∧ i ≤ 60 ∧ p ≤ s.size ∧ Hid (Eor e) ∧ Hid (Two r x s p e w wr)) (fun ii _ => 60 - (intOf ii).toNat)
  case atStart => exact ⟨0, 0, 0, rfl, by omega, by omega, hidm (.inl rfl), HT0⟩
  case round =>
    clear HT0
    obtain ⟨i, p, e, rfl, hi, hp, HE, HT⟩ := hrel
    by_cases hlt : i < n ∧ i < 60
    · obtain ⟨hin, hi60⟩ := hlt
      have g1 : (i : Int) < (n : Int) := by omega
      have g2 : (i : Int) < 60 := by omega
      obtain ⟨b, off, y, hao, hb, hy, hcell⟩ := HSC.out i hin
      subst hao
      have hcl : wr.cell? ⟨b, off + i, none⟩ = some (.int .u8 y) := by rw [HT.out.2.2.cell (p := ⟨b, off + i, none⟩) hb]; exact hcell
      obtain ⟨z, hz⟩ : ∃ z : Nat, z = y % 5 := ⟨_, rfl⟩
      have hz5 : z = 0 ∨ z = 1 ∨ z = 2 ∨ z = 3 ∨ z = 4 := by omega
      have hzi : (y : Int) % 5 = (z : Int) := by omega
      clear hz hcell
      rcases hz5 with rfl | rfl | rfl | rfl | rfl
      · obtain ⟨n1, p2, e2, hp2, he2, cr, cx⟩ := step_u r x s p e hp HS8.out HE.out
        have HE2 := hidm he2
        clear he2
        go_wp2_with fail
        refine (cr wr HT.out.1).mono ?_
        rintro en w2 ⟨rfl, h1, b1⟩
        go_wp2_with fail
        refine (cx w2 (HT.out.2.1.but (Ne.symm hrx) b1)).mono ?_
        rintro en w3 ⟨rfl, h2, b2⟩
        have HT3 := hidm (HT.out.step hrx hrw hxw h1 b1 h2 b2)
        clear h1 b1 h2 b2 cr cx
        have l1 := fun u (hu : Two r x s p2 e2 w u) => Cod.left_any r s p2 e2 u hu.1 hp2 (by omega)
        have l2 := fun u (hu : Two r x s p2 e2 w u) => Rr.left_any x s p2 e2 u hu.2.1 hp2 (by omega)
        have l3 := fun u (hu : Two r x s p2 e2 w u) => Cod.err_any r s p2 e2 u hu.1
        have lst : w3.cell? ⟨x, 2, none⟩ = some (.int .i64 e2) ∧ Hid (Two r x s p2 e2 w w3) := ⟨HT3.out.2.1.c2, HT3⟩
        have lst2 : w3.drew.cell? ⟨x, 2, none⟩ = some (.int .i64 e2) ∧ Hid (Two r x s p2 e2 w w3.drew) := ⟨HT3.out.2.1.c2, hidm (HT3.out.later (Below.refl _ _).drew)⟩
        have HL := hidm lst
        have HL2 := hidm lst2
        clear lst lst2
        go_wp2_with fail
        go_region_held3 (fun u => u.cell? ⟨x, 2, none⟩ = some (.int .i64 e2) ∧ Hid (Two r x s p2 e2 w u))
          (first | (exact two_keep (by assumption) hb) | assumption | (exact HL.out) | (exact HL2.out) | go_keep)
          (first | (go_at_call 24; (with_reducible refine (l1 _ (two_of (by assumption))).mono ?_); rintro e w' ⟨rfl, hb⟩) | (go_at_call 25; (with_reducible refine (l2 _ (two_of (by assumption))).mono ?_); rintro e w' ⟨rfl, hb⟩) | (go_at_call 26; (with_reducible refine (l3 _ (two_of (by assumption))).mono ?_); rintro e w' ⟨rfl, rfl⟩))
        rename_i hS
        have HT4 := hS.2
        clear hS l1 l2 l3 HL HL2 HT3
        go_wp2_with fail
        go_roundw
        case rel => exact ⟨i + 1, p2, e2, by go_num, hi60, hp2, HE2, HT4⟩
        case measure => simp [intOf]; omega
      · obtain ⟨n1, p2, e2, hp2, he2, cr, cx⟩ := step_i r x s p e hp HS8.out HE.out
        have HE2 := hidm he2
        clear he2
        go_wp2_with fail
        refine (cr wr HT.out.1).mono ?_
        rintro en w2 ⟨rfl, h1, b1⟩
        go_wp2_with fail
        refine (cx w2 (HT.out.2.1.but (Ne.symm hrx) b1)).mono ?_
        rintro en w3 ⟨rfl, h2, b2⟩
        have HT3 := hidm (HT.out.step hrx hrw hxw h1 b1 h2 b2)
        clear h1 b1 h2 b2 cr cx
        have l1 := fun u (hu : Two r x s p2 e2 w u) => Cod.left_any r s p2 e2 u hu.1 hp2 (by omega)
        have l2 := fun u (hu : Two r x s p2 e2 w u) => Rr.left_any x s p2 e2 u hu.2.1 hp2 (by omega)
        have l3 := fun u (hu : Two r x s p2 e2 w u) => Cod.err_any r s p2 e2 u hu.1
        have lst : w3.cell? ⟨x, 2, none⟩ = some (.int .i64 e2) ∧ Hid (Two r x s p2 e2 w w3) := ⟨HT3.out.2.1.c2, HT3⟩
        have lst2 : w3.drew.cell? ⟨x, 2, none⟩ = some (.int .i64 e2) ∧ Hid (Two r x s p2 e2 w w3.drew) := ⟨HT3.out.2.1.c2, hidm (HT3.out.later (Below.refl _ _).drew)⟩
        have HL := hidm lst
        have HL2 := hidm lst2
        clear lst lst2
        go_wp2_with fail
        go_region_held3 (fun u => u.cell? ⟨x, 2, none⟩ = some (.int .i64 e2) ∧ Hid (Two r x s p2 e2 w u))
          (first | (exact two_keep (by assumption) hb) | assumption | (exact HL.out) | (exact HL2.out) | go_keep)
          (first | (go_at_call 24; (with_reducible refine (l1 _ (two_of (by assumption))).mono ?_); rintro e w' ⟨rfl, hb⟩) | (go_at_call 25; (with_reducible refine (l2 _ (two_of (by assumption))).mono ?_); rintro e w' ⟨rfl, hb⟩) | (go_at_call 26; (with_reducible refine (l3 _ (two_of (by assumption))).mono ?_); rintro e w' ⟨rfl, rfl⟩))
        rename_i hS
        have HT4 := hS.2
        clear hS l1 l2 l3 HL HL2 HT3
        go_wp2_with fail
        go_roundw
        case rel => exact ⟨i + 1, p2, e2, by go_num, hi60, hp2, HE2, HT4⟩
        case measure => simp [intOf]; omega
      · obtain ⟨t1, p2, e2, hp2, he2, cr, cx⟩ := step_t r x s p e hp HS8.out HE.out
        have HE2 := hidm he2
        clear he2
        have gt : (t1.toList == t1.toList) = true := by simp
        go_wp2_with fail
        refine (cr wr HT.out.1).mono ?_
        rintro en w2 ⟨rfl, h1, b1⟩
        go_wp2_with fail
        refine (cx w2 (HT.out.2.1.but (Ne.symm hrx) b1)).mono ?_
        rintro en w3 ⟨rfl, h2, b2⟩
        have HT3 := hidm (HT.out.step hrx hrw hxw h1 b1 h2 b2)
        clear h1 b1 h2 b2 cr cx
        have l1 := fun u (hu : Two r x s p2 e2 w u) => Cod.left_any r s p2 e2 u hu.1 hp2 (by omega)
        have l2 := fun u (hu : Two r x s p2 e2 w u) => Rr.left_any x s p2 e2 u hu.2.1 hp2 (by omega)
        have l3 := fun u (hu : Two r x s p2 e2 w u) => Cod.err_any r s p2 e2 u hu.1
        have lst : w3.cell? ⟨x, 2, none⟩ = some (.int .i64 e2) ∧ Hid (Two r x s p2 e2 w w3) := ⟨HT3.out.2.1.c2, HT3⟩
        have lst2 : w3.drew.cell? ⟨x, 2, none⟩ = some (.int .i64 e2) ∧ Hid (Two r x s p2 e2 w w3.drew) := ⟨HT3.out.2.1.c2, hidm (HT3.out.later (Below.refl _ _).drew)⟩
        have HL := hidm lst
        have HL2 := hidm lst2
        clear lst lst2
        go_wp2_with fail
        go_region_held3 (fun u => u.cell? ⟨x, 2, none⟩ = some (.int .i64 e2) ∧ Hid (Two r x s p2 e2 w u))
          (first | (exact two_keep (by assumption) hb) | assumption | (exact HL.out) | (exact HL2.out) | go_keep)
          (first | (go_at_call 24; (with_reducible refine (l1 _ (two_of (by assumption))).mono ?_); rintro e w' ⟨rfl, hb⟩) | (go_at_call 25; (with_reducible refine (l2 _ (two_of (by assumption))).mono ?_); rintro e w' ⟨rfl, hb⟩) | (go_at_call 26; (with_reducible refine (l3 _ (two_of (by assumption))).mono ?_); rintro e w' ⟨rfl, rfl⟩))
        rename_i hS
        have HT4 := hS.2
        clear hS l1 l2 l3 HL HL2 HT3
        go_wp2_with fail
        go_roundw
        case rel => exact ⟨i + 1, p2, e2, by go_num, hi60, hp2, HE2, HT4⟩
        case measure => simp [intOf]; omega
      · obtain ⟨k1, n1, bb1, t1, p2, e2, hp2, he2, cr, cx⟩ := step_v r x s p e hp HS8.out HE.out
        have HE2 := hidm he2
        clear he2
        have gv := self_eqV k1 n1 bb1 t1
        go_wp2_with fail
        refine (cr wr HT.out.1).mono ?_
        rintro en w2 ⟨rfl, h1, b1⟩
        go_wp2_with fail
        refine (cx w2 (HT.out.2.1.but (Ne.symm hrx) b1)).mono ?_
        rintro en w3 ⟨rfl, h2, b2⟩
        have HT3 := hidm (HT.out.step hrx hrw hxw h1 b1 h2 b2)
        clear h1 b1 h2 b2 cr cx
        have l1 := fun u (hu : Two r x s p2 e2 w u) => Cod.left_any r s p2 e2 u hu.1 hp2 (by omega)
        have l2 := fun u (hu : Two r x s p2 e2 w u) => Rr.left_any x s p2 e2 u hu.2.1 hp2 (by omega)
        have l3 := fun u (hu : Two r x s p2 e2 w u) => Cod.err_any r s p2 e2 u hu.1
        have lst : w3.cell? ⟨x, 2, none⟩ = some (.int .i64 e2) ∧ Hid (Two r x s p2 e2 w w3) := ⟨HT3.out.2.1.c2, HT3⟩
        have lst2 : w3.drew.cell? ⟨x, 2, none⟩ = some (.int .i64 e2) ∧ Hid (Two r x s p2 e2 w w3.drew) := ⟨HT3.out.2.1.c2, hidm (HT3.out.later (Below.refl _ _).drew)⟩
        have HL := hidm lst
        have HL2 := hidm lst2
        clear lst lst2
        go_wp2_with fail
        go_region_held3 (fun u => u.cell? ⟨x, 2, none⟩ = some (.int .i64 e2) ∧ Hid (Two r x s p2 e2 w u))
          (first | (exact two_keep (by assumption) hb) | assumption | (exact HL.out) | (exact HL2.out) | go_keep)
          (first | (go_at_call 24; (with_reducible refine (l1 _ (two_of (by assumption))).mono ?_); rintro e w' ⟨rfl, hb⟩) | (go_at_call 25; (with_reducible refine (l2 _ (two_of (by assumption))).mono ?_); rintro e w' ⟨rfl, hb⟩) | (go_at_call 26; (with_reducible refine (l3 _ (two_of (by assumption))).mono ?_); rintro e w' ⟨rfl, rfl⟩))
        rename_i hS
        have HT4 := hS.2
        clear hS l1 l2 l3 HL HL2 HT3
        go_wp2_with fail
        go_roundw
        case rel => exact ⟨i + 1, p2, e2, by go_num, hi60, hp2, HE2, HT4⟩
        case measure => simp [intOf]; omega
      · obtain ⟨vs, p2, e2, hvs, hp2, he2, cr, cx⟩ := step_l r x s p e hp HS8.out HE.out
        have HE2 := hidm he2
        clear he2
        go_wp2_with fail
        refine (cr wr HT.out.1).mono ?_
        rintro en w2 ⟨sa, rfl, ha, h1, b1⟩
        go_wp2_with fail
        refine (cx w2 (HT.out.2.1.but (Ne.symm hrx) b1)).mono ?_
        rintro en w3' ⟨sb, rfl, hsb, h2, b2⟩
        have hro := rows_any vs vs sa sb (by omega) (by omega) w3' (RowAt.of_owns (owns_rrd ha (HT.out.2.1.but (Ne.symm hrx) b1) b2) rfl) (RowAt.of_owns hsb rfl)
        simp only [decide_true] at hro
        have HT2 := hidm (HT.out.step hrx hrw hxw h1 b1 h2 b2)
        clear ha hsb h1 b1 h2 b2 cr cx
        go_wp2_with fail
        refine hro.mono ?_
        rintro en w3 ⟨rfl, hb3⟩
        have HT3 := hidm (HT2.out.later hb3)
        clear hro hb3 HT2
        have l1 := fun u (hu : Two r x s p2 e2 w u) => Cod.left_any r s p2 e2 u hu.1 hp2 (by omega)
        have l2 := fun u (hu : Two r x s p2 e2 w u) => Rr.left_any x s p2 e2 u hu.2.1 hp2 (by omega)
        have l3 := fun u (hu : Two r x s p2 e2 w u) => Cod.err_any r s p2 e2 u hu.1
        have lst : w3.cell? ⟨x, 2, none⟩ = some (.int .i64 e2) ∧ Hid (Two r x s p2 e2 w w3) := ⟨HT3.out.2.1.c2, HT3⟩
        have lst2 : w3.drew.cell? ⟨x, 2, none⟩ = some (.int .i64 e2) ∧ Hid (Two r x s p2 e2 w w3.drew) := ⟨HT3.out.2.1.c2, hidm (HT3.out.later (Below.refl _ _).drew)⟩
        have HL := hidm lst
        have HL2 := hidm lst2
        clear lst lst2
        go_wp2_with fail
        go_region_held3 (fun u => u.cell? ⟨x, 2, none⟩ = some (.int .i64 e2) ∧ Hid (Two r x s p2 e2 w u))
          (first | (exact two_keep (by assumption) hb) | assumption | (exact HL.out) | (exact HL2.out) | go_keep)
          (first | (go_at_call 24; (with_reducible refine (l1 _ (two_of (by assumption))).mono ?_); rintro e w' ⟨rfl, hb⟩) | (go_at_call 25; (with_reducible refine (l2 _ (two_of (by assumption))).mono ?_); rintro e w' ⟨rfl, hb⟩) | (go_at_call 26; (with_reducible refine (l3 _ (two_of (by assumption))).mono ?_); rintro e w' ⟨rfl, rfl⟩))
        rename_i hS
        have HT4 := hS.2
        clear hS l1 l2 l3 HL HL2 HT3
        go_wp2_with fail
        go_roundw
        case rel => exact ⟨i + 1, p2, e2, by go_num, hi60, hp2, HE2, HT4⟩
        case measure => simp [intOf]; omega
    · have HT5 := hidm HT.out.2.2
      by_cases g1 : (i : Int) < (n : Int)
      · have g2 : ¬ (i : Int) < 60 := by omega
        clear hlt HT
        go_wp2_with fail
        refine (Cod.known_any _).mono ?_
        rintro en w5 ⟨rfl, hb⟩
        have HB5 := hidm (HT5.out.trans (hb.mono HT5.out.size))
        clear hb
        go_wp2_with fail
        go_ret
        exact ⟨rfl, HB5.out⟩
      · clear hlt HT
        go_wp2_with fail
        refine (Cod.known_any _).mono ?_
        rintro en w5 ⟨rfl, hb⟩
        have HB5 := hidm (HT5.out.trans (hb.mono HT5.out.size))
        clear hb
        go_wp2_with fail
        go_ret
        exact ⟨rfl, HB5.out⟩
theorem law_any (s : ByteArray) (ao : Option Addr) (n cap : Nat) (w : World) (hscr : BytesAt ao n w) : Calls Try.prog 3 #[.string s, .slice ao n cap] w fun e w' => e = .returned (.bool true) ∧ Below w.heap.size w w' := by
  rcases Nat.lt_or_ge 3000 s.size with h | h
  · exact long_any s ao n cap h w
  · exact main_any s ao n cap h w hscr
section
variable {H : Type} {enc : TypeId × Value → H} {W : World} {base : Nat} {sp : Nat → Bool} {held : Bool}
theorem open_bytes {v : Value} {d : DataW H} {p : List MemPlace} {r : Reach} {b0 : Nat} (hok : Value.okWide Try.prog W r b0 22 v) (h : DataW.Trod enc Try.prog W base sp held 22 v d p) :
    ∃ ao n cap, v = .slice ao n cap ∧ BytesAt ao n W := by
  obtain ⟨a, len, cap, rfl⟩ := okWide_slice Try.underlying22 hok
  obtain ⟨fuel, hf⟩ := h
  rcases open_ints Try.underlying22 Try.underlying5 (by kernel_rfl) hf with ⟨hcs, _⟩ | ⟨a', len', cap', zs, hcs, _, _, _, hz, _, hcell, hwf⟩
  · have hcs' : [Value.slice a len cap] = [.slice none 0 0] := hcs
    simp only [List.cons.injEq, Value.slice.injEq, and_true] at hcs'
    obtain ⟨rfl, rfl, rfl⟩ := hcs'
    exact ⟨none, 0, 0, rfl, fun j hj => by omega⟩
  · have hcs' : [Value.slice a len cap] = [.slice (some a') len' cap'] := hcs
    simp only [List.cons.injEq, Value.slice.injEq, and_true] at hcs'
    obtain ⟨rfl, rfl, rfl⟩ := hcs'
    have hle : len ≤ zs.length := by rw [hz]; split <;> omega
    refine ⟨some a', len, cap, rfl, fun j hj => ?_⟩
    have h0 := hcell j (by omega)
    have hx : zs.getD j 0 ∈ zs := by
      rw [List.getD_eq_getElem?_getD, List.getElem?_eq_getElem (by omega)]; exact List.getElem_mem _
    have hbd := bounds_u8 (hwf _ hx)
    obtain ⟨y, hy⟩ := Int.eq_ofNat_of_zero_le hbd.1
    rw [hy] at h0 hbd
    obtain ⟨b, off, spot⟩ := a'
    have h00 := hcell 0 (by omega)
    have e0 : (⟨b, off, spot⟩ : Addr).add 0 = ⟨b, off, spot⟩ := rfl
    rw [e0] at h00
    have hlt : b < W.heap.size := World.block_lt_of_cell? W _ h00
    have hs : spot = none := by
      unfold World.cell? at h00
      simp only at h00
      split at h00
      · split at h00
        · cases h00
        · rename_i hns; cases spot with
          | none => rfl
          | some q => simp at hns
      · cases h00
    subst hs
    refine ⟨b, off, y, rfl, hlt, by omega, ?_⟩
    have e : (⟨b, off, none⟩ : Addr).add j = ⟨b, off + j, none⟩ := by unfold Addr.add; split <;> simp_all
    rw [e] at h0; exact h0
end
theorem laidOut : laidOutB Try.prog = true := by kernel_rfl
set_option maxRecDepth 100000 in
theorem contract (H : Type) (enc : TypeId × Value → H) (W : World) (base : Nat) (args : Array Value) (ds gs : List (DataW H)) (before : List MemPlace)
    (hval : ∀ (j : Nat) t v, Try.f3.params[j]? = some t → args[j]? = some v → Value.okWide Try.prog W .any base t v)
    (hW : DataW.Whole enc Try.prog Try.f3.params.toList Rows.codeReadsSpec.vars false W args.toList ds gs before) :
    Calls Try.prog 3 args W fun e W' => ∃ v, e = .returned v ∧ Rows.codeReadsSpec.post enc Try.prog Try.f3 false true false false W args v W' := by
  have hW' := hW
  obtain ⟨p, q, hA0, hV, rfl, hfz, hnd⟩ := hW
  have hA : DataW.TrodAll enc Try.prog W 0 (fun _ => true) true Try.f3.params.toList args.toList ds p := hA0
  rw [Try.params3] at hA hval
  obtain ⟨v0, vs0, d0, ds0, p0, q0, hargs, rfl, rfl, h0, r0⟩ := trodAll_cons hA
  obtain ⟨v1, vs1, d1, ds1, p1, q1, rfl, rfl, rfl, h1, r1⟩ := trodAll_cons r0
  obtain ⟨rfl, rfl, rfl⟩ := trodAll_nil r1
  obtain rfl : args = #[v0, v1] := by cases args; simp_all
  obtain ⟨rfl, rfl⟩ := trodVars_none hV
  obtain ⟨s, rfl, rfl, rfl, ws⟩ := open_string Try.underlying9 (hval 0 9 v0 rfl rfl) h0
  obtain ⟨ao, n, cap, rfl, hscr⟩ := open_bytes (hval 1 22 v1 rfl rfl) h1
  clear hA0
  simp only [List.append_nil, List.nil_append] at hW'
  have hlt : ∀ x ∈ p1, x.block < W.heap.size := fun x hx => hW'.lt x hx
  refine (law_any s ao n cap W hscr).mono fun e W' ⟨he, hg⟩ => ?_
  subst he
  refine ⟨_, rfl, Fr.post_made (pa := p1) (pv := []) hW' (fun _ _ _ => trodAll_cons_mk (shut_bool Try.underlying4 _) trodAll_mk0) (fun sp hsp => ?_) (fun _ _ => rfl) (by simp) hg (ok_one (by kernel_rfl) rfl (okWide_bool_mk Try.underlying4 _))⟩
  have g2 : DataW.Trod enc Try.prog W' 0 sp true 22 (.slice ao n cap) d1 p1 := WideElems.Trod_stays laidOut (by kernel_rfl) (of_decide_eq_true (by kernel_rfl)) h1 (fun x hx => hg.same (hlt x hx)) (fun x hx => hsp x hx)
  have hT := trodAll_cons_mk (shut_string (enc := enc) (w := W') (base := 0) (sp := sp) (held := true) Try.underlying9 ws) (trodAll_cons_mk g2 trodAll_mk0)
  simp only [List.append_nil, List.nil_append] at hT
  exact hT
set_option maxRecDepth 100000 in
theorem lifted (os : Os) (started : os.Started) (H : Type) (enc : TypeId × Value → H) :
    ReturnsInHanded {} Try.checked os 3 .any (Rows.codeReadsSpec.pre6 enc Try.prog Try.f3 Rows.codeReadsRow.domain false) (Rows.codeReadsSpec.post enc Try.prog Try.f3 false true false false) := by
  refine returnsInHanded_of_change (C := Try.checked) Fr.own started (by kernel_rfl) Try.func3
    (ChangeSpec.witness6 (enc := enc) (C := Try.checked) false ⟨#[], #[.string ⟨#[]⟩, .slice none 0 0], []⟩ 8 (by kernel_rfl) (by kernel_rfl) (by kernel_rfl) (by kernel_rfl)) ?_
  intro W base args ds gs before hval hW _ _
  exact contract H enc W base args ds gs before hval hW
theorem said : Rows.CodeReadsSaid :=
  OpenClaim.holds_of_wide 3 Try.f3 rfl rfl rfl rfl rfl rfl rfl ⟨rfl, rfl, rfl, rfl, rfl⟩ rfl rfl rfl rfl rfl (by kernel_rfl) Try.func3 (by kernel_rfl)
    (of_decide_eq_true (by kernel_rfl)) (by unfold Func.isWrapper; first | (rw [if_pos (by decide +kernel)]; kernel_rfl) | (rw [if_neg (by decide +kernel)]; exact ⟨rfl, rfl⟩))
    (fun os started H enc _ => lifted os started H enc)
end LaCodeReads
end Go.Proofs.Ytinnkdbojgoicaa
