/- The law's fixed calls (layer 5): what must come of them. No condition. -/
import Derived.Test.YtopmbhpjdmcabaaJv
import Derived.Test.YtopmbhpjdmcabaaJl
import Derived.Test.YtopmbhpjdmcabaaJm
import Derived.Test.YtopmbhpjdmcabaaMan
namespace Go.Proofs.Ytopmbhpjdmcabaa
open Go.RowKit
namespace Sch
open Cod
def peN : List UInt8 := [112, 101, 111, 112, 108, 101]
def peC : List C := [⟨[105, 100], 2, true⟩, ⟨[110, 97, 109, 101], 5, false⟩]
def moC : List C := [⟨[105, 100], 2, true⟩, ⟨[110, 97, 109, 101], 5, false⟩, ⟨[115, 105, 122, 101], 3, false⟩]
def rw2 : List V := [⟨2, 7, 0, []⟩, ⟨0, 0, 0, []⟩]
theorem v7 : (⟨2, 7, 0, []⟩ : V).right = true := by
  unfold V.right Val.rightB Val.eqV
  simp [ByteArray.toList_eq]
theorem v0 : (⟨0, 0, 0, []⟩ : V).right = true := by
  unfold V.right Val.rightB Val.eqV
  simp [ByteArray.toList_eq]
theorem pe_right : rightB ⟨peN, peC, 1⟩ = true := by decide
theorem mo_right : rightB ⟨peN, moC, 1⟩ = true := by decide
theorem holds_of {c : C} {v : V} (h : v.right = true) : holdsB c v = (decide (v.k = c.k) || (decide (v.k = 0) && !c.nd)) := by unfold holdsB; rw [h, Bool.true_and]
theorem fits_pe : fitsB ⟨peN, peC, 1⟩ rw2 = 0 := by
  refine fits_yes pe_right rfl (fun j hj => ?_)
  have hc : j = 0 ∨ j = 1 := by simp [rw2] at hj; omega
  rcases hc with rfl | rfl
  · show holdsB ⟨[105, 100], 2, true⟩ ⟨2, 7, 0, []⟩ = true
    rw [holds_of v7]; decide
  · show holdsB ⟨[110, 97, 109, 101], 5, false⟩ ⟨0, 0, 0, []⟩ = true
    rw [holds_of v0]; decide
theorem fits_mo : fitsB ⟨peN, moC, 1⟩ rw2 = 10 := fits_len mo_right (by decide)
theorem fits_nil : fitsB ⟨[], [], 0⟩ [] = 11 := fits_no_right (by decide)
theorem key_pe : keyB ⟨peN, peC, 1⟩ rw2 = rw2.take 1 := by unfold keyB; rw [if_pos fits_pe]; rfl
theorem fits_wide : fitsB ⟨peN, moC, 1⟩ (wideB ⟨peN, moC, 1⟩ rw2) = 0 := by
  refine fits_yes mo_right rfl (fun j hj => ?_)
  have hc : j = 0 ∨ j = 1 ∨ j = 2 := by simp [wideB, rw2, moC] at hj; omega
  rcases hc with rfl | rfl | rfl
  · show holdsB ⟨[105, 100], 2, true⟩ ⟨2, 7, 0, []⟩ = true
    rw [holds_of v7]; decide
  · show holdsB ⟨[110, 97, 109, 101], 5, false⟩ ⟨0, 0, 0, []⟩ = true
    rw [holds_of v0]; decide
  · show holdsB ⟨[115, 105, 122, 101], 3, false⟩ ⟨0, 0, 0, []⟩ = true
    rw [holds_of v0]; decide
theorem widen_mo : widenB ⟨peN, moC, 1⟩ rw2 = (wideB ⟨peN, moC, 1⟩ rw2, 0) := by
  unfold widenB; rw [if_neg (by rw [mo_right]; simp), if_neg (by decide), if_pos fits_wide]
theorem ext_pm : extB ⟨peN, peC, 1⟩ ⟨peN, moC, 1⟩ = true := by decide
theorem ext_mp : extB ⟨peN, moC, 1⟩ ⟨peN, peC, 1⟩ = false := by decide
theorem body_two (q : T) : 2 < (bodyB q).length := by
  have h1 := uB_pos q.nm.length
  have h2 := uB_pos q.keys.toNat
  have h3 := uB_pos q.cols.length
  unfold bodyB tB
  simp only [List.length_append]
  omega
theorem lim_pe : Lim ⟨peN, peC, 1⟩ := ⟨by decide, by decide, by decide⟩
theorem lim_mo : Lim ⟨peN, moC, 1⟩ := ⟨by decide, by decide, by decide⟩
theorem lim_nil : Lim ⟨[], [], 0⟩ := ⟨by decide, by decide, by decide⟩
theorem owns_type {k o base : Nat} {e t : TypeId} {sz : Nat} {v u : Value} {n : Nat} {xs : List Value} {w : World} {cs : Array Value} {f : Nat × Nat} (h : w.ownsRow base e sz v n xs) (hk : w.heap[k]? = some (.cells cs t f)) (hte : t ≠ e) : (w.setCell ⟨k, o, none⟩ u).ownsRow base e sz v n xs := by
  refine ⟨h.1, ?_⟩
  rcases h.2 with h2 | ⟨g, cap, cur, hv, hg, hh, rest⟩
  · exact .inl h2
  · refine .inr ⟨g, cap, cur, hv, hg, put_other hh (fun e2 => ?_), rest⟩
    subst e2
    rw [hk] at hh
    simp only [Option.some.injEq, Obj.cells.injEq] at hh
    exact hte hh.2.1
theorem rw2_at (w : World) : RowC rw2 (.slice (some ⟨w.heap.size, 0, none⟩) 2 2) (w.alloc (.cells #[.int .i64 2, .int .i64 7, .int .u64 0, .string ⟨#[]⟩, .int .i64 0, .int .i64 0, .int .u64 0, .string ⟨#[]⟩] 33)) := by
  refine ⟨⟨_, 2, rfl, fun _ => ⟨w.heap.size, 0, rfl, by simp, fun j hj => ?_⟩⟩, _, 2, rfl, Nat.le_refl _, by omega, fun e => by cases e⟩
  rw [World.cell?_alloc_mark, Nat.zero_add, ← Array.getElem?_toList]
  rfl
def PeoP (pn : List UInt8) (pc : List C) (pk : Int) (w : World) (e : Ending) (w' : World) : Prop := ∃ so sc, e = .returned (.agg #[.string (S pn), .slice so pc.length sc, .int .i64 pk]) ∧ w'.ownsRow w.heap.size 58 3 (.slice so pc.length sc) pc.length (cflat pc) ∧ Below w.heap.size w w'
set_option maxRecDepth 100000 in
theorem people_any (w : World) : Calls Try.prog 23 #[] w fun e w' => PeoP peN peC 1 w e w' := by
  go_enter Try.func23, Try.ntmps23
  go_wp2_with fail
  refine bodyPost_ret (v := .agg #[.string ⟨#[112, 101, 111, 112, 108, 101]⟩, .slice (some ⟨w.heap.size + 1, 0, none⟩) 2 2, .int .i64 1]) (by simp [results, Try.results23, go_sem]) rfl ?_
  have hb0 : Below w.heap.size w (w.alloc (.cells #[.string ⟨#[112, 101, 111, 112, 108, 101]⟩, .slice (some ⟨w.heap.size + 1, 0, none⟩) 2 2, .int .i64 1] 24)) := (Below.refl _ _).alloc (Nat.le_refl _) _
  have hown := World.ownsRow_lit (base := w.heap.size) (e := 58) (size := 3) (w.alloc (.cells #[.string ⟨#[112, 101, 111, 112, 108, 101]⟩, .slice (some ⟨w.heap.size + 1, 0, none⟩) 2 2, .int .i64 1] 24)) #[.string ⟨#[105, 100]⟩, .int .i64 2, .bool true, .string ⟨#[110, 97, 109, 101]⟩, .int .i64 5, .bool false] 2 (by simp) (by unfold maxLen; omega) rfl
  exact ⟨some ⟨w.heap.size + 1, 0, none⟩, 2, rfl, by
    have h := hown
    rw [show (w.alloc (.cells #[.string ⟨#[112, 101, 111, 112, 108, 101]⟩, .slice (some ⟨w.heap.size + 1, 0, none⟩) 2 2, .int .i64 1] 24)).heap.size = w.heap.size + 1 from by simp] at h
    exact h, hb0.alloc (by simp) _⟩
theorem RowC.row {vs : List V} {sl : Value} {w : World} (h : RowC vs sl w) : RowAt vs sl w := h.1
theorem rows_same (xs : List V) (sa sb : Value) (hl : xs.length ≤ 1000000) (w : World) (h1 : RowAt xs sa w) (h2 : RowAt xs sb w) :
    Calls Try.prog 12 #[sa, sb] w fun e w' => e = .returned (.bool true) ∧ Below w.heap.size w w' := by
  have h := rows_any xs xs sa sb hl hl w h1 h2
  rw [decide_eq_true rfl] at h
  exact h
theorem ext_is {a b : T} {x : Bool} (hx : extB a b = x) (la : Lim a) (lb : Lim b) (sa sb : Value) (w : World) (h1 : ColsAt a.cols sa w) (h2 : ColsAt b.cols sb w) :
    Calls Try.prog 29 #[.agg #[.string (S a.nm), sa, .int .i64 a.keys], .agg #[.string (S b.nm), sb, .int .i64 b.keys]] w fun e w' => e = .returned (.bool x) ∧ Below w.heap.size w w' := hx ▸ extends_any a b la lb sa sb w h1 h2
theorem known_step {wb : World} {b1 b2 b9 : Nat} {pn : List UInt8} {pk : Int} {n sc vc sc9 : Nat} {so vo so9 : Option Addr} {w1 w' : World} (h : w1.cell? ⟨b1, 0, none⟩ = some (.string (S pn)) ∧ w1.cell? ⟨b1, 1, none⟩ = some (.slice so n sc) ∧ w1.cell? ⟨b1, 2, none⟩ = some (.int .i64 pk) ∧ w1.cell? ⟨b2, 0, none⟩ = some (.string (S pn)) ∧ w1.cell? ⟨b2, 1, none⟩ = some (.slice vo (n + 1) vc) ∧ w1.cell? ⟨b2, 2, none⟩ = some (.int .i64 pk) ∧ w1.cell? ⟨b9, 0, none⟩ = some (.string (S pn)) ∧ w1.cell? ⟨b9, 1, none⟩ = some (.slice so9 n sc9) ∧ w1.cell? ⟨b9, 2, none⟩ = some (.int .i64 pk) ∧ Below wb.heap.size wb w1 ∧ wb.heap.size ≤ w1.heap.size) (hb : Below w1.heap.size w1 w') : w'.cell? ⟨b1, 0, none⟩ = some (.string (S pn)) ∧ w'.cell? ⟨b1, 1, none⟩ = some (.slice so n sc) ∧ w'.cell? ⟨b1, 2, none⟩ = some (.int .i64 pk) ∧ w'.cell? ⟨b2, 0, none⟩ = some (.string (S pn)) ∧ w'.cell? ⟨b2, 1, none⟩ = some (.slice vo (n + 1) vc) ∧ w'.cell? ⟨b2, 2, none⟩ = some (.int .i64 pk) ∧ w'.cell? ⟨b9, 0, none⟩ = some (.string (S pn)) ∧ w'.cell? ⟨b9, 1, none⟩ = some (.slice so9 n sc9) ∧ w'.cell? ⟨b9, 2, none⟩ = some (.int .i64 pk) ∧ Below wb.heap.size wb w' ∧ wb.heap.size ≤ w'.heap.size := by
  obtain ⟨c0, c1, c2, c3, c4, c5, c6, c7, c8, hB, hz⟩ := h
  exact ⟨cell_later hb c0, cell_later hb c1, cell_later hb c2, cell_later hb c3, cell_later hb c4, cell_later hb c5, cell_later hb c6, cell_later hb c7, cell_later hb c8, hB.trans (hb.mono hz), Nat.le_trans hz hb.size⟩
set_option maxHeartbeats 4000000 in
set_option maxRecDepth 100000 in
theorem known_any (w : World) : Calls Try.prog 9 #[] w fun e w' => e = .returned (.bool true) ∧ Below w.heap.size w w' := by
  obtain ⟨i0, hi, hz0, hz1, hz2⟩ := info_parts infoC
  obtain ⟨pn, hpn⟩ : ∃ x, x = peN := ⟨_, rfl⟩
  obtain ⟨pc, hpc⟩ : ∃ x, x = peC := ⟨_, rfl⟩
  obtain ⟨pk, hpk⟩ : ∃ x : Int, x = 1 := ⟨_, rfl⟩
  obtain ⟨mc, hmc⟩ : ∃ x, x = moC := ⟨_, rfl⟩
  have PEO := hidm (show ∀ w, Calls Try.prog 23 #[] w fun e w' => PeoP pn pc pk w e w' from by rw [hpn, hpc, hpk]; exact people_any)
  have HPR := hidm (show rightB ⟨pn, pc, pk⟩ = true from by rw [hpn, hpc, hpk]; exact pe_right)
  have HMR := hidm (show rightB ⟨pn, mc, pk⟩ = true from by rw [hpn, hmc, hpk]; exact mo_right)
  have HFP := hidm (show fitsB ⟨pn, pc, pk⟩ rw2 = 0 from by rw [hpn, hpc, hpk]; exact fits_pe)
  have HFM := hidm (show fitsB ⟨pn, mc, pk⟩ rw2 = 10 from by rw [hpn, hmc, hpk]; exact fits_mo)
  have HKP := hidm (show keyB ⟨pn, pc, pk⟩ rw2 = rw2.take 1 from by rw [hpn, hpc, hpk]; exact key_pe)
  have HWM := hidm (show widenB ⟨pn, mc, pk⟩ rw2 = (wideB ⟨peN, moC, 1⟩ rw2, 0) from by rw [hpn, hmc, hpk]; exact widen_mo)
  have HE1 := hidm (show extB ⟨pn, pc, pk⟩ ⟨pn, mc, pk⟩ = true from by rw [hpn, hpc, hmc, hpk]; exact ext_pm)
  have HE2 := hidm (show extB ⟨pn, mc, pk⟩ ⟨pn, pc, pk⟩ = false from by rw [hpn, hpc, hmc, hpk]; exact ext_mp)
  have HLP := hidm (show Lim ⟨pn, pc, pk⟩ from by rw [hpn, hpc, hpk]; exact lim_pe)
  have HLM := hidm (show Lim ⟨pn, mc, pk⟩ from by rw [hpn, hmc, hpk]; exact lim_mo)
  have HMC := hidm (show cflat pc ++ [.string ⟨#[115, 105, 122, 101]⟩, .int .i64 3, .bool false] = cflat mc ∧ pc.length + 1 = mc.length from by rw [hpc, hmc]; exact ⟨rfl, rfl⟩)
  have HPL := hidm (show (bodyB ⟨pn, pc, pk⟩).length ≤ 100000 from by rw [hpn, hpc, hpk]; have h := preB_len pe_right (T.cols ⟨peN, peC, 1⟩).length; rw [preB_end] at h; omega)
  have hpl : pc.length ≤ 100 := by rw [hpc]; decide
  obtain ⟨n, hn⟩ : ∃ n, n = pc.length := ⟨_, rfl⟩
  have HN := hidm hn
  rw [← hn] at hpl
  clear hpn hpc hpk hmc hn
  go_enter Try.func9, Try.ntmps9
  go_wp2_with fail
  refine (PEO.out _).mono ?_
  rintro e w1 ⟨so, sc, rfl, hown, hb⟩
  rw [← HN.out] at hown
  have HC1 := hidm (show ColsAt pc (.slice so n sc) w1 from ColsAt.of_owns (by rw [← HN.out]; exact hown))
  have HB1 := hidm hb
  clear hown hb
  have hbA : Below w1.heap.size w1 (w1.alloc (.cells #[.string (S pn), .slice so n sc, .int .i64 pk] 24)) := (Below.refl _ _).alloc (Nat.le_refl _) _
  have HK1 := hidm (heap_alloc_new w1 (.cells #[.string (S pn), .slice so n sc, .int .i64 pk] 24))
  have HCA := hidm (HC1.out.later hbA)
  have HBA := hidm (HB1.out.trans (hbA.mono HB1.out.size))
  clear hbA
  rw [← HN.out]
  go_wp2_with fail
  refine (PEO.out _).mono ?_
  rintro e w2 ⟨so2, sc2, rfl, hown, hb⟩
  have HO2 := hidm hown
  have HBQ := hidm hb
  have HC2 := hidm (HCA.out.later hb)
  have HK2 := hidm (below_keeps hb HK1.out)
  have HB2 := hidm (HBA.out.trans (hb.mono HBA.out.size))
  clear hown hb
  rw [← HN.out, show (w1.alloc (.cells #[.string (S pn), .slice so n sc, .int .i64 pk] 24)).heap.size = w1.heap.size + 1 from by simp] at HO2
  rw [← HN.out]
  have hbB : Below w2.heap.size w2 (w2.alloc (.cells #[.string (S pn), .slice so2 n sc2, .int .i64 pk] 24)) := (Below.refl _ _).alloc (Nat.le_refl _) _
  have HKB := hidm (heap_alloc_new w2 (.cells #[.string (S pn), .slice so2 n sc2, .int .i64 pk] 24))
  have HK3 := hidm (below_keeps hbB HK2.out)
  have HC3 := hidm (HC2.out.later hbB)
  have HB3 := hidm (HB2.out.trans (hbB.mono HB2.out.size))
  have hown := (owns_later HO2.out hbB)
  have hlt := hown.lt
  have hz1' := HBA.out.size
  have hz2' := HB2.out.size
  have hz3' : w1.heap.size + 1 ≤ w2.heap.size := by have := lt_of_block HK2.out; omega
  obtain ⟨g0, g1, g2⟩ := three HKB.out
  have gf := frz HKB.out 1
  clear hbB
  go_wp2_with (at_builtin; refine wpList_append_own _ rfl _ _ 22 rfl (w1.heap.size + 1) 58 i0 (.agg #[.string ⟨#[]⟩, .int .i64 0, .bool false]) 3 32 Try.underlying22 hi hz0 hz1 hz2 rfl (by decide) _ _ _ rfl (hown.alloc _) ⟨w2.heap.size + 1, 0, none⟩ 1 1 [.string ⟨#[115, 105, 122, 101]⟩, .int .i64 3, .bool false] rfl rfl ?CA ?CB ?CC ?CD ?CE ?_)
  case CA =>
    intro j y hj
    rcases cell_thr _ _ _ j y hj with ⟨rfl, rfl⟩ | ⟨rfl, rfl⟩ | ⟨rfl, rfl⟩ <;> simp [Addr.add, go_sem]
  case CB => intro y hy; simp at hy; rcases hy with rfl | rfl | rfl <;> rfl
  case CC => unfold maxLen; omega
  case CD => omega
  case CE => simp; omega
  intro v' w4 hown' hgrow _
  obtain ⟨vo, vc, hvv⟩ : ∃ so sc, v' = .slice so (n + 1) sc := by
    rcases hown'.2 with ⟨hv, h0⟩ | ⟨g, cap, cur, hv, _⟩
    · exact absurd h0 (by omega)
    · exact ⟨_, _, hv⟩
  subst hvv
  have hgx : ∀ k, (Value.slice so2 n sc2).ownBlock = some k → w1.heap.size + 1 ≤ k ∧ k < w2.heap.size := HO2.out.lt
  have hK4 := grown_keeps (below_keeps ((Below.refl _ _).alloc (Nat.le_refl _) _) HKB.out) hgrow (fun g hg => by have := (hgx g hg).2; omega)
  have hQ4 : Below (w1.alloc (.cells #[.string (S pn), .slice so n sc, .int .i64 pk] 24)).heap.size (w1.alloc (.cells #[.string (S pn), .slice so n sc, .int .i64 pk] 24)) w4 := (((HBQ.out.alloc HBQ.out.size _).alloc (by have := HBQ.out.size; simp at this ⊢; omega) _).grown hgrow (by have := HBQ.out.size; simp at this ⊢; omega) (fun k hk => by have := (hgx k hk).1; simp; omega))
  obtain ⟨k0, k1, k2⟩ := three hK4
  have kf := frz hK4 1
  have hK5 := put1 (u := .slice vo (n + 1) vc) hK4
  have hQ5 : Below (w1.alloc (.cells #[.string (S pn), .slice so n sc, .int .i64 pk] 24)).heap.size (w1.alloc (.cells #[.string (S pn), .slice so n sc, .int .i64 pk] 24)) (w4.setCell ⟨w2.heap.size, 1, none⟩ (.slice vo (n + 1) vc)) := hQ4.setCell (p := ⟨w2.heap.size, 1, none⟩) (by simp; omega) _
  have hO5 := owns_type (o := 1) (u := .slice vo (n + 1) vc) hown' hK4 (by decide)
  rw [HN.out, HMC.out.1, HMC.out.2] at hO5
  have hC5 : ColsAt mc (.slice vo (n + 1) vc) (w4.setCell ⟨w2.heap.size, 1, none⟩ (.slice vo (n + 1) vc)) := by
    have h := ColsAt.of_owns hO5
    rw [← HMC.out.2, ← HN.out] at h
    exact h
  obtain ⟨w5, hw5⟩ : ∃ x, x = w4.setCell ⟨w2.heap.size, 1, none⟩ (.slice vo (n + 1) vc) := ⟨_, rfl⟩
  have hs5 : w5.heap.size = w4.heap.size := by rw [hw5]; simp
  rw [← hw5] at hK5 hQ5 hC5
  have hRW := rw2_at w5
  have hb6 : Below w5.heap.size w5 (w5.alloc (.cells #[.int .i64 2, .int .i64 7, .int .u64 0, .string ⟨#[]⟩, .int .i64 0, .int .i64 0, .int .u64 0, .string ⟨#[]⟩] 33)) := (Below.refl _ _).alloc (Nat.le_refl _) _
  have HK1_6 := hidm (below_keeps hb6 (below_keeps hQ5 HK1.out))
  have HK2_6 := hidm (below_keeps hb6 hK5)
  have HC1_6 := hidm ((HCA.out.later hQ5).later hb6)
  have HC2_6 := hidm (hC5.later hb6)
  have HB6 := hidm (HBA.out.trans ((hQ5.trans (hb6.mono hQ5.size)).mono (by simp; have := HB1.out.size; omega)))
  rw [hs5] at hRW
  have HRW := hidm hRW
  have HW5 := hidm hw5
  have HS5 := hidm hs5
  obtain ⟨e0, e1, e2⟩ := three HK2_6.out
  rw [hw5] at e0 e1 e2
  have P6 := widen_any ⟨pn, mc, pk⟩ HLM.out (.slice vo (n + 1) vc) rw2 (.slice (some ⟨w4.heap.size, 0, none⟩) 2 2) (by decide) (by decide) (w5.alloc (.cells #[.int .i64 2, .int .i64 7, .int .u64 0, .string ⟨#[]⟩, .int .i64 0, .int .i64 0, .int .u64 0, .string ⟨#[]⟩] 33)) HC2_6.out HRW.out
  rw [HWM.out, hw5] at P6
  clear hown' hgrow hown hlt hgx hK4 hQ4 hK5 hQ5 hO5 hC5 hRW hb6 g0 g1 g2 gf hw5 hs5 HKB HK3 HC3 HB3 HO2 HC2 HK2 HB2 HBQ
  go_wp2_with fail
  refine P6.mono ?_
  rintro e w7 ⟨v, rfl, hv, hb⟩
  rw [← HW5.out] at hb
  have HR_6 := hidm HRW.out
  have HK1_7 := hidm (below_keeps hb HK1_6.out)
  have HK2_7 := hidm (below_keeps hb HK2_6.out)
  have HC1_7 := hidm (HC1_6.out.later hb)
  have HC2_7 := hidm (HC2_6.out.later hb)
  have HR_7 := hidm (HR_6.out.later hb)
  have HB7 := hidm (HB6.out.trans (hb.mono HB6.out.size))
  have HWD_7 := hidm hv
  obtain ⟨wo, wc, hv2, _⟩ := hv.2
  have hl3 : (wideB ⟨peN, moC, 1⟩ rw2).length = 3 := by decide
  rw [hl3] at hv2
  subst hv2
  have P7 := encode_is (s := ⟨pn, pc, pk⟩) (l := bodyB ⟨pn, pc, pk⟩) (by unfold encB; rw [if_pos HPR.out]) HLP.out (.slice so n sc) w7 HC1_7.out
  obtain ⟨e0, e1, e2⟩ := three HK1_7.out
  clear hv hb P6 hl3 e0 e1 e2
  obtain ⟨e0, e1, e2⟩ := three HK1_7.out
  go_wp2_with fail
  refine P7.mono ?_
  rintro e w8 ⟨rfl, hb⟩
  have HK1_8 := hidm (below_keeps hb HK1_7.out)
  have HK2_8 := hidm (below_keeps hb HK2_7.out)
  have HC1_8 := hidm (HC1_7.out.later hb)
  have HC2_8 := hidm (HC2_7.out.later hb)
  have HR_8 := hidm (HR_7.out.later hb)
  have HB8 := hidm (HB7.out.trans (hb.mono HB7.out.size))
  have HWD_8 := hidm (HWD_7.out.later hb)
  clear hb P7 e0 e1 e2
  go_wp2_with fail
  refine (decode_any (bodyB ⟨pn, pc, pk⟩) HPL.out w8).mono ?_
  rintro e w9 ⟨t, sl9, x9, rfl, hc, hb, hn9, hm9, hcn9, hor⟩
  have ht : t = ⟨pn, pc, pk⟩ ∧ x9 = 0 := by
    rcases hor with ⟨h1, h2, h3, h4⟩ | ⟨_, _, h3⟩
    · exact ⟨h4 _ HPR.out rfl, h1⟩
    · exact (h3 _ HPR.out rfl).elim
  obtain ⟨rfl, rfl⟩ := ht
  have HC9_9 := hidm (show ColsAt pc sl9 w9 from hc)
  have HK1_9 := hidm (below_keeps hb HK1_8.out)
  have HK2_9 := hidm (below_keeps hb HK2_8.out)
  have HC1_9 := hidm (HC1_8.out.later hb)
  have HC2_9 := hidm (HC2_8.out.later hb)
  have HR_9 := hidm (HR_8.out.later hb)
  have HB9 := hidm (HB8.out.trans (hb.mono HB8.out.size))
  have HWD_9 := hidm (HWD_8.out.later hb)
  obtain ⟨so9, sc9, hs9, _, _⟩ := hc.form
  have hs9' : sl9 = .slice so9 n sc9 := by rw [hs9, HN.out]
  subst hs9'
  clear hc hb hn9 hm9 hcn9 hor hs9
  have hbA : Below w9.heap.size w9 (w9.alloc (.cells #[.string (S pn), .slice so9 n sc9, .int .i64 pk] 24)) := (Below.refl _ _).alloc (Nat.le_refl _) _
  have HK9_A := hidm (heap_alloc_new w9 (.cells #[.string (S pn), .slice so9 n sc9, .int .i64 pk] 24))
  have HK1_A := hidm (below_keeps hbA HK1_9.out)
  have HK2_A := hidm (below_keeps hbA HK2_9.out)
  have HC1_A := hidm (HC1_9.out.later hbA)
  have HC2_A := hidm (HC2_9.out.later hbA)
  have HR_A := hidm (HR_9.out.later hbA)
  have HBA := hidm (HB9.out.trans (hbA.mono HB9.out.size))
  have HWD_A := hidm (HWD_9.out.later hbA)
  have HC9_A := hidm (HC9_9.out.later hbA)
  clear hbA
  go_wp2_with fail
  refine (decode_any [97] (by decide) _).mono ?_
  rintro e w10 ⟨t, slz, xz, rfl, hc, hb, hnz, hmz, hcnz, hor⟩
  have ht : t = ⟨[], [], 0⟩ ∧ xz = 7 := by
    rcases hor with ⟨h1, h2, h3, h4⟩ | ⟨h1, h2, _⟩
    · have h5 := body_two t
      rw [h3] at h5
      exact absurd h5 (by decide)
    · exact ⟨h2, h1⟩
  obtain ⟨rfl, rfl⟩ := ht
  have HK1_10 := hidm (below_keeps hb HK1_A.out)
  have HK2_10 := hidm (below_keeps hb HK2_A.out)
  have HC1_10 := hidm (HC1_A.out.later hb)
  have HC2_10 := hidm (HC2_A.out.later hb)
  have HR_10 := hidm (HR_A.out.later hb)
  have HB10 := hidm (HBA.out.trans (hb.mono HBA.out.size))
  have HWD_10 := hidm (HWD_A.out.later hb)
  have HK9_10 := hidm (below_keeps hb HK9_A.out)
  have HC9_10 := hidm (HC9_A.out.later hb)
  obtain ⟨soz, scz, hsz, _, _⟩ := hc.form
  have hsz' : slz = .slice soz 0 scz := hsz
  subst hsz'
  clear hc hb hnz hmz hcnz hor hsz
  have hbA : Below w10.heap.size w10 (w10.alloc (.cells #[.string (S []), .slice soz 0 scz, .int .i64 0] 24)) := (Below.refl _ _).alloc (Nat.le_refl _) _
  have HK1_B := hidm (below_keeps hbA HK1_10.out)
  have HK2_B := hidm (below_keeps hbA HK2_10.out)
  have HC1_B := hidm (HC1_10.out.later hbA)
  have HC2_B := hidm (HC2_10.out.later hbA)
  have HR_B := hidm (HR_10.out.later hbA)
  have HBB := hidm (HB10.out.trans (hbA.mono HB10.out.size))
  have HWD_B := hidm (HWD_10.out.later hbA)
  have HK9_B := hidm (below_keeps hbA HK9_10.out)
  have HC9_B := hidm (HC9_10.out.later hbA)
  clear hbA
  obtain ⟨a0, a1, a2⟩ := three HK1_B.out
  obtain ⟨c0, c1, c2⟩ := three HK2_B.out
  obtain ⟨d0, d1, d2⟩ := three HK9_B.out
  have SS0 := hidm (show (w10.alloc (.cells #[.string (S []), .slice soz 0 scz, .int .i64 0] 24)).cell? ⟨w1.heap.size, 0, none⟩ = some (.string (S pn)) ∧ (w10.alloc (.cells #[.string (S []), .slice soz 0 scz, .int .i64 0] 24)).cell? ⟨w1.heap.size, 1, none⟩ = some (.slice so n sc) ∧ (w10.alloc (.cells #[.string (S []), .slice soz 0 scz, .int .i64 0] 24)).cell? ⟨w1.heap.size, 2, none⟩ = some (.int .i64 pk) ∧ (w10.alloc (.cells #[.string (S []), .slice soz 0 scz, .int .i64 0] 24)).cell? ⟨w2.heap.size, 0, none⟩ = some (.string (S pn)) ∧ (w10.alloc (.cells #[.string (S []), .slice soz 0 scz, .int .i64 0] 24)).cell? ⟨w2.heap.size, 1, none⟩ = some (.slice vo (n + 1) vc) ∧ (w10.alloc (.cells #[.string (S []), .slice soz 0 scz, .int .i64 0] 24)).cell? ⟨w2.heap.size, 2, none⟩ = some (.int .i64 pk) ∧ (w10.alloc (.cells #[.string (S []), .slice soz 0 scz, .int .i64 0] 24)).cell? ⟨w9.heap.size, 0, none⟩ = some (.string (S pn)) ∧ (w10.alloc (.cells #[.string (S []), .slice soz 0 scz, .int .i64 0] 24)).cell? ⟨w9.heap.size, 1, none⟩ = some (.slice so9 n sc9) ∧ (w10.alloc (.cells #[.string (S []), .slice soz 0 scz, .int .i64 0] 24)).cell? ⟨w9.heap.size, 2, none⟩ = some (.int .i64 pk) ∧ Below (w10.alloc (.cells #[.string (S []), .slice soz 0 scz, .int .i64 0] 24)).heap.size (w10.alloc (.cells #[.string (S []), .slice soz 0 scz, .int .i64 0] 24)) (w10.alloc (.cells #[.string (S []), .slice soz 0 scz, .int .i64 0] 24)) ∧ (w10.alloc (.cells #[.string (S []), .slice soz 0 scz, .int .i64 0] 24)).heap.size ≤ (w10.alloc (.cells #[.string (S []), .slice soz 0 scz, .int .i64 0] 24)).heap.size from ⟨a0, a1, a2, c0, c1, c2, d0, d1, d2, Below.refl _ _, Nat.le_refl _⟩)
  clear a0 a1 a2 c0 c1 c2 d0 d1 d2
  go_wp2_with fail
  simp only [List.append_eq, List.cons_append, List.nil_append]
  refine wp_region_held_drew (S := fun u => u.cell? ⟨w1.heap.size, 0, none⟩ = some (.string (S pn)) ∧ u.cell? ⟨w1.heap.size, 1, none⟩ = some (.slice so n sc) ∧ u.cell? ⟨w1.heap.size, 2, none⟩ = some (.int .i64 pk) ∧ u.cell? ⟨w2.heap.size, 0, none⟩ = some (.string (S pn)) ∧ u.cell? ⟨w2.heap.size, 1, none⟩ = some (.slice vo (n + 1) vc) ∧ u.cell? ⟨w2.heap.size, 2, none⟩ = some (.int .i64 pk) ∧ u.cell? ⟨w9.heap.size, 0, none⟩ = some (.string (S pn)) ∧ u.cell? ⟨w9.heap.size, 1, none⟩ = some (.slice so9 n sc9) ∧ u.cell? ⟨w9.heap.size, 2, none⟩ = some (.int .i64 pk) ∧ Below (w10.alloc (.cells #[.string (S []), .slice soz 0 scz, .int .i64 0] 24)).heap.size (w10.alloc (.cells #[.string (S []), .slice soz 0 scz, .int .i64 0] 24)) u ∧ (w10.alloc (.cells #[.string (S []), .slice soz 0 scz, .int .i64 0] 24)).heap.size ≤ u.heap.size) (by kernel_rfl) ?_ (fun hHeld => ?_)
  · exact known_step SS0.out ((Below.refl _ _).drew)
  refine Man.take1 (i := 0) (v := ?_) rfl (by kernel_rfl) (by kernel_rfl) (by kernel_rfl) (fun _ _ _ h => h) (by rfl) ?_ (by assumption) ?_
  rotate_left
  · (intro u hSu; (try dsimp only at hSu); go_simp; (try with_reducible rfl))
  (try simp only [Act.put, List.setIfInBounds_toArray, List.set_cons_zero, List.set_cons_succ])
  refine Man.one (i := 1) rfl (by kernel_rfl) (fun K hK => ?_)
  go_simp
  (go_at_call 27; (with_reducible refine (right_is HPR.out HLP.out _ _ (HC1_B.out.later hHeld.2.2.2.2.2.2.2.2.2.1)).mono ?_); rintro e w' ⟨rfl, hb⟩)
  refine hK.out _ _ ?_ (fun hNew => ?_)
  · exact known_step hHeld hb
  clear hHeld hK K hb
  have hHeld := hNew
  clear hNew
  (try simp only [Act.put, List.setIfInBounds_toArray, List.set_cons_zero, List.set_cons_succ])
  refine Man.take1 (i := 2) (v := ?_) rfl (by kernel_rfl) (by kernel_rfl) (by kernel_rfl) (fun _ _ _ h => h) (by rfl) ?_ (by assumption) ?_
  rotate_left
  · (intro u hSu; (try dsimp only at hSu); go_simp; (try with_reducible rfl))
  (try simp only [Act.put, List.setIfInBounds_toArray, List.set_cons_zero, List.set_cons_succ])
  refine Man.one (i := 3) rfl (by kernel_rfl) (fun K hK => ?_)
  go_simp
  (go_at_call 28; (with_reducible refine (name_is (b := true) (by decide) (by decide) _).mono ?_); rintro e w' ⟨rfl, hb⟩)
  refine hK.out _ _ ?_ (fun hNew => ?_)
  · exact known_step hHeld hb
  clear hHeld hK K hb
  have hHeld := hNew
  clear hNew
  (try simp only [Act.put, List.setIfInBounds_toArray, List.set_cons_zero, List.set_cons_succ])
  refine Man.take1 (i := 4) (v := ?_) rfl (by kernel_rfl) (by kernel_rfl) (by kernel_rfl) (fun _ _ _ h => h) (by rfl) ?_ (by assumption) ?_
  rotate_left
  · (intro u hSu; (try dsimp only at hSu); go_simp; (try with_reducible rfl))
  (try simp only [Act.put, List.setIfInBounds_toArray, List.set_cons_zero, List.set_cons_succ])
  refine Man.take1 (i := 5) (v := ?_) rfl (by kernel_rfl) (by kernel_rfl) (by kernel_rfl) (fun _ _ _ h => h) (by rfl) ?_ (by assumption) ?_
  rotate_left
  · (intro u hSu; (try dsimp only at hSu); go_simp; (try with_reducible rfl))
  (try simp only [Act.put, List.setIfInBounds_toArray, List.set_cons_zero, List.set_cons_succ])
  refine Man.one (i := 6) rfl (by kernel_rfl) (fun K hK => ?_)
  go_simp
  (go_at_call 28; (with_reducible refine (name_is (b := false) (by decide) (by decide) _).mono ?_); rintro e w' ⟨rfl, hb⟩)
  refine hK.out _ _ ?_ (fun hNew => ?_)
  · exact known_step hHeld hb
  clear hHeld hK K hb
  have hHeld := hNew
  clear hNew
  (try simp only [Act.put, List.setIfInBounds_toArray, List.set_cons_zero, List.set_cons_succ])
  refine Man.take1 (i := 7) (v := ?_) rfl (by kernel_rfl) (by kernel_rfl) (by kernel_rfl) (fun _ _ _ h => h) (by rfl) ?_ (by assumption) ?_
  rotate_left
  · (intro u hSu; (try dsimp only at hSu); go_simp; (try with_reducible rfl))
  (try simp only [Act.put, List.setIfInBounds_toArray, List.set_cons_zero, List.set_cons_succ])
  refine Man.take1 (i := 8) (v := ?_) rfl (by kernel_rfl) (by kernel_rfl) (by kernel_rfl) (fun _ _ _ h => h) (by rfl) ?_ (by assumption) ?_
  rotate_left
  · (intro u hSu; (try dsimp only at hSu); go_simp; (try with_reducible rfl))
  (try simp only [Act.put, List.setIfInBounds_toArray, List.set_cons_zero, List.set_cons_succ])
  refine Man.take1 (i := 9) (v := ?_) rfl (by kernel_rfl) (by kernel_rfl) (by kernel_rfl) (fun _ _ _ h => h) (by rfl) ?_ (by assumption) ?_
  rotate_left
  · (intro u hSu; (try dsimp only at hSu); go_simp; (try with_reducible rfl))
  (try simp only [Act.put, List.setIfInBounds_toArray, List.set_cons_zero, List.set_cons_succ])
  refine Man.take1 (i := 10) (v := ?_) rfl (by kernel_rfl) (by kernel_rfl) (by kernel_rfl) (fun _ _ _ h => h) (by rfl) ?_ (by assumption) ?_
  rotate_left
  · (intro u hSu; (try dsimp only at hSu); go_simp; (try with_reducible rfl))
  (try simp only [Act.put, List.setIfInBounds_toArray, List.set_cons_zero, List.set_cons_succ])
  refine Man.take1 (i := 11) (v := ?_) rfl (by kernel_rfl) (by kernel_rfl) (by kernel_rfl) (fun _ _ _ h => h) (by rfl) ?_ (by assumption) ?_
  rotate_left
  · (intro u hSu; (try dsimp only at hSu); go_simp; (try with_reducible rfl))
  (try simp only [Act.put, List.setIfInBounds_toArray, List.set_cons_zero, List.set_cons_succ])
  refine Man.one (i := 12) rfl (by kernel_rfl) (fun K hK => ?_)
  go_simp
  (go_at_call 11; (with_reducible refine (fits_is HFP.out HLP.out _ _ (by decide) _ (HC1_B.out.later hHeld.2.2.2.2.2.2.2.2.2.1) (HR_B.out.later hHeld.2.2.2.2.2.2.2.2.2.1).row).mono ?_); rintro e w' ⟨rfl, hb⟩)
  refine hK.out _ _ ?_ (fun hNew => ?_)
  · exact known_step hHeld hb
  clear hHeld hK K hb
  have hHeld := hNew
  clear hNew
  (try simp only [Act.put, List.setIfInBounds_toArray, List.set_cons_zero, List.set_cons_succ])
  refine Man.take1 (i := 13) (v := ?_) rfl (by kernel_rfl) (by kernel_rfl) (by kernel_rfl) (fun _ _ _ h => h) (by rfl) ?_ (by assumption) ?_
  rotate_left
  · (intro u hSu; (try dsimp only at hSu); go_simp; (try with_reducible rfl))
  (try simp only [Act.put, List.setIfInBounds_toArray, List.set_cons_zero, List.set_cons_succ])
  refine Man.take1 (i := 14) (v := ?_) rfl (by kernel_rfl) (by kernel_rfl) (by kernel_rfl) (fun _ _ _ h => h) (by rfl) ?_ (by assumption) ?_
  rotate_left
  · (intro u hSu; (try dsimp only at hSu); go_simp; (try with_reducible rfl))
  (try simp only [Act.put, List.setIfInBounds_toArray, List.set_cons_zero, List.set_cons_succ])
  refine Man.take1 (i := 15) (v := ?_) rfl (by kernel_rfl) (by kernel_rfl) (by kernel_rfl) (fun _ _ _ h => h) (by rfl) ?_ (by assumption) ?_
  rotate_left
  · (intro u hSu; (try dsimp only at hSu); go_simp; (try with_reducible rfl))
  (try simp only [Act.put, List.setIfInBounds_toArray, List.set_cons_zero, List.set_cons_succ])
  refine Man.take1 (i := 16) (v := ?_) rfl (by kernel_rfl) (by kernel_rfl) (by kernel_rfl) (fun _ _ _ h => h) (by rfl) ?_ (by assumption) ?_
  rotate_left
  · (intro u hSu; (try dsimp only at hSu); go_simp; (try with_reducible rfl))
  (try simp only [Act.put, List.setIfInBounds_toArray, List.set_cons_zero, List.set_cons_succ])
  refine Man.take1 (i := 17) (v := ?_) rfl (by kernel_rfl) (by kernel_rfl) (by kernel_rfl) (fun _ _ _ h => h) (by rfl) ?_ (by assumption) ?_
  rotate_left
  · (intro u hSu; (try dsimp only at hSu); go_simp; (try with_reducible rfl))
  (try simp only [Act.put, List.setIfInBounds_toArray, List.set_cons_zero, List.set_cons_succ])
  refine Man.one (i := 18) rfl (by kernel_rfl) (fun K hK => ?_)
  go_simp
  (go_at_call 11; (with_reducible refine (fits_is HFM.out HLM.out _ _ (by decide) _ (HC2_B.out.later hHeld.2.2.2.2.2.2.2.2.2.1) (HR_B.out.later hHeld.2.2.2.2.2.2.2.2.2.1).row).mono ?_); rintro e w' ⟨rfl, hb⟩)
  refine hK.out _ _ ?_ (fun hNew => ?_)
  · exact known_step hHeld hb
  clear hHeld hK K hb
  have hHeld := hNew
  clear hNew
  (try simp only [Act.put, List.setIfInBounds_toArray, List.set_cons_zero, List.set_cons_succ])
  refine Man.take1 (i := 19) (v := ?_) rfl (by kernel_rfl) (by kernel_rfl) (by kernel_rfl) (fun _ _ _ h => h) (by rfl) ?_ (by assumption) ?_
  rotate_left
  · (intro u hSu; (try dsimp only at hSu); go_simp; (try with_reducible rfl))
  (try simp only [Act.put, List.setIfInBounds_toArray, List.set_cons_zero, List.set_cons_succ])
  refine Man.take1 (i := 20) (v := ?_) rfl (by kernel_rfl) (by kernel_rfl) (by kernel_rfl) (fun _ _ _ h => h) (by rfl) ?_ (by assumption) ?_
  rotate_left
  · (intro u hSu; (try dsimp only at hSu); go_simp; (try with_reducible rfl))
  (try simp only [Act.put, List.setIfInBounds_toArray, List.set_cons_zero, List.set_cons_succ])
  refine Man.take1 (i := 21) (v := ?_) rfl (by kernel_rfl) (by kernel_rfl) (by kernel_rfl) (fun _ _ _ h => h) (by rfl) ?_ (by assumption) ?_
  rotate_left
  · (intro u hSu; (try dsimp only at hSu); go_simp; (try with_reducible rfl))
  (try simp only [Act.put, List.setIfInBounds_toArray, List.set_cons_zero, List.set_cons_succ])
  refine Man.take1 (i := 22) (v := ?_) rfl (by kernel_rfl) (by kernel_rfl) (by kernel_rfl) (fun _ _ _ h => h) (by rfl) ?_ (by assumption) ?_
  rotate_left
  · (intro u hSu; (try dsimp only at hSu); go_simp; (try with_reducible rfl))
  (try simp only [Act.put, List.setIfInBounds_toArray, List.set_cons_zero, List.set_cons_succ])
  refine Man.one (i := 23) rfl (by kernel_rfl) (fun K hK => ?_)
  go_simp
  (go_at_call 11; (refine (fits_is fits_nil lim_nil (.slice none 0 0) (.slice none 0 0) (by decide) _ (ColsAt.nil _) (RowC.nil _).1).mono ?_); rintro e w' ⟨rfl, hb⟩)
  refine hK.out _ _ ?_ (fun hNew => ?_)
  · exact known_step hHeld hb
  clear hHeld hK K hb
  have hHeld := hNew
  clear hNew
  (try simp only [Act.put, List.setIfInBounds_toArray, List.set_cons_zero, List.set_cons_succ])
  refine Man.take1 (i := 24) (v := ?_) rfl (by kernel_rfl) (by kernel_rfl) (by kernel_rfl) (fun _ _ _ h => h) (by rfl) ?_ (by assumption) ?_
  rotate_left
  · (intro u hSu; (try dsimp only at hSu); go_simp; (try with_reducible rfl))
  (try simp only [Act.put, List.setIfInBounds_toArray, List.set_cons_zero, List.set_cons_succ])
  refine Man.take1 (i := 25) (v := ?_) rfl (by kernel_rfl) (by kernel_rfl) (by kernel_rfl) (fun _ _ _ h => h) (by rfl) ?_ (by assumption) ?_
  rotate_left
  · (intro u hSu; (try dsimp only at hSu); go_simp; (try with_reducible rfl))
  (try simp only [Act.put, List.setIfInBounds_toArray, List.set_cons_zero, List.set_cons_succ])
  refine Man.take1 (i := 26) (v := ?_) rfl (by kernel_rfl) (by kernel_rfl) (by kernel_rfl) (fun _ _ _ h => h) (by rfl) ?_ (by assumption) ?_
  rotate_left
  · (intro u hSu; (try dsimp only at hSu); go_simp; (try with_reducible rfl))
  (try simp only [Act.put, List.setIfInBounds_toArray, List.set_cons_zero, List.set_cons_succ])
  refine Man.take1 (i := 27) (v := ?_) rfl (by kernel_rfl) (by kernel_rfl) (by kernel_rfl) (fun _ _ _ h => h) (by rfl) ?_ (by assumption) ?_
  rotate_left
  · (intro u hSu; (try dsimp only at hSu); go_simp; (try with_reducible rfl))
  (try simp only [Act.put, List.setIfInBounds_toArray, List.set_cons_zero, List.set_cons_succ])
  refine Man.take1 (i := 28) (v := ?_) rfl (by kernel_rfl) (by kernel_rfl) (by kernel_rfl) (fun _ _ _ h => h) (by rfl) ?_ (by assumption) ?_
  rotate_left
  · (intro u hSu; (try dsimp only at hSu); go_simp; (try with_reducible rfl))
  (try simp only [Act.put, List.setIfInBounds_toArray, List.set_cons_zero, List.set_cons_succ])
  refine Man.take1 (i := 30) (v := ?_) rfl (by kernel_rfl) (by kernel_rfl) (by kernel_rfl) (fun _ _ _ h => h) (by rfl) ?_ (by assumption) ?_
  rotate_left
  · (intro u hSu; (try dsimp only at hSu); go_simp; (try with_reducible rfl))
  (try simp only [Act.put, List.setIfInBounds_toArray, List.set_cons_zero, List.set_cons_succ])
  refine Man.take1 (i := 31) (v := ?_) rfl (by kernel_rfl) (by kernel_rfl) (by kernel_rfl) (fun _ _ _ h => h) (by rfl) ?_ (by assumption) ?_
  rotate_left
  · (intro u hSu; (try dsimp only at hSu); go_simp; (try with_reducible rfl))
  (try simp only [Act.put, List.setIfInBounds_toArray, List.set_cons_zero, List.set_cons_succ])
  refine Man.one (i := 29) rfl (by kernel_rfl) (fun K hK => ?_)
  go_simp
  (go_at_call 10; (refine (key_any ⟨pn, pc, pk⟩ HLP.out (.slice so n sc) rw2 (.slice (some ⟨w4.heap.size, 0, none⟩) 2 2) (by decide) (by decide) _ (HC1_B.out.later hHeld.2.2.2.2.2.2.2.2.2.1) (HR_B.out.later hHeld.2.2.2.2.2.2.2.2.2.1)).mono ?_); rintro e w' ⟨vk, rfl, hvk, hb⟩; rw [HKP.out] at hvk; have HVK := hidm hvk; clear hvk)
  refine hK.out _ _ ?_ (fun hNew => ?_)
  · exact known_step hHeld hb
  clear hHeld hK K hb
  have hHeld := hNew
  clear hNew
  (try simp only [Act.put, List.setIfInBounds_toArray, List.set_cons_zero, List.set_cons_succ])
  refine Man.one (i := 32) rfl (by kernel_rfl) (fun K hK => ?_)
  go_simp
  (go_at_call 12; (with_reducible refine (rows_same (rw2.take 1) _ _ (by decide) _ HVK.out.row (RowC.take (vs := rw2) (HR_B.out.later hHeld.2.2.2.2.2.2.2.2.2.1) 1 (by decide)).row).mono ?_); rintro e w' ⟨rfl, hb⟩)
  refine hK.out _ _ ?_ (fun hNew => ?_)
  · exact known_step hHeld hb
  clear hHeld hK K hb
  have hHeld := hNew
  clear hNew
  (try simp only [Act.put, List.setIfInBounds_toArray, List.set_cons_zero, List.set_cons_succ])
  refine Man.take1 (i := 33) (v := ?_) rfl (by kernel_rfl) (by kernel_rfl) (by kernel_rfl) (fun _ _ _ h => h) (by rfl) ?_ (by assumption) ?_
  rotate_left
  · (intro u hSu; (try dsimp only at hSu); go_simp; (try with_reducible rfl))
  (try simp only [Act.put, List.setIfInBounds_toArray, List.set_cons_zero, List.set_cons_succ])
  refine Man.take1 (i := 34) (v := ?_) rfl (by kernel_rfl) (by kernel_rfl) (by kernel_rfl) (fun _ _ _ h => h) (by rfl) ?_ (by assumption) ?_
  rotate_left
  · (intro u hSu; (try dsimp only at hSu); go_simp; (try with_reducible rfl))
  (try simp only [Act.put, List.setIfInBounds_toArray, List.set_cons_zero, List.set_cons_succ])
  refine Man.take1 (i := 35) (v := ?_) rfl (by kernel_rfl) (by kernel_rfl) (by kernel_rfl) (fun _ _ _ h => h) (by rfl) ?_ (by assumption) ?_
  rotate_left
  · (intro u hSu; (try dsimp only at hSu); go_simp; (try with_reducible rfl))
  (try simp only [Act.put, List.setIfInBounds_toArray, List.set_cons_zero, List.set_cons_succ])
  refine Man.take1 (i := 36) (v := ?_) rfl (by kernel_rfl) (by kernel_rfl) (by kernel_rfl) (fun _ _ _ h => h) (by rfl) ?_ (by assumption) ?_
  rotate_left
  · (intro u hSu; (try dsimp only at hSu); go_simp; (try with_reducible rfl))
  (try simp only [Act.put, List.setIfInBounds_toArray, List.set_cons_zero, List.set_cons_succ])
  refine Man.take1 (i := 37) (v := ?_) rfl (by kernel_rfl) (by kernel_rfl) (by kernel_rfl) (fun _ _ _ h => h) (by rfl) ?_ (by assumption) ?_
  rotate_left
  · (intro u hSu; (try dsimp only at hSu); go_simp; (try with_reducible rfl))
  (try simp only [Act.put, List.setIfInBounds_toArray, List.set_cons_zero, List.set_cons_succ])
  refine Man.take1 (i := 38) (v := ?_) rfl (by kernel_rfl) (by kernel_rfl) (by kernel_rfl) (fun _ _ _ h => h) (by rfl) ?_ (by assumption) ?_
  rotate_left
  · (intro u hSu; (try dsimp only at hSu); go_simp; (try with_reducible rfl))
  (try simp only [Act.put, List.setIfInBounds_toArray, List.set_cons_zero, List.set_cons_succ])
  refine Man.take1 (i := 39) (v := ?_) rfl (by kernel_rfl) (by kernel_rfl) (by kernel_rfl) (fun _ _ _ h => h) (by rfl) ?_ (by assumption) ?_
  rotate_left
  · (intro u hSu; (try dsimp only at hSu); go_simp; (try with_reducible rfl))
  (try simp only [Act.put, List.setIfInBounds_toArray, List.set_cons_zero, List.set_cons_succ])
  refine Man.take1 (i := 40) (v := ?_) rfl (by kernel_rfl) (by kernel_rfl) (by kernel_rfl) (fun _ _ _ h => h) (by rfl) ?_ (by assumption) ?_
  rotate_left
  · (intro u hSu; (try dsimp only at hSu); go_simp; (try with_reducible rfl))
  (try simp only [Act.put, List.setIfInBounds_toArray, List.set_cons_zero, List.set_cons_succ])
  refine Man.take1 (i := 41) (v := ?_) rfl (by kernel_rfl) (by kernel_rfl) (by kernel_rfl) (fun _ _ _ h => h) (by rfl) ?_ (by assumption) ?_
  rotate_left
  · (intro u hSu; (try dsimp only at hSu); go_simp; (try with_reducible rfl))
  (try simp only [Act.put, List.setIfInBounds_toArray, List.set_cons_zero, List.set_cons_succ])
  refine Man.take1 (i := 42) (v := ?_) rfl (by kernel_rfl) (by kernel_rfl) (by kernel_rfl) (fun _ _ _ h => h) (by rfl) ?_ (by assumption) ?_
  rotate_left
  · (intro u hSu; (try dsimp only at hSu); go_simp; (try with_reducible rfl))
  (try simp only [Act.put, List.setIfInBounds_toArray, List.set_cons_zero, List.set_cons_succ])
  refine Man.take1 (i := 43) (v := ?_) rfl (by kernel_rfl) (by kernel_rfl) (by kernel_rfl) (fun _ _ _ h => h) (by rfl) ?_ (by assumption) ?_
  rotate_left
  · (intro u hSu; (try dsimp only at hSu); go_simp; (try with_reducible rfl))
  (try simp only [Act.put, List.setIfInBounds_toArray, List.set_cons_zero, List.set_cons_succ])
  refine Man.take1 (i := 44) (v := ?_) rfl (by kernel_rfl) (by kernel_rfl) (by kernel_rfl) (fun _ _ _ h => h) (by rfl) ?_ (by assumption) ?_
  rotate_left
  · (intro u hSu; (try dsimp only at hSu); go_simp; (try with_reducible rfl))
  (try simp only [Act.put, List.setIfInBounds_toArray, List.set_cons_zero, List.set_cons_succ])
  refine Man.take1 (i := 45) (v := ?_) rfl (by kernel_rfl) (by kernel_rfl) (by kernel_rfl) (fun _ _ _ h => h) (by rfl) ?_ (by assumption) ?_
  rotate_left
  · (intro u hSu; (try dsimp only at hSu); go_simp; (try with_reducible rfl))
  (try simp only [Act.put, List.setIfInBounds_toArray, List.set_cons_zero, List.set_cons_succ])
  refine Man.one (i := 46) rfl (by kernel_rfl) (fun K hK => ?_)
  go_simp
  (go_at_call 29; (with_reducible refine (ext_is HE1.out HLP.out HLM.out _ _ _ (HC1_B.out.later hHeld.2.2.2.2.2.2.2.2.2.1) (HC2_B.out.later hHeld.2.2.2.2.2.2.2.2.2.1)).mono ?_); rintro e w' ⟨rfl, hb⟩)
  refine hK.out _ _ ?_ (fun hNew => ?_)
  · exact known_step hHeld hb
  clear hHeld hK K hb
  have hHeld := hNew
  clear hNew
  (try simp only [Act.put, List.setIfInBounds_toArray, List.set_cons_zero, List.set_cons_succ])
  refine Man.take1 (i := 47) (v := ?_) rfl (by kernel_rfl) (by kernel_rfl) (by kernel_rfl) (fun _ _ _ h => h) (by rfl) ?_ (by assumption) ?_
  rotate_left
  · (intro u hSu; (try dsimp only at hSu); go_simp; (try with_reducible rfl))
  (try simp only [Act.put, List.setIfInBounds_toArray, List.set_cons_zero, List.set_cons_succ])
  refine Man.take1 (i := 48) (v := ?_) rfl (by kernel_rfl) (by kernel_rfl) (by kernel_rfl) (fun _ _ _ h => h) (by rfl) ?_ (by assumption) ?_
  rotate_left
  · (intro u hSu; (try dsimp only at hSu); go_simp; (try with_reducible rfl))
  (try simp only [Act.put, List.setIfInBounds_toArray, List.set_cons_zero, List.set_cons_succ])
  refine Man.take1 (i := 49) (v := ?_) rfl (by kernel_rfl) (by kernel_rfl) (by kernel_rfl) (fun _ _ _ h => h) (by rfl) ?_ (by assumption) ?_
  rotate_left
  · (intro u hSu; (try dsimp only at hSu); go_simp; (try with_reducible rfl))
  (try simp only [Act.put, List.setIfInBounds_toArray, List.set_cons_zero, List.set_cons_succ])
  refine Man.take1 (i := 50) (v := ?_) rfl (by kernel_rfl) (by kernel_rfl) (by kernel_rfl) (fun _ _ _ h => h) (by rfl) ?_ (by assumption) ?_
  rotate_left
  · (intro u hSu; (try dsimp only at hSu); go_simp; (try with_reducible rfl))
  (try simp only [Act.put, List.setIfInBounds_toArray, List.set_cons_zero, List.set_cons_succ])
  refine Man.one (i := 51) rfl (by kernel_rfl) (fun K hK => ?_)
  go_simp
  (go_at_call 29; (with_reducible refine (ext_is HE2.out HLM.out HLP.out _ _ _ (HC2_B.out.later hHeld.2.2.2.2.2.2.2.2.2.1) (HC1_B.out.later hHeld.2.2.2.2.2.2.2.2.2.1)).mono ?_); rintro e w' ⟨rfl, hb⟩)
  refine hK.out _ _ ?_ (fun hNew => ?_)
  · exact known_step hHeld hb
  clear hHeld hK K hb
  have hHeld := hNew
  clear hNew
  (try simp only [Act.put, List.setIfInBounds_toArray, List.set_cons_zero, List.set_cons_succ])
  refine Man.take1 (i := 52) (v := ?_) rfl (by kernel_rfl) (by kernel_rfl) (by kernel_rfl) (fun _ _ _ h => h) (by rfl) ?_ (by assumption) ?_
  rotate_left
  · (intro u hSu; (try dsimp only at hSu); go_simp; (try with_reducible rfl))
  (try simp only [Act.put, List.setIfInBounds_toArray, List.set_cons_zero, List.set_cons_succ])
  refine Man.take1 (i := 53) (v := ?_) rfl (by kernel_rfl) (by kernel_rfl) (by kernel_rfl) (fun _ _ _ h => h) (by rfl) ?_ (by assumption) ?_
  rotate_left
  · (intro u hSu; (try dsimp only at hSu); go_simp; (try with_reducible rfl))
  (try simp only [Act.put, List.setIfInBounds_toArray, List.set_cons_zero, List.set_cons_succ])
  refine Man.take1 (i := 54) (v := ?_) rfl (by kernel_rfl) (by kernel_rfl) (by kernel_rfl) (fun _ _ _ h => h) (by rfl) ?_ (by assumption) ?_
  rotate_left
  · (intro u hSu; (try dsimp only at hSu); go_simp; (try with_reducible rfl))
  (try simp only [Act.put, List.setIfInBounds_toArray, List.set_cons_zero, List.set_cons_succ])
  refine Man.take1 (i := 55) (v := ?_) rfl (by kernel_rfl) (by kernel_rfl) (by kernel_rfl) (fun _ _ _ h => h) (by rfl) ?_ (by assumption) ?_
  rotate_left
  · (intro u hSu; (try dsimp only at hSu); go_simp; (try with_reducible rfl))
  (try simp only [Act.put, List.setIfInBounds_toArray, List.set_cons_zero, List.set_cons_succ])
  refine Man.take1 (i := 56) (v := ?_) rfl (by kernel_rfl) (by kernel_rfl) (by kernel_rfl) (fun _ _ _ h => h) (by rfl) ?_ (by assumption) ?_
  rotate_left
  · (intro u hSu; (try dsimp only at hSu); go_simp; (try with_reducible rfl))
  (try simp only [Act.put, List.setIfInBounds_toArray, List.set_cons_zero, List.set_cons_succ])
  refine Man.one (i := 57) rfl (by kernel_rfl) (fun K hK => ?_)
  go_simp
  (go_at_call 30; (with_reducible refine (same_is (a := ⟨pn, pc, pk⟩) (b := ⟨pn, pc, pk⟩) (x := true) (by unfold sameB; simp) _ _ HLP.out.n HLP.out.n _ (HC9_B.out.later hHeld.2.2.2.2.2.2.2.2.2.1) (HC1_B.out.later hHeld.2.2.2.2.2.2.2.2.2.1)).mono ?_); rintro e w' ⟨rfl, hb⟩)
  refine hK.out _ _ ?_ (fun hNew => ?_)
  · exact known_step hHeld hb
  clear hHeld hK K hb
  have hHeld := hNew
  clear hNew
  (try simp only [Act.put, List.setIfInBounds_toArray, List.set_cons_zero, List.set_cons_succ])
  refine Man.take1 (i := 58) (v := ?_) rfl (by kernel_rfl) (by kernel_rfl) (by kernel_rfl) (fun _ _ _ h => h) (by rfl) ?_ (by assumption) ?_
  rotate_left
  · (intro u hSu; (try dsimp only at hSu); go_simp; (try with_reducible rfl))
  (try simp only [Act.put, List.setIfInBounds_toArray, List.set_cons_zero, List.set_cons_succ])
  refine Man.take1 (i := 59) (v := ?_) rfl (by kernel_rfl) (by kernel_rfl) (by kernel_rfl) (fun _ _ _ h => h) (by rfl) ?_ (by assumption) ?_
  rotate_left
  · (intro u hSu; (try dsimp only at hSu); go_simp; (try with_reducible rfl))
  (try simp only [Act.put, List.setIfInBounds_toArray, List.set_cons_zero, List.set_cons_succ])
  refine Man.take1 (i := 60) (v := ?_) rfl (by kernel_rfl) (by kernel_rfl) (by kernel_rfl) (fun _ _ _ h => h) (by rfl) ?_ (by assumption) ?_
  rotate_left
  · (intro u hSu; (try dsimp only at hSu); go_simp; (try with_reducible rfl))
  (try simp only [Act.put, List.setIfInBounds_toArray, List.set_cons_zero, List.set_cons_succ])
  refine Man.take1 (i := 61) (v := ?_) rfl (by kernel_rfl) (by kernel_rfl) (by kernel_rfl) (fun _ _ _ h => h) (by rfl) ?_ (by assumption) ?_
  rotate_left
  · (intro u hSu; (try dsimp only at hSu); go_simp; (try with_reducible rfl))
  (try simp only [Act.put, List.setIfInBounds_toArray, List.set_cons_zero, List.set_cons_succ])
  refine Man.take1 (i := 62) (v := ?_) rfl (by kernel_rfl) (by kernel_rfl) (by kernel_rfl) (fun _ _ _ h => h) (by rfl) ?_ (by assumption) ?_
  rotate_left
  · (intro u hSu; (try dsimp only at hSu); go_simp; (try with_reducible rfl))
  (try simp only [Act.put, List.setIfInBounds_toArray, List.set_cons_zero, List.set_cons_succ])
  refine Man.take1 (i := 63) (v := ?_) rfl (by kernel_rfl) (by kernel_rfl) (by kernel_rfl) (fun _ _ _ h => h) (by rfl) ?_ (by assumption) ?_
  rotate_left
  · (intro u hSu; (try dsimp only at hSu); go_simp; (try with_reducible rfl))
  (try simp only [Act.put, List.setIfInBounds_toArray, List.set_cons_zero, List.set_cons_succ])
  refine Man.take1 (i := 64) (v := ?_) rfl (by kernel_rfl) (by kernel_rfl) (by kernel_rfl) (fun _ _ _ h => h) (by rfl) ?_ (by assumption) ?_
  rotate_left
  · (intro u hSu; (try dsimp only at hSu); go_simp; (try with_reducible rfl))
  (try simp only [Act.put, List.setIfInBounds_toArray, List.set_cons_zero, List.set_cons_succ])
  refine Man.take1 (i := 65) (v := ?_) rfl (by kernel_rfl) (by kernel_rfl) (by kernel_rfl) (fun _ _ _ h => h) (by rfl) ?_ (by assumption) ?_
  rotate_left
  · (intro u hSu; (try dsimp only at hSu); go_simp; (try with_reducible rfl))
  (try simp only [Act.put, List.setIfInBounds_toArray, List.set_cons_zero, List.set_cons_succ])
  refine Man.take1 (i := 66) (v := ?_) rfl (by kernel_rfl) (by kernel_rfl) (by kernel_rfl) (fun _ _ _ h => h) (by rfl) ?_ (by assumption) ?_
  rotate_left
  · (intro u hSu; (try dsimp only at hSu); go_simp; (try with_reducible rfl))
  (try simp only [Act.put, List.setIfInBounds_toArray, List.set_cons_zero, List.set_cons_succ])
  refine Man.take1 (i := 67) (v := ?_) rfl (by kernel_rfl) (by kernel_rfl) (by kernel_rfl) (fun _ _ _ h => h) (by rfl) ?_ (by assumption) ?_
  rotate_left
  · (intro u hSu; (try dsimp only at hSu); go_simp; (try with_reducible rfl))
  (try simp only [Act.put, List.setIfInBounds_toArray, List.set_cons_zero])
  refine wpAnyH_done (by kernel_rfl) ?_ _
  obtain ⟨_, _, _, _, _, _, _, _, _, hqb, hqz⟩ := hHeld
  have HBF := hidm (HBB.out.trans (hqb.mono HBB.out.size))
  clear hqb hqz SS0
  go_wp2_with fail
  go_ret
  exact ⟨rfl, HBF.out⟩
end Sch
end Go.Proofs.Ytopmbhpjdmcabaa
