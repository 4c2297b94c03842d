/- FrameReads is proved: for every two texts the law returns true and its arguments read as they did. No other condition. -/
import Derived.Test.YtopmbhpjdmcabaaGreatGm
import Derived.Test.YtopmbhpjdmcabaaGreatHd
import Derived.Test.YtopmbhpjdmcabaaGreatHf
import Derived.Test.YtopmbhpjdmcabaaGreatFra
import Derived.WideKeyPair
import Derived.SizedLaws
namespace Go.Proofs.YtopmbhpjdmcabaaGreat
open Go.ChangeShapes Go.WideShapes Go.ChangeAt Go.RowKit
open Go.ChangeMaps (open_string shut_string)
namespace LaFrameReads
open Cod Sch Frm
set_option maxHeartbeats 8000000 in
set_option maxRecDepth 100000 in
theorem skip_l (l b : List UInt8) (hl : 3000 < l.length) (w : World) :
    Calls Tryz.prog 4 #[.string (S l), .string (S b)] w fun e w' => e = .returned (.bool true) ∧ Below w.heap.size w w' := by
  have t1 : l.toArray.size = l.length := by simp
  have t2 : b.toArray.size = b.length := by simp
  have f1 : (3000 : Int) < (l.length : Int) := by omega
  go_enter Tryz.func4, Tryz.ntmps4
  go_wp2_with fail
  refine (known_any _).mono ?_
  rintro e w1 ⟨rfl, hb⟩
  have HB := hidm hb
  clear hb
  go_wp2_with fail
  go_ret
  exact ⟨rfl, HB.out⟩
set_option maxHeartbeats 8000000 in
set_option maxRecDepth 100000 in
theorem skip_b (l b : List UInt8) (hl : l.length ≤ 3000) (hbl : 2000 < b.length) (w : World) :
    Calls Tryz.prog 4 #[.string (S l), .string (S b)] w fun e w' => e = .returned (.bool true) ∧ Below w.heap.size w w' := by
  have t1 : l.toArray.size = l.length := by simp
  have t2 : b.toArray.size = b.length := by simp
  have f1 : ¬ (3000 : Int) < (l.length : Int) := by omega
  have f2 : (2000 : Int) < (b.length : Int) := by omega
  go_enter Tryz.func4, Tryz.ntmps4
  go_wp2_with fail
  refine (known_any _).mono ?_
  rintro e w1 ⟨rfl, hb⟩
  have HB := hidm hb
  clear hb
  go_wp2_with fail
  go_ret
  exact ⟨rfl, HB.out⟩
set_option maxHeartbeats 8000000 in
set_option maxRecDepth 100000 in
theorem main_any (l b : List UInt8) (hl : l.length ≤ 3000) (hbl : b.length ≤ 2000) (w : World) :
    Calls Tryz.prog 4 #[.string (S l), .string (S b)] w fun e w' => e = .returned (.bool true) ∧ Below w.heap.size w w' := by
  have t1 : l.toArray.size = l.length := by simp
  have t2 : b.toArray.size = b.length := by simp
  have f1 : ¬ (3000 : Int) < (l.length : Int) := by omega
  have f2 : ¬ (2000 : Int) < (b.length : Int) := by omega
  have HS0 := hidm (Below.refl w.heap.size w)
  have HBL := hidm hbl
  obtain ⟨a, n, x, hN⟩ : ∃ a n e, nextB l = (a, n, e) := ⟨_, _, _, rfl⟩
  obtain ⟨bs, y, z, hP⟩ : ∃ a n e, splitB l = (a, n, e) := ⟨_, _, _, rfl⟩
  have HP := hidm hP
  have hlist : (S l).data.toList = l := S_list l
  have N1 := fun w => next_any (S l) (by rw [S_size]; omega) w
  have N2 := fun w => rnext_any (S l) (by rw [S_size]; omega) w
  have P1 := fun w => split_any (S l) (by rw [S_size]; omega) w
  have P2 := fun w => rsplit_any (S l) (by rw [S_size]; omega) w
  rw [hlist] at N1 N2 P1 P2
  rw [hN] at N1 N2
  have M1 := hidm N1
  have M2 := hidm N2
  have Q1 := hidm P1
  have Q2 := hidm P2
  have D1 := hidm (fun w => tdec_any b (by omega) w)
  have D2 := hidm (fun w => rtdec_any b (by omega) w)
  clear N1 N2 P1 P2 hN hP hlist hl hbl
  go_enter Tryz.func4, Tryz.ntmps4
  go_wp2_with fail
  refine (M1.out _).mono ?_
  rintro e w1 ⟨rfl, hb⟩
  have HS1 := hidm (HS0.out.trans (hb.mono HS0.out.size))
  clear hb
  go_wp2_with fail
  refine (M2.out _).mono ?_
  rintro e w2 ⟨rfl, hb⟩
  have HS2 := hidm (HS1.out.trans (hb.mono HS1.out.size))
  clear hb
  go_wp2_with fail
  refine (Q1.out _).mono ?_
  rintro e w3 ⟨po, pc, he, hst, hb⟩
  rw [HP.out] at he hst
  subst he
  have HT3 := hidm hst
  have HS3 := hidm (HS2.out.trans (hb.mono HS2.out.size))
  clear hst hb
  go_wp2_with fail
  refine (Q2.out _).mono ?_
  rintro e w4 ⟨qo, qc, he, hst, hb⟩
  rw [HP.out] at he hst
  subst he
  have HT4 := hidm hst
  have HS4 := hidm (HS3.out.trans (hb.mono HS3.out.size))
  have HT5 := hidm (HT3.out.later hb)
  clear hst hb HT3
  go_wp2_with fail
  refine (D1.out _).mono ?_
  rintro e w5 ⟨u, e5, he, hui, hb, hun, husm, hor⟩
  unfold X.agg at he
  subst he
  have hbA : Below w5.heap.size w5 (w5.alloc (.cells #[.int .i64 u.seq, .int .i64 u.tm, .slice u.co u.l.length u.cc] 24)) := (Below.refl _ _).alloc (Nat.le_refl _) _
  have hb2 : Below w4.heap.size w4 (w5.alloc (.cells #[.int .i64 u.seq, .int .i64 u.tm, .slice u.co u.l.length u.cc] 24)) := hb.trans (hbA.mono hb.size)
  have HS5 := hidm (HS4.out.trans (hb2.mono HS4.out.size))
  have HT6 := hidm (HT4.out.later hb2)
  have HT7 := hidm (HT5.out.later hb2)
  have HUI := hidm (hui.later hbA)
  have HUB := hidm (BoxX.start u w5)
  have HUS := hidm husm
  have HOR := hidm hor
  clear hui hb hbA hb2 hun husm hor HT4 HT5
  go_wp2_with fail
  refine (D2.out _).mono ?_
  rintro e w6 ⟨v, e6, he, hvi, hb, hvsm, hor2⟩
  unfold X.agg at he
  subst he
  have heq : u.tx = v.tx ∧ e5 = e6 := by
    rcases HOR.out with ⟨a1, a2, a3, a4, a5⟩ | ⟨a1, a2, a3⟩
    · rcases hor2 with ⟨b1, b2, b3, b4⟩ | ⟨b1, b2, b3⟩
      · exact ⟨a5 v.tx b2 b3 b4, by omega⟩
      · exact (b3 u.tx a2 a3 a4).elim
    · rcases hor2 with ⟨b1, b2, b3, b4⟩ | ⟨b1, b2, b3⟩
      · exact (a3 v.tx b2 b3 b4).elim
      · exact ⟨by rw [a2, b2], by omega⟩
  obtain ⟨htx, rfl⟩ := heq
  have HTX := hidm (show decide (u.tx = v.tx) = true from decide_eq_true htx)
  have hbA : Below w6.heap.size w6 (w6.alloc (.cells #[.int .i64 v.seq, .int .i64 v.tm, .slice v.co v.l.length v.cc] 24)) := (Below.refl _ _).alloc (Nat.le_refl _) _
  have hb2 : Below (w5.alloc (.cells #[.int .i64 u.seq, .int .i64 u.tm, .slice u.co u.l.length u.cc] 24)).heap.size (w5.alloc (.cells #[.int .i64 u.seq, .int .i64 u.tm, .slice u.co u.l.length u.cc] 24)) (w6.alloc (.cells #[.int .i64 v.seq, .int .i64 v.tm, .slice v.co v.l.length v.cc] 24)) := hb.trans (hbA.mono hb.size)
  have HS6 := hidm (HS5.out.trans (hb2.mono HS5.out.size))
  have HT8 := hidm (HT6.out.later hb2)
  have HT9 := hidm (HT7.out.later hb2)
  have HUI2 := hidm (HUI.out.later hb2)
  have HUB2 := hidm (HUB.out.then hb2)
  have HVI := hidm (hvi.later hbA)
  have HVB := hidm (BoxX.start v w6)
  have HVS := hidm hvsm
  clear hvi hb hbA hb2 hvsm hor2 htx HT6 HT7 HUI HUB HOR
  have z1 : (a == a) = true := by simp
  have z2 : ((n : Int) == (n : Int)) = true := by simp
  have z3 : (x == x) = true := by simp
  have z4 : ((y : Int) == (y : Int)) = true := by simp
  have z5 : (z == z) = true := by simp
  have z6 : (e5 == e5) = true := by simp
  go_wp2_with fail
  refine (rtexts_same bs _ _ _ HT9.out HT8.out).mono ?_
  rintro e w7 ⟨rfl, hb⟩
  have HS7 := hidm (HS6.out.trans (hb.mono HS6.out.size))
  have HUB3 := hidm (HUB2.out.then hb)
  have HVB3 := hidm (HVB.out.then hb)
  have HUI3 := hidm (HUI2.out.later hb)
  have HVI3 := hidm (HVI.out.later hb)
  clear hb HUB2 HVB HUI2 HVI
  have c0 := HUB3.out.c0
  have c1 := HUB3.out.c1
  have c2 := HUB3.out.c2
  have d0 := HVB3.out.c0
  have d1 := HVB3.out.c1
  have d2 := HVB3.out.c2
  go_wp2_with fail
  refine (rtsame_any u v (fun c hc => (HUS.out c hc).lim (by have := HBL.out; omega)) (fun c hc => (HVS.out c hc).lim (by have := HBL.out; omega)) _ HUI3.out HVI3.out).mono ?_
  rintro e w8 ⟨rfl, hb⟩
  have HS8 := hidm (HS7.out.trans (hb.mono HS7.out.size))
  rw [HTX.out]
  clear hb c0 c1 c2 d0 d1 d2
  go_wp2_with fail
  refine (known_any _).mono ?_
  rintro e w9 ⟨rfl, hb⟩
  have HS9 := hidm (HS8.out.trans (hb.mono HS8.out.size))
  clear hb
  go_wp2_with fail
  go_ret
  exact ⟨rfl, HS9.out⟩
theorem law_any (s t : ByteArray) (w : World) :
    Calls Tryz.prog 4 #[.string s, .string t] w fun e w' => e = .returned (.bool true) ∧ Below w.heap.size w w' := by
  obtain ⟨l, hl⟩ : ∃ l, l = s.data.toList := ⟨_, rfl⟩
  have hs : s = S l := by rw [hl, S_of]
  subst hs
  obtain ⟨b, hb⟩ : ∃ l, l = t.data.toList := ⟨_, rfl⟩
  have ht : t = S b := by rw [hb, S_of]
  subst ht
  rcases Nat.lt_or_ge 3000 l.length with h1 | h1
  · exact skip_l l b h1 w
  · rcases Nat.lt_or_ge 2000 b.length with h2 | h2
    · exact skip_b l b h1 h2 w
    · exact main_any l b h1 h2 w
theorem laidOut : laidOutB Tryz.prog = true := by kernel_rfl
set_option maxRecDepth 100000 in
theorem contract (H : Type) (enc : TypeId × Value → H) (W : World) (base : Nat) (args : Array Value) (ds gs : List (DataW H)) (before : List MemPlace)
    (hval : ∀ (j : Nat) t v, Tryz.f4.params[j]? = some t → args[j]? = some v → Value.okWide Tryz.prog W .any base t v)
    (hW : DataW.Whole enc Tryz.prog Tryz.f4.params.toList Rows.frameReadsSpec.vars false W args.toList ds gs before)
    (hsz0 : (DataW.weightsEach Tryz.prog (Tryz.f4.params.toList ++ Rows.frameReadsSpec.plain.varTypes Tryz.prog) (ds ++ gs)).all (· ≤ reachBytes) = true) :
    Calls Tryz.prog 4 args W fun e W' => ∃ v, e = .returned v ∧ Rows.frameReadsSpec.post enc Tryz.prog Tryz.f4 false true false false W args v W' := by
  have hW' := hW
  obtain ⟨p, q, hA0, hV, rfl, hfz, hnd⟩ := hW
  have hA : DataW.TrodAll enc Tryz.prog W 0 (fun _ => true) true Tryz.f4.params.toList args.toList ds p := hA0
  rw [Tryz.params4] at hA hval hsz0
  obtain ⟨v0, vs0, d0, ds0, p0, q0, hargs, rfl, rfl, h0, r0⟩ := trodAll_cons hA
  obtain ⟨v1, vs1, d1, ds1, p1, q1, rfl, rfl, rfl, h1, r1⟩ := trodAll_cons r0
  obtain ⟨rfl, rfl, rfl⟩ := trodAll_nil r1
  obtain rfl : args = #[v0, v1] := by cases args; simp_all
  obtain ⟨rfl, rfl⟩ := trodVars_none hV
  have hsz := fun n hn => of_decide_eq_true (List.all_eq_true.1 hsz0 n hn)
  obtain ⟨s, rfl, hd0, hp0, ws⟩ := open_string Tryz.underlying9 (hval 0 9 v0 rfl rfl) h0
  obtain ⟨t, rfl, hd1, hp1, wt⟩ := open_string Tryz.underlying9 (hval 1 9 v1 rfl rfl) h1
  clear hA0 hsz0
  simp only [List.append_nil] at hW'
  have hlt : ∀ x ∈ p0 ++ p1, x.block < W.heap.size := fun x hx => hW'.lt x (by simpa using hx)
  have walk := law_any s t W
  refine walk.mono fun e W' ⟨he, hg⟩ => ?_
  subst he
  refine ⟨_, rfl, Fr.post_made (pa := p0 ++ p1) (pv := []) hW' (fun _ _ _ => trodAll_cons_mk (shut_bool Tryz.underlying4 _) trodAll_mk0) (fun sp hsp => ?_) (fun _ _ => rfl) (by simp) hg (ok_one (by kernel_rfl) rfl (okWide_bool_mk Tryz.underlying4 _))⟩
  have g0 : DataW.Trod enc Tryz.prog W' 0 sp true 9 _ d0 p0 := WideElems.Trod_stays laidOut (by kernel_rfl) (of_decide_eq_true (by kernel_rfl)) h0 (fun x hx => hg.same (hlt x (by simp [hx]))) (fun x hx => hsp x (by simp [hx]))
  have g1 : DataW.Trod enc Tryz.prog W' 0 sp true 9 _ d1 p1 := WideElems.Trod_stays laidOut (by kernel_rfl) (of_decide_eq_true (by kernel_rfl)) h1 (fun x hx => hg.same (hlt x (by simp [hx]))) (fun x hx => hsp x (by simp [hx]))
  have hT := (trodAll_cons_mk g0 (trodAll_cons_mk g1 trodAll_mk0))
  simp only [List.append_nil] at hT
  exact hT
set_option maxRecDepth 100000 in
theorem lifted (os : Os) (started : os.Started) (H : Type) (enc : TypeId × Value → H) :
    ReturnsInHanded {} Tryz.checked os 4 .any (Rows.frameReadsSpec.pre6 enc Tryz.prog Tryz.f4 Rows.frameReadsRow.domain false) (Rows.frameReadsSpec.post enc Tryz.prog Tryz.f4 false true false false) := by
  refine returnsInHanded_of_change_sized (C := Tryz.checked) Fr.own started (by kernel_rfl) Tryz.func4
    (ChangeSpec.witness6 (enc := enc) (C := Tryz.checked) false ⟨#[], #[.string ⟨#[]⟩, .string ⟨#[]⟩], []⟩ 8 (by kernel_rfl) (by kernel_rfl) (by kernel_rfl) (by kernel_rfl)) ?_
  intro W base args ds gs before hval hW _ hsz _
  exact contract H enc W base args ds gs before hval hW hsz
theorem said : Rows.FrameReadsSaid :=
  OpenClaim.holds_of_wide 4 Tryz.f4 rfl rfl rfl rfl rfl rfl rfl ⟨rfl, rfl, rfl, rfl, rfl⟩ rfl rfl rfl rfl rfl (by kernel_rfl) Tryz.func4 (by kernel_rfl)
    (of_decide_eq_true (by kernel_rfl)) (by unfold Func.isWrapper; first | (rw [if_pos (by decide +kernel)]; kernel_rfl) | (rw [if_neg (by decide +kernel)]; exact ⟨rfl, rfl⟩))
    (fun os started H enc _ => lifted os started H enc)
end LaFrameReads
end Go.Proofs.YtopmbhpjdmcabaaGreat
