/- SchemaBack is proved: for every schema and every text the law returns true and its arguments read as they did. No other condition. -/
import Derived.Test.YtkgiomdjihcfoaaJx
import Derived.Test.YtkgiomdjihcfoaaJy
import Derived.Test.YtkgiomdjihcfoaaJz
import Derived.Test.YtkgiomdjihcfoaaKa
import Derived.WideKeyPair
namespace Go.Proofs.Ytkgiomdjihcfoaa
open Go.ChangeShapes Go.WideShapes Go.ChangeAt Go.RowKit
open Go.ChangeMaps (open_string shut_string)
namespace LaSchemaBack
open Cod Sch
theorem rsame_is {a b : T} {x : Bool} (hx : sameB a b = x) (sa sb : Value) (ha : a.cols.length ≤ 1000000) (hb : b.cols.length ≤ 1000000) (w : World) (h1 : ColsAt a.cols sa w) (h2 : ColsAt b.cols sb w) :
    Calls Try.prog 18 #[.agg #[.string (S a.nm), sa, .int .i64 a.keys], .agg #[.string (S b.nm), sb, .int .i64 b.keys]] w fun e w' => e = .returned (.bool x) ∧ Below w.heap.size w w' := hx ▸ rsame_any a b sa sb ha hb w h1 h2
set_option maxHeartbeats 2000000 in
set_option maxRecDepth 100000 in
theorem skip_light (a : T) (hin : a.inn) (sl : Value) (l : List UInt8) (hlt : lightB a [] = false) (w : World) (h : ColsAt a.cols sl w) : Calls Try.prog 6 #[.agg #[.string (S a.nm), sl, .int .i64 a.keys], .string (S l)] w fun e w' => e = .returned (.bool true) ∧ Below w.heap.size w w' := by
  have hb0 : Below w.heap.size w (w.alloc (.cells #[.string (S a.nm), sl, .int .i64 a.keys] 24)) := (Below.refl _ _).alloc (Nat.le_refl _) _
  have L := light_any a sl [] (.slice none 0 0) hin.n (by simp) _ (h.later hb0) ⟨none, 0, rfl, fun hne => absurd rfl hne⟩
  rw [hlt] at L
  have HB0 := hidm hb0
  obtain ⟨ao, ac, rfl, _, _⟩ := h.form
  clear h hb0 hlt hin
  go_enter Try.func6, Try.ntmps6
  go_wp2_with fail
  refine L.mono ?_
  rintro e w1 ⟨rfl, hb⟩
  have HB1 := hidm (HB0.out.trans (hb.mono HB0.out.size))
  clear hb L
  go_wp2_with fail
  refine (known_any _).mono ?_
  rintro e w2 ⟨rfl, hb⟩
  have HB2 := hidm (HB1.out.trans (hb.mono HB1.out.size))
  clear hb
  go_wp2_with fail
  go_ret
  exact ⟨rfl, HB2.out⟩
set_option maxHeartbeats 2000000 in
set_option maxRecDepth 100000 in
theorem skip_long (a : T) (hin : a.inn) (sl : Value) (l : List UInt8) (hlt : lightB a [] = true) (hl : 1000 < l.length) (w : World) (h : ColsAt a.cols sl w) : Calls Try.prog 6 #[.agg #[.string (S a.nm), sl, .int .i64 a.keys], .string (S l)] w fun e w' => e = .returned (.bool true) ∧ Below w.heap.size w w' := by
  have hb0 : Below w.heap.size w (w.alloc (.cells #[.string (S a.nm), sl, .int .i64 a.keys] 24)) := (Below.refl _ _).alloc (Nat.le_refl _) _
  have L := light_any a sl [] (.slice none 0 0) hin.n (by simp) _ (h.later hb0) ⟨none, 0, rfl, fun hne => absurd rfl hne⟩
  rw [hlt] at L
  have HB0 := hidm hb0
  obtain ⟨ao, ac, rfl, _, _⟩ := h.form
  have f1 : (1000 : Int) < (l.length : Int) := by omega
  have f2 : l.toArray.size = l.length := by simp
  clear h hb0 hlt hin
  go_enter Try.func6, Try.ntmps6
  go_wp2_with fail
  refine L.mono ?_
  rintro e w1 ⟨rfl, hb⟩
  have HB1 := hidm (HB0.out.trans (hb.mono HB0.out.size))
  clear hb L
  go_wp2_with fail
  refine (known_any _).mono ?_
  rintro e w2 ⟨rfl, hb⟩
  have HB2 := hidm (HB1.out.trans (hb.mono HB1.out.size))
  clear hb
  go_wp2_with fail
  go_ret
  exact ⟨rfl, HB2.out⟩
theorem lim_of {a : T} (h : lightB a [] = true) : Lim a := by
  obtain ⟨h1, h2, _, h4, _⟩ := light_parts h
  exact ⟨by omega, fun c hc => by have := h4 c hc; omega, by omega⟩
theorem enc_len (a : T) : (encB a).length ≤ 100000 := by
  unfold encB
  split
  · rename_i h
    have := preB_len h a.cols.length
    rw [preB_end] at this; omega
  · simp
set_option maxHeartbeats 8000000 in
set_option maxRecDepth 100000 in
theorem main_any (a : T) (sl : Value) (l : List UInt8) (hlt : lightB a [] = true) (hl : l.length ≤ 1000) (hin : a.inn) (w : World) (h : ColsAt a.cols sl w) : Calls Try.prog 6 #[.agg #[.string (S a.nm), sl, .int .i64 a.keys], .string (S l)] w fun e w' => e = .returned (.bool true) ∧ Below w.heap.size w w' := by
  have hb0 : Below w.heap.size w (w.alloc (.cells #[.string (S a.nm), sl, .int .i64 a.keys] 24)) := (Below.refl _ _).alloc (Nat.le_refl _) _
  have L := light_any a sl [] (.slice none 0 0) hin.n (by simp) _ (h.later hb0) ⟨none, 0, rfl, fun hne => absurd rfl hne⟩
  rw [hlt] at L
  have HLM := hidm (lim_of hlt)
  obtain ⟨ao, ac, rfl, _, _⟩ := h.form
  have HK_0 := hidm (heap_alloc_new w (.cells #[.string (S a.nm), .slice ao a.cols.length ac, .int .i64 a.keys] 24))
  have HC_0 := hidm (h.later hb0)
  have HB_0 := hidm hb0
  have f1 : ¬ (1000 : Int) < (l.length : Int) := by omega
  have f2 : l.toArray.size = l.length := by simp
  have HL := hidm hl
  clear h hb0 hlt hin hl
  go_enter Try.func6, Try.ntmps6
  go_wp2_with fail
  refine L.mono ?_
  rintro e w1 ⟨rfl, hb⟩
  have HK_1 := hidm (below_keeps hb HK_0.out)
  have HC_1 := hidm (HC_0.out.later hb)
  have HB_1 := hidm (HB_0.out.trans (hb.mono HB_0.out.size))
  obtain ⟨e0, e1, e2⟩ := three HK_1.out
  clear hb L
  go_wp2_with fail
  refine (encode_is (s := a) (l := encB a) rfl HLM.out _ _ HC_1.out).mono ?_
  rintro e w2 ⟨rfl, hb⟩
  have HK_2 := hidm (below_keeps hb HK_1.out)
  have HC_2 := hidm (HC_1.out.later hb)
  have HB_2 := hidm (HB_1.out.trans (hb.mono HB_1.out.size))
  clear hb e0 e1 e2
  go_wp2_with fail
  refine (decode_any (encB a) (enc_len a) w2).mono ?_
  rintro e w3 ⟨t, sl3, x3, rfl, hc3, hb, hn3, hm3, hcn3, hor3⟩
  have HK_3 := hidm (below_keeps hb HK_2.out)
  have HC_3 := hidm (HC_2.out.later hb)
  have HB_3 := hidm (HB_2.out.trans (hb.mono HB_2.out.size))
  have HC3_3 := hidm hc3
  have HL3 := hidm (show t.cols.length ≤ 1000000 from by omega)
  have HOR3 := hidm hor3
  obtain ⟨so3, sc3, hs3, _, _⟩ := hc3.form
  subst hs3
  clear hb hc3 hn3 hm3 hcn3 hor3
  have hb : Below w3.heap.size w3 (w3.alloc (.cells #[.string (S t.nm), .slice so3 t.cols.length sc3, .int .i64 t.keys] 24)) := (Below.refl _ _).alloc (Nat.le_refl _) _
  have HK3_4 := hidm (heap_alloc_new w3 (.cells #[.string (S t.nm), .slice so3 t.cols.length sc3, .int .i64 t.keys] 24))
  have HK_4 := hidm (below_keeps hb HK_3.out)
  have HC_4 := hidm (HC_3.out.later hb)
  have HB_4 := hidm (HB_3.out.trans (hb.mono HB_3.out.size))
  have HC3_4 := hidm (HC3_3.out.later hb)
  clear hb
  go_wp2_with fail
  refine (decode_any l (by have := HL.out; omega) _).mono ?_
  rintro e w5 ⟨u, sl5, x5, rfl, hc5, hb, hn5, hm5, hcn5, hor5⟩
  have HK_5 := hidm (below_keeps hb HK_4.out)
  have HC_5 := hidm (HC_4.out.later hb)
  have HB_5 := hidm (HB_4.out.trans (hb.mono HB_4.out.size))
  have HC3_5 := hidm (HC3_4.out.later hb)
  have HK3_5 := hidm (below_keeps hb HK3_4.out)
  have HC5_5 := hidm hc5
  have HLU := hidm (show Lim u from ⟨by have := HL.out; omega, fun c hc => by have := hcn5 c hc; have := HL.out; omega, by omega⟩)
  have HOR5 := hidm hor5
  obtain ⟨so5, sc5, hs5, _, _⟩ := hc5.form
  subst hs5
  clear hb hc5 hn5 hm5 hcn5 hor5
  have hb : Below w5.heap.size w5 (w5.alloc (.cells #[.string (S u.nm), .slice so5 u.cols.length sc5, .int .i64 u.keys] 24)) := (Below.refl _ _).alloc (Nat.le_refl _) _
  have HK5_6 := hidm (heap_alloc_new w5 (.cells #[.string (S u.nm), .slice so5 u.cols.length sc5, .int .i64 u.keys] 24))
  have HK_6 := hidm (below_keeps hb HK_5.out)
  have HC_6 := hidm (HC_5.out.later hb)
  have HB_6 := hidm (HB_5.out.trans (hb.mono HB_5.out.size))
  have HC3_6 := hidm (HC3_5.out.later hb)
  have HK3_6 := hidm (below_keeps hb HK3_5.out)
  have HC5_6 := hidm (HC5_5.out.later hb)
  obtain ⟨e0, e1, e2⟩ := three HK_6.out
  clear hb
  rcases hr : rightB a with _ | _
  · have hx : x3 = 7 := by
      rcases HOR3.out with ⟨_, h2, h3, _⟩ | ⟨h1, _, _⟩
      · unfold encB at h3; rw [hr] at h3; exact absurd h3 (body_ne t)
      · exact h1
    subst hx
    have HRR := hidm hr
    clear hr
    rcases HOR5.out with ⟨hx5, hu1, hu2, _⟩ | ⟨hx5, hu1, hu2⟩
    · subst hx5
      have HU := hidm (show encB u = l from by unfold encB; rw [if_pos hu1, hu2])
      clear hu1 hu2
      go_wp2_with fail
      refine (right_is HRR.out HLM.out _ _ HC_6.out).mono ?_
      rintro e w7 ⟨rfl, hb⟩
      have HK_7 := hidm (below_keeps hb HK_6.out)
      have HC_7 := hidm (HC_6.out.later hb)
      have HB_7 := hidm (HB_6.out.trans (hb.mono HB_6.out.size))
      have HC3_7 := hidm (HC3_6.out.later hb)
      have HK3_7 := hidm (below_keeps hb HK3_6.out)
      have HC5_7 := hidm (HC5_6.out.later hb)
      have HK5_7 := hidm (below_keeps hb HK5_6.out)
      obtain ⟨d0, d1, d2⟩ := three HK5_7.out
      clear hb
      go_wp2_with fail
      refine (encode_is HU.out HLU.out _ _ HC5_7.out).mono ?_
      rintro e w9 ⟨rfl, hb⟩
      have HB_9 := hidm (HB_7.out.trans (hb.mono HB_7.out.size))
      clear hb
      have f9 : (l == l) = true := by simp
      go_wp2_with fail
      refine (known_any _).mono ?_
      rintro e wz ⟨rfl, hb⟩
      have HB_Z := hidm (HB_9.out.trans (hb.mono HB_9.out.size))
      clear hb
      go_wp2_with fail
      go_ret
      exact ⟨rfl, HB_Z.out⟩
    · subst hx5
      clear hu1 hu2
      go_wp2_with fail
      refine (right_is HRR.out HLM.out _ _ HC_6.out).mono ?_
      rintro e w7 ⟨rfl, hb⟩
      have HK_7 := hidm (below_keeps hb HK_6.out)
      have HC_7 := hidm (HC_6.out.later hb)
      have HB_7 := hidm (HB_6.out.trans (hb.mono HB_6.out.size))
      have HC3_7 := hidm (HC3_6.out.later hb)
      have HK3_7 := hidm (below_keeps hb HK3_6.out)
      have HC5_7 := hidm (HC5_6.out.later hb)
      have HK5_7 := hidm (below_keeps hb HK5_6.out)
      obtain ⟨d0, d1, d2⟩ := three HK5_7.out
      clear hb
      go_wp2_with fail
      refine (known_any _).mono ?_
      rintro e wz ⟨rfl, hb⟩
      have HB_Z := hidm (HB_7.out.trans (hb.mono HB_7.out.size))
      clear hb
      go_wp2_with fail
      go_ret
      exact ⟨rfl, HB_Z.out⟩
  · have hx : x3 = 0 ∧ t = a := by
      have he : encB a = bodyB a := by unfold encB; rw [if_pos hr]
      rcases HOR3.out with ⟨h1, _, _, h4⟩ | ⟨_, _, h3⟩
      · exact ⟨h1, h4 a hr he.symm⟩
      · exact (h3 a hr he.symm).elim
    obtain ⟨rfl, rfl⟩ := hx
    have HRR := hidm hr
    clear hr
    rcases HOR5.out with ⟨hx5, hu1, hu2, _⟩ | ⟨hx5, hu1, hu2⟩
    · subst hx5
      have HU := hidm (show encB u = l from by unfold encB; rw [if_pos hu1, hu2])
      clear hu1 hu2
      go_wp2_with fail
      refine (right_is HRR.out HLM.out _ _ HC_6.out).mono ?_
      rintro e w7 ⟨rfl, hb⟩
      have HK_7 := hidm (below_keeps hb HK_6.out)
      have HC_7 := hidm (HC_6.out.later hb)
      have HB_7 := hidm (HB_6.out.trans (hb.mono HB_6.out.size))
      have HC3_7 := hidm (HC3_6.out.later hb)
      have HK3_7 := hidm (below_keeps hb HK3_6.out)
      have HC5_7 := hidm (HC5_6.out.later hb)
      have HK5_7 := hidm (below_keeps hb HK5_6.out)
      obtain ⟨b0, b1, b2⟩ := three HK_7.out
      obtain ⟨c0, c1, c2⟩ := three HK3_7.out
      clear hb
      go_wp2_with fail
      refine (rsame_is (a := t) (b := t) (x := true) (by unfold sameB; simp) _ _ HL3.out HL3.out _ HC_7.out HC3_7.out).mono ?_
      rintro e w8 ⟨rfl, hb⟩
      have HK_8 := hidm (below_keeps hb HK_7.out)
      have HC_8 := hidm (HC_7.out.later hb)
      have HB_8 := hidm (HB_7.out.trans (hb.mono HB_7.out.size))
      have HC3_8 := hidm (HC3_7.out.later hb)
      have HK3_8 := hidm (below_keeps hb HK3_7.out)
      have HC5_8 := hidm (HC5_7.out.later hb)
      have HK5_8 := hidm (below_keeps hb HK5_7.out)
      obtain ⟨d0, d1, d2⟩ := three HK5_8.out
      clear hb b0 b1 b2 c0 c1 c2
      go_wp2_with fail
      refine (encode_is HU.out HLU.out _ _ HC5_8.out).mono ?_
      rintro e w9 ⟨rfl, hb⟩
      have HB_9 := hidm (HB_8.out.trans (hb.mono HB_8.out.size))
      clear hb
      have f9 : (l == l) = true := by simp
      go_wp2_with fail
      refine (known_any _).mono ?_
      rintro e wz ⟨rfl, hb⟩
      have HB_Z := hidm (HB_9.out.trans (hb.mono HB_9.out.size))
      clear hb
      go_wp2_with fail
      go_ret
      exact ⟨rfl, HB_Z.out⟩
    · subst hx5
      clear hu1 hu2
      go_wp2_with fail
      refine (right_is HRR.out HLM.out _ _ HC_6.out).mono ?_
      rintro e w7 ⟨rfl, hb⟩
      have HK_7 := hidm (below_keeps hb HK_6.out)
      have HC_7 := hidm (HC_6.out.later hb)
      have HB_7 := hidm (HB_6.out.trans (hb.mono HB_6.out.size))
      have HC3_7 := hidm (HC3_6.out.later hb)
      have HK3_7 := hidm (below_keeps hb HK3_6.out)
      have HC5_7 := hidm (HC5_6.out.later hb)
      have HK5_7 := hidm (below_keeps hb HK5_6.out)
      obtain ⟨b0, b1, b2⟩ := three HK_7.out
      obtain ⟨c0, c1, c2⟩ := three HK3_7.out
      clear hb
      go_wp2_with fail
      refine (rsame_is (a := t) (b := t) (x := true) (by unfold sameB; simp) _ _ HL3.out HL3.out _ HC_7.out HC3_7.out).mono ?_
      rintro e w8 ⟨rfl, hb⟩
      have HK_8 := hidm (below_keeps hb HK_7.out)
      have HC_8 := hidm (HC_7.out.later hb)
      have HB_8 := hidm (HB_7.out.trans (hb.mono HB_7.out.size))
      have HC3_8 := hidm (HC3_7.out.later hb)
      have HK3_8 := hidm (below_keeps hb HK3_7.out)
      have HC5_8 := hidm (HC5_7.out.later hb)
      have HK5_8 := hidm (below_keeps hb HK5_7.out)
      obtain ⟨d0, d1, d2⟩ := three HK5_8.out
      clear hb b0 b1 b2 c0 c1 c2
      go_wp2_with fail
      refine (known_any _).mono ?_
      rintro e wz ⟨rfl, hb⟩
      have HB_Z := hidm (HB_8.out.trans (hb.mono HB_8.out.size))
      clear hb
      go_wp2_with fail
      go_ret
      exact ⟨rfl, HB_Z.out⟩
theorem law_any (a : T) (sl : Value) (s : ByteArray) (hin : a.inn) (w : World) (h : ColsAt a.cols sl w) : Calls Try.prog 6 #[.agg #[.string (S a.nm), sl, .int .i64 a.keys], .string s] w fun e w' => e = .returned (.bool true) ∧ Below w.heap.size w w' := by
  obtain ⟨l, hl⟩ : ∃ l, l = s.data.toList := ⟨_, rfl⟩
  have hs : s = S l := by rw [hl, S_of]
  subst hs
  rcases hlt : lightB a [] with _ | _
  · exact skip_light a hin sl l hlt w h
  · rcases Nat.lt_or_ge 1000 l.length with h1 | h1
    · exact skip_long a hin sl l hlt h1 w h
    · exact main_any a sl l hlt h1 hin w h
theorem laidOut : laidOutB Try.prog = true := by kernel_rfl
set_option maxRecDepth 100000 in
theorem contract (H : Type) (enc : TypeId × Value → H) (W : World) (base : Nat) (args : Array Value) (ds gs : List (DataW H)) (before : List MemPlace)
    (hval : ∀ (j : Nat) t v, Try.f6.params[j]? = some t → args[j]? = some v → Value.okWide Try.prog W .any base t v)
    (hW : DataW.Whole enc Try.prog Try.f6.params.toList Rows.schemaBackSpec.vars false W args.toList ds gs before) :
    Calls Try.prog 6 args W fun e W' => ∃ v, e = .returned v ∧ Rows.schemaBackSpec.post enc Try.prog Try.f6 false true false false W args v W' := by
  have hW' := hW
  obtain ⟨p, q, hA0, hV, rfl, hfz, hnd⟩ := hW
  have hA : DataW.TrodAll enc Try.prog W 0 (fun _ => true) true Try.f6.params.toList args.toList ds p := hA0
  rw [Try.params6] at hA hval
  obtain ⟨v0, vs0, d0, ds0, p0, q0, hargs, rfl, rfl, h0, r0⟩ := trodAll_cons hA
  obtain ⟨v1, vs1, d1, ds1, p1, q1, rfl, rfl, rfl, h1, r1⟩ := trodAll_cons r0
  obtain ⟨rfl, rfl, rfl⟩ := trodAll_nil r1
  obtain rfl : args = #[v0, v1] := by cases args; simp_all
  obtain ⟨rfl, rfl⟩ := trodVars_none hV
  obtain ⟨a, sla, rfl, hca, hna⟩ := open_schema (hval 0 24 v0 rfl rfl) h0
  obtain ⟨s, rfl, hd1, hp1, ws⟩ := open_string Try.underlying9 (hval 1 9 v1 rfl rfl) h1
  clear hA0
  simp only [List.append_nil] at hW'
  have hlt : ∀ x ∈ p0 ++ p1, x.block < W.heap.size := fun x hx => hW'.lt x (by simpa using hx)
  have walk := law_any a sla s hna W hca
  refine walk.mono fun e W' ⟨he, hg⟩ => ?_
  subst he
  refine ⟨_, rfl, Fr.post_made (pa := p0 ++ p1) (pv := []) hW' (fun _ _ _ => trodAll_cons_mk (shut_bool Try.underlying4 _) trodAll_mk0) (fun sp hsp => ?_) (fun _ _ => rfl) (by simp) hg (ok_one (by kernel_rfl) rfl (okWide_bool_mk Try.underlying4 _))⟩
  have g0 : DataW.Trod enc Try.prog W' 0 sp true 24 _ d0 p0 := WideElems.Trod_stays laidOut (by kernel_rfl) (of_decide_eq_true (by kernel_rfl)) h0 (fun x hx => hg.same (hlt x (by simp [hx]))) (fun x hx => hsp x (by simp [hx]))
  have g1 : DataW.Trod enc Try.prog W' 0 sp true 9 _ d1 p1 := WideElems.Trod_stays laidOut (by kernel_rfl) (of_decide_eq_true (by kernel_rfl)) h1 (fun x hx => hg.same (hlt x (by simp [hx]))) (fun x hx => hsp x (by simp [hx]))
  have hT := (trodAll_cons_mk g0 (trodAll_cons_mk g1 trodAll_mk0))
  simp only [List.append_nil] at hT
  exact hT
set_option maxRecDepth 100000 in
theorem lifted (os : Os) (started : os.Started) (H : Type) (enc : TypeId × Value → H) :
    ReturnsInHanded {} Try.checked os 6 .any (Rows.schemaBackSpec.pre6 enc Try.prog Try.f6 Rows.schemaBackRow.domain false) (Rows.schemaBackSpec.post enc Try.prog Try.f6 false true false false) := by
  refine returnsInHanded_of_change (C := Try.checked) Fr.own started (by kernel_rfl) Try.func6
    (ChangeSpec.witness6 (enc := enc) (C := Try.checked) false ⟨#[], #[.agg #[.string ⟨#[]⟩, .slice none 0 0, .int .i64 0], .string ⟨#[]⟩], []⟩ 8 (by kernel_rfl) (by kernel_rfl) (by kernel_rfl) (by kernel_rfl)) ?_
  intro W base args ds gs before hval hW _ _
  exact contract H enc W base args ds gs before hval hW
theorem said : Rows.SchemaBackSaid :=
  OpenClaim.holds_of_wide 6 Try.f6 rfl rfl rfl rfl rfl rfl rfl ⟨rfl, rfl, rfl, rfl, rfl⟩ rfl rfl rfl rfl rfl (by kernel_rfl) Try.func6 (by kernel_rfl)
    (of_decide_eq_true (by kernel_rfl)) (by unfold Func.isWrapper; first | (rw [if_pos (by decide +kernel)]; kernel_rfl) | (rw [if_neg (by decide +kernel)]; exact ⟨rfl, rfl⟩))
    (fun os started H enc _ => lifted os started H enc)
end LaSchemaBack
end Go.Proofs.Ytkgiomdjihcfoaa
