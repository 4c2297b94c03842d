/- SchemaReads is proved: for every text the law returns true and its argument reads as it did. No other condition. -/
import Derived.Test.YtkgiomdjihcfoaaJx
import Derived.Test.YtkgiomdjihcfoaaKa
import Derived.Test.YtkgiomdjihcfoaaKh
import Derived.Test.YtkgiomdjihcfoaaFra
import Derived.WideKeyPair
namespace Go.Proofs.Ytkgiomdjihcfoaa
open Go.ChangeShapes Go.WideShapes Go.ChangeAt Go.RowKit
open Go.ChangeMaps (open_string shut_string)
namespace LaSchemaReads
open Cod Sch
theorem rsame_is {a b : T} {x : Bool} (hx : sameB a b = x) (sa sb : Value) (ha : a.cols.length ≤ 1000000) (hb : b.cols.length ≤ 1000000) (w : World) (h1 : ColsAt a.cols sa w) (h2 : ColsAt b.cols sb w) :
    Calls Try.prog 18 #[.agg #[.string (S a.nm), sa, .int .i64 a.keys], .agg #[.string (S b.nm), sb, .int .i64 b.keys]] w fun e w' => e = .returned (.bool x) ∧ Below w.heap.size w w' := hx ▸ rsame_any a b sa sb ha hb w h1 h2
set_option maxHeartbeats 2000000 in
set_option maxRecDepth 100000 in
theorem skip_long (l : List UInt8) (hl : 1000 < l.length) (w : World) : Calls Try.prog 5 #[.string (S l)] w fun e w' => e = .returned (.bool true) ∧ Below w.heap.size w w' := by
  have f1 : (1000 : Int) < (l.length : Int) := by omega
  have f2 : l.toArray.size = l.length := by simp
  go_enter Try.func5, Try.ntmps5
  go_wp2_with fail
  refine (known_any _).mono ?_
  rintro e w1 ⟨rfl, hb⟩
  have HB := hidm hb
  clear hb
  go_wp2_with fail
  go_ret
  exact ⟨rfl, HB.out⟩
set_option maxHeartbeats 4000000 in
set_option maxRecDepth 100000 in
theorem main_any (l : List UInt8) (hl : l.length ≤ 1000) (w : World) : Calls Try.prog 5 #[.string (S l)] w fun e w' => e = .returned (.bool true) ∧ Below w.heap.size w w' := by
  have f1 : ¬ (1000 : Int) < (l.length : Int) := by omega
  have f2 : l.toArray.size = l.length := by simp
  have HL := hidm hl
  clear hl
  go_enter Try.func5, Try.ntmps5
  go_wp2_with fail
  refine (decode_any l (by have := HL.out; omega) _).mono ?_
  rintro e w1 ⟨t, sl1, x1, rfl, hc, hb, hn1, hm1, hcn1, hor1⟩
  have HB_1 := hidm hb
  have HC_1 := hidm hc
  have HT := hidm (show t.cols.length ≤ 1000000 from by omega)
  have HOR1 := hidm hor1
  obtain ⟨so1, sc1, hs1, _, _⟩ := hc.form
  subst hs1
  clear hb hc hn1 hm1 hcn1 hor1
  have hb : Below w1.heap.size w1 (w1.alloc (.cells #[.string (S t.nm), .slice so1 t.cols.length sc1, .int .i64 t.keys] 24)) := (Below.refl _ _).alloc (Nat.le_refl _) _
  have HK_2 := hidm (heap_alloc_new w1 (.cells #[.string (S t.nm), .slice so1 t.cols.length sc1, .int .i64 t.keys] 24))
  have HB_2 := hidm (HB_1.out.trans (hb.mono HB_1.out.size))
  have HC_2 := hidm (HC_1.out.later hb)
  clear hb
  go_wp2_with fail
  refine (rdecode_any l (by have := HL.out; omega) _).mono ?_
  rintro e w3 ⟨u, sl3, x3, rfl, hc, hb, hn3, hm3, hcn3, hor3⟩
  have HB_3 := hidm (HB_2.out.trans (hb.mono HB_2.out.size))
  have HC_3 := hidm (HC_2.out.later hb)
  have HK_3 := hidm (below_keeps hb HK_2.out)
  have HD_3 := hidm hc
  have HU := hidm (show u.cols.length ≤ 1000000 from by omega)
  have heq : u = t ∧ x3 = x1 := by
    rcases HOR1.out with ⟨a1, a2, a3, a4⟩ | ⟨a1, a2, a3⟩
    · rcases hor3 with ⟨b1, b2, b3, b4⟩ | ⟨b1, b2, b3⟩
      · exact ⟨b4 t a2 a3, by omega⟩
      · exact (b3 t a2 a3).elim
    · rcases hor3 with ⟨b1, b2, b3, b4⟩ | ⟨b1, b2, b3⟩
      · exact (a3 u b2 b3).elim
      · exact ⟨by rw [a2, b2], by omega⟩
  obtain ⟨rfl, rfl⟩ := heq
  obtain ⟨so3, sc3, hs3, _, _⟩ := hc.form
  subst hs3
  clear hb hc hn3 hm3 hcn3 hor3
  have hb : Below w3.heap.size w3 (w3.alloc (.cells #[.string (S u.nm), .slice so3 u.cols.length sc3, .int .i64 u.keys] 24)) := (Below.refl _ _).alloc (Nat.le_refl _) _
  have HJ_4 := hidm (heap_alloc_new w3 (.cells #[.string (S u.nm), .slice so3 u.cols.length sc3, .int .i64 u.keys] 24))
  have HB_4 := hidm (HB_3.out.trans (hb.mono HB_3.out.size))
  have HC_4 := hidm (HC_3.out.later hb)
  have HK_4 := hidm (below_keeps hb HK_3.out)
  have HD_4 := hidm (HD_3.out.later hb)
  clear hb
  obtain ⟨a0, a1, a2⟩ := three HK_4.out
  obtain ⟨b0, b1, b2⟩ := three HJ_4.out
  go_wp2_with fail
  refine (rsame_is (a := u) (b := u) (x := true) (by unfold sameB; simp) _ _ HU.out HU.out _ HC_4.out HD_4.out).mono ?_
  rintro e w5 ⟨rfl, hb⟩
  have HB_5 := hidm (HB_4.out.trans (hb.mono HB_4.out.size))
  have fxx : (x3 == x3) = true := by simp
  clear hb a0 a1 a2 b0 b1 b2
  go_wp2_with fail
  refine (known_any _).mono ?_
  rintro e w6 ⟨rfl, hb⟩
  have HB_6 := hidm (HB_5.out.trans (hb.mono HB_5.out.size))
  clear hb
  go_wp2_with fail
  go_ret
  exact ⟨rfl, HB_6.out⟩
theorem law_any (s : ByteArray) (w : World) : Calls Try.prog 5 #[.string s] w fun e w' => e = .returned (.bool true) ∧ Below w.heap.size w w' := by
  obtain ⟨l, hl⟩ : ∃ l, l = s.data.toList := ⟨_, rfl⟩
  have hs : s = S l := by rw [hl, S_of]
  subst hs
  rcases Nat.lt_or_ge 1000 l.length with h1 | h1
  · exact skip_long l h1 w
  · exact main_any l h1 w
theorem laidOut : laidOutB Try.prog = true := by kernel_rfl
set_option maxRecDepth 100000 in
theorem contract (H : Type) (enc : TypeId × Value → H) (W : World) (base : Nat) (args : Array Value) (ds gs : List (DataW H)) (before : List MemPlace)
    (hval : ∀ (j : Nat) t v, Try.f5.params[j]? = some t → args[j]? = some v → Value.okWide Try.prog W .any base t v)
    (hW : DataW.Whole enc Try.prog Try.f5.params.toList Rows.schemaReadsSpec.vars false W args.toList ds gs before) :
    Calls Try.prog 5 args W fun e W' => ∃ v, e = .returned v ∧ Rows.schemaReadsSpec.post enc Try.prog Try.f5 false true false false W args v W' := by
  have hW' := hW
  obtain ⟨p, q, hA0, hV, rfl, hfz, hnd⟩ := hW
  have hA : DataW.TrodAll enc Try.prog W 0 (fun _ => true) true Try.f5.params.toList args.toList ds p := hA0
  rw [Try.params5] at hA hval
  obtain ⟨v0, vs0, d0, ds0, p0, q0, hargs, rfl, rfl, h0, r0⟩ := trodAll_cons hA
  obtain ⟨rfl, rfl, rfl⟩ := trodAll_nil r0
  obtain rfl : args = #[v0] := by cases args; simp_all
  obtain ⟨rfl, rfl⟩ := trodVars_none hV
  obtain ⟨s, rfl, hd0, hp0, ws⟩ := open_string Try.underlying9 (hval 0 9 v0 rfl rfl) h0
  clear hA0
  simp only [List.append_nil] at hW'
  have hlt : ∀ x ∈ p0, x.block < W.heap.size := fun x hx => hW'.lt x (by simpa using hx)
  have walk := law_any s W
  refine walk.mono fun e W' ⟨he, hg⟩ => ?_
  subst he
  refine ⟨_, rfl, Fr.post_made (pa := p0) (pv := []) hW' (fun _ _ _ => trodAll_cons_mk (shut_bool Try.underlying4 _) trodAll_mk0) (fun sp hsp => ?_) (fun _ _ => rfl) (by simp) hg (ok_one (by kernel_rfl) rfl (okWide_bool_mk Try.underlying4 _))⟩
  have g0 : DataW.Trod enc Try.prog W' 0 sp true 9 _ d0 p0 := WideElems.Trod_stays laidOut (by kernel_rfl) (of_decide_eq_true (by kernel_rfl)) h0 (fun x hx => hg.same (hlt x (by simp [hx]))) (fun x hx => hsp x (by simp [hx]))
  have hT := (trodAll_cons_mk g0 trodAll_mk0)
  simp only [List.append_nil] at hT
  exact hT
set_option maxRecDepth 100000 in
theorem lifted (os : Os) (started : os.Started) (H : Type) (enc : TypeId × Value → H) :
    ReturnsInHanded {} Try.checked os 5 .any (Rows.schemaReadsSpec.pre6 enc Try.prog Try.f5 Rows.schemaReadsRow.domain false) (Rows.schemaReadsSpec.post enc Try.prog Try.f5 false true false false) := by
  refine returnsInHanded_of_change (C := Try.checked) Fr.own started (by kernel_rfl) Try.func5
    (ChangeSpec.witness6 (enc := enc) (C := Try.checked) false ⟨#[], #[.string ⟨#[]⟩], []⟩ 8 (by kernel_rfl) (by kernel_rfl) (by kernel_rfl) (by kernel_rfl)) ?_
  intro W base args ds gs before hval hW _ _
  exact contract H enc W base args ds gs before hval hW
theorem said : Rows.SchemaReadsSaid :=
  OpenClaim.holds_of_wide 5 Try.f5 rfl rfl rfl rfl rfl rfl rfl ⟨rfl, rfl, rfl, rfl, rfl⟩ rfl rfl rfl rfl rfl (by kernel_rfl) Try.func5 (by kernel_rfl)
    (of_decide_eq_true (by kernel_rfl)) (by unfold Func.isWrapper; first | (rw [if_pos (by decide +kernel)]; kernel_rfl) | (rw [if_neg (by decide +kernel)]; exact ⟨rfl, rfl⟩))
    (fun os started H enc _ => lifted os started H enc)
end LaSchemaReads
end Go.Proofs.Ytkgiomdjihcfoaa
