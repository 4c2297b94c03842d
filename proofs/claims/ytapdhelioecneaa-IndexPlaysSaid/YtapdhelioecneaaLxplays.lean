/- IndexPlays: whatever is inserted, closed, deleted and asked for, in whatever order: what is told, and which items there are, is as the document says: for all widths, all scripts of calls. No other condition. -/
import Derived.Test.YtapdhelioecneaaJpl0
import Derived.Test.YtapdhelioecneaaWy
import Derived.Test.YtapdhelioecneaaFra
import Derived.Deep.DeepCutAuto
import Derived.Deep.CutBlock
import Derived.WideKeyPair
import Derived.SizedLaws
namespace Go.Proofs.Ytapdhelioecneaa
open Go.ChangeShapes Go.WideShapes Go.ChangeAt Go.RowKit
open Go.ChangeMaps (open_string shut_string)
namespace LaIndexPlays
open Idx
theorem all_ask {PX : Nat → Int → (Nat → Prop) → List It → World → Prop} (K : Con PX) {R : Nat} {n : Int} {F : Nat → Prop} {L : List It} {w : World} (h : PX R n F L w) (hf : Fit 998 L) :
    Calls Try.prog 29 #[.pointer (some ⟨R, 0, none⟩)] w fun e w' => (∃ v, e = .returned v ∧ ItemsAt L v w') ∧ Below w.heap.size w w' :=
  (K.all h hf).mono (fun _ _ h9 => let ⟨v, h1, h2, _, h3⟩ := h9; ⟨⟨v, h1, h2⟩, h3⟩)
theorem plain_ask {l : List It} {sl : Value} {w : World} (h : ItemsAt l sl w) (hl : l.length ≤ 1000) :
    Calls Try.prog 19 #[sl] w fun e w' => (∃ v, e = .returned v ∧ ItemsAt l v w') ∧ Below w.heap.size w w' :=
  (plain_any h hl).mono (fun _ _ h9 => let ⟨v, h1, h2, h3⟩ := h9; ⟨⟨v, h1, h2⟩, h3⟩)
theorem stab_ask {PX : Nat → Int → (Nat → Prop) → List It → World → Prop} (K : Con PX) {R : Nat} {n : Int} {F : Nat → Prop} {L : List It} {w : World} (h : PX R n F L w) (hf : Fit 998 L) (lo hi : List UInt8) (t : Int) (hlo : lo.length ≤ 140737488351232) (hhi : hi.length ≤ 140737488351232) (ht : In64 t) :
    Calls Try.prog 20 #[.pointer (some ⟨R, 0, none⟩), .string (S lo), .string (S hi), .int .i64 t] w fun e w' => (∃ v, e = .returned v ∧ ItemsAt (stab L lo hi t) v w') ∧ Below w.heap.size w w' :=
  (K.stab h hf lo hi t hlo hhi ht).mono (fun _ _ h9 => let ⟨v, h1, h2, _, h3⟩ := h9; ⟨⟨v, h1, h2⟩, h3⟩)
theorem rstab_ask {Q : Nat} {F : Nat → Prop} {L : List It} {w : World} (h : RX Q F L w) (hl : L.length ≤ 900) (hkb : Kb L) (lo hi : List UInt8) (t : Int) (hlo : lo.length ≤ 140737488351232) (hhi : hi.length ≤ 140737488351232) :
    Calls Try.prog 21 #[.pointer (some ⟨Q, 0, none⟩), .string (S lo), .string (S hi), .int .i64 t] w fun e w' => (∃ v, e = .returned v ∧ ItemsAt (stab L lo hi t) v w') ∧ Below w.heap.size w w' :=
  (rstab_any h hl hkb lo hi t hlo hhi).mono (fun _ _ h9 => let ⟨v, h1, h2, h3⟩ := h9; ⟨⟨v, h1, h2.items⟩, h3⟩)
theorem over_ask {PX : Nat → Int → (Nat → Prop) → List It → World → Prop} (K : Con PX) {R : Nat} {n : Int} {F : Nat → Prop} {L : List It} {w : World} (h : PX R n F L w) (hf : Fit 998 L) (lo hi : List UInt8) (a b : Int) (hlo : lo.length ≤ 140737488351232) (hhi : hi.length ≤ 140737488351232) (ha : In64 a) (hb : In64 b) :
    Calls Try.prog 22 #[.pointer (some ⟨R, 0, none⟩), .string (S lo), .string (S hi), .agg #[.int .i64 a, .int .i64 b]] w fun e w' => (∃ v, e = .returned v ∧ ItemsAt (over L lo hi a b) v w') ∧ Below w.heap.size w w' :=
  (K.over h hf lo hi a b hlo hhi ha hb).mono (fun _ _ h9 => let ⟨v, h1, h2, _, h3⟩ := h9; ⟨⟨v, h1, h2⟩, h3⟩)
theorem rover_ask {Q : Nat} {F : Nat → Prop} {L : List It} {w : World} (h : RX Q F L w) (hl : L.length ≤ 900) (hkb : Kb L) (lo hi : List UInt8) (a b : Int) (hlo : lo.length ≤ 140737488351232) (hhi : hi.length ≤ 140737488351232) :
    Calls Try.prog 23 #[.pointer (some ⟨Q, 0, none⟩), .string (S lo), .string (S hi), .agg #[.int .i64 a, .int .i64 b]] w fun e w' => (∃ v, e = .returned v ∧ ItemsAt (over L lo hi a b) v w') ∧ Below w.heap.size w w' :=
  (rover_any h hl hkb lo hi a b hlo hhi).mono (fun _ _ h9 => let ⟨v, h1, h2, h3⟩ := h9; ⟨⟨v, h1, h2.items⟩, h3⟩)
/-- An item, a code. -/
def GotV (x : It) (c : Int) (e : Ending) : Prop := e = .returned (.tuple #[.agg #[.string (S x.k), .int .i64 x.s, .int .i64 x.e, .int .i64 x.id], .int .i64 c])
theorem got_ask {f : FuncId} {vs : Array Value} {w : World} {o : Option It} (h : Calls Try.prog f vs w fun e w' => GetP o w e w') : Calls Try.prog f vs w fun e w' => GotV (gotI o) (gotC o) e ∧ Below w.heap.size w w' :=
  h.mono (fun _ _ h9 => h9)
set_option maxHeartbeats 8000000 in
set_option maxRecDepth 100000 in
theorem walk_plays {PX : Nat → Int → (Nat → Prop) → List It → World → Prop} (K : Con PX) {l : List Opv} {sl : Value} {w : World} (m : Int) (h : OpsAt l sl w) (hin : ∀ o ∈ l, o.inn) :
    Calls Try.prog 3 #[.int .i64 m, sl] w fun e w' => e = .returned (.bool true) ∧ Below w.heap.size w w' := by
  have HA := hide h
  have HIN := hide hin
  obtain ⟨so, sc, rfl, _, _⟩ := h.form
  obtain ⟨n, hn⟩ : ∃ n, n = l.length := ⟨_, rfl⟩
  rw [← hn]
  have HN := hide hn
  clear h hin hn
  go_enter Try.func3, Try.ntmps3
  go_wp2_with fail
  have hnc : newC m = 0 ∨ newC m = 1 := by unfold newC; split <;> simp
  rcases hnc with hc | hc
  · refine (K.new m _ hc).mono ?_
    rintro e w1 ⟨R, F1, rfl, hp, hf, hb⟩
    have P1 := hide hp
    have G1 := hide hf
    have B1 := hide hb
    clear hp hf hb
    go_wp2_with fail
    refine (rnew_any m w1).mono ?_
    rw [hc]
    rintro e w2 ⟨rfl, ⟨F2, hr, hg⟩, hb⟩
    obtain ⟨Q, hq⟩ : ∃ Q, Q = w1.heap.size := ⟨_, rfl⟩
    rw [← hq] at hr ⊢
    have T2 := hide (show ∃ Fx Fr, Two PX R Q m w.heap.size Fx Fr [] [] w2 from ⟨F1, F2, K.later P1.out hb (Nat.le_refl _), hr, fun k h1 h2 => by have := K.fl P1.out k h1; have := hg k h2; omega, G1.out, fun k hk => by have := hg k hk; have := B1.out.size; omega, Nat.le_trans B1.out.size hb.size⟩)
    have B2 := hide (B1.out.trans (hb.mono B1.out.size))
    clear hr hg hb hq P1 B1 G1 hc
    go_wp2_with fail
    go_loopw [9] (fun ii wr => ∃ i : Nat, ∃ M : List It, ii = .int .i64 i ∧ i ≤ n ∧ i ≤ 200 ∧ Hid (Fit i M) ∧ Hid (∃ Fx Fr, Two PX R Q m w.heap.size Fx Fr M M wr) ∧ Hid (Below w.heap.size w wr)) (fun ii _ => (n - (intOf ii).toNat))
    case atStart => exact ⟨0, [], rfl, by omega, by omega, hide (fit_nil 0), T2, B2⟩
    case round =>
      clear T2 B2
      rename World => wr
      obtain ⟨i, M, rfl, hi, hi2, HF, HT, HB⟩ := hrel
      rcases Nat.lt_or_ge i n with hlt | hge
      · have g1 : (i : Int) < (n : Int) := by omega
        rcases Nat.lt_or_ge i 200 with hlt2 | hge2
        · have g2 : (i : Int) < 200 := by omega
          have hil : i < l.length := by rw [← HN.out]; exact hlt
          obtain ⟨b0, off, cap, he, hbw, ⟨k0, k1, k2, k3, k4, k5, k6, k7⟩⟩ := (HA.out.later HB.out (Nat.le_refl _)).at i hil
          rw [← HN.out] at he
          simp only [Value.slice.injEq, true_and] at he
          obtain ⟨rfl, rfl⟩ := he
          have HOI := hide (HIN.out _ (List.getElem_mem hil))
          obtain ⟨o, hx⟩ : ∃ o, o = l[i] := ⟨_, rfl⟩
          rw [← hx] at k0 k1 k2 k3 k4 k5 k6 k7 HOI
          clear hx hbw
          have HFM := hide (HF.out.mono (show i ≤ 998 by omega))
          have HL9 := hide (show M.length ≤ 900 from Nat.le_trans HF.out.n (by omega))
          obtain ⟨wa, hwa⟩ : ∃ wa, wa = wr.alloc (.cells #[.int .i64 o.kind, .string (S o.i.k), .int .i64 o.i.s, .int .i64 o.i.e, .int .i64 o.i.id, .string (S o.hi), .int .i64 o.t, .int .i64 o.u] 33) := ⟨_, rfl⟩
          have HWA := hide hwa
          obtain ⟨b, hb⟩ : ∃ b, b = wr.heap.size := ⟨_, rfl⟩
          have HBE := hide hb
          have hQA : Below wr.heap.size wr wa := by rw [hwa]; exact below_alloc _ _
          have TA := hide (show Rnd PX R Q m w M M o b wa from by
            obtain ⟨Fx, Fr, h1⟩ := HT.out
            refine ⟨⟨Fx, Fr, h1.later K hQA (Nat.le_refl _), by rw [hwa, hb]; simp, fun e => ?_, fun e => ?_⟩, by rw [hwa, hb]; exact OB.new o wr _, HB.out.trans (hQA.mono HB.out.size)⟩
            · have := K.fl h1.px _ e; omega
            · have := h1.rx.fl _ e; omega)
          have o0 : wa.cell? ⟨wr.heap.size, 0, none⟩ = some (.int .i64 o.kind) := by rw [hwa]; go_keep
          clear hwa hb hQA HT HB o0
          rcases Nat.lt_or_ge 100 o.i.k.length with hk | hk
          · have g3 : (100 : Int) < (o.i.k.length : Int) := by omega
            go_wp2_with fail
            go_roundw
            case rel => exact ⟨i + 1, M, by go_num, by omega, by omega, hide (HF.out.mono (Nat.le_succ _)), by rw [← HWA.out]; obtain ⟨Fx, Fr, h1, _⟩ := TA.out.ex; exact hide ⟨Fx, Fr, h1⟩, by rw [← HWA.out]; exact hide TA.out.hb⟩
            case measure => simp [intOf]; omega
          · have g3 : ¬ (100 : Int) < (o.i.k.length : Int) := by omega
            rcases Nat.lt_or_ge 100 o.hi.length with hk2 | hk2
            · have g4 : (100 : Int) < (o.hi.length : Int) := by omega
              go_wp2_with fail
              go_roundw
              case rel => exact ⟨i + 1, M, by go_num, by omega, by omega, hide (HF.out.mono (Nat.le_succ _)), by rw [← HWA.out]; obtain ⟨Fx, Fr, h1, _⟩ := TA.out.ex; exact hide ⟨Fx, Fr, h1⟩, by rw [← HWA.out]; exact hide TA.out.hb⟩
              case measure => simp [intOf]; omega
            · have g4 : ¬ (100 : Int) < (o.hi.length : Int) := by omega
              go_upto_block 2 with fail
              rw [← HWA.out, ← HBE.out]
              go_cut [15] (fun _ wx => ∃ N : List It, Hid (Fit (i + 1) N) ∧ Hid (Rnd PX R Q m w N N o b wx))
              case first =>
                by_cases q0 : o.kind = 0
                · have g5 : (o.kind == 0) = true := by rw [q0]; rfl
                  clear q0
                  as_aux_lemma =>
                    go_wp2_with fail
                    obtain ⟨wd, hwd⟩ : ∃ wd, wd = wa.drew := ⟨_, rfl⟩
                    have T0 := hide (show Rnd PX R Q m w M M o b wd from by rw [hwd]; exact TA.out.later K (Below.refl _ _).drew)
                    refine wp_region_held_drew (S := fun u => u.cell? ⟨b, 0, none⟩ = some (.int .i64 o.kind) ∧ u.cell? ⟨b, 1, none⟩ = some (.string (S o.i.k)) ∧ u.cell? ⟨b, 2, none⟩ = some (.int .i64 o.i.s) ∧ u.cell? ⟨b, 3, none⟩ = some (.int .i64 o.i.e) ∧ u.cell? ⟨b, 4, none⟩ = some (.int .i64 o.i.id) ∧ u.cell? ⟨b, 5, none⟩ = some (.string (S o.hi)) ∧ u.cell? ⟨b, 6, none⟩ = some (.int .i64 o.t) ∧ u.cell? ⟨b, 7, none⟩ = some (.int .i64 o.u)) (by kernel_rfl) (by rw [← hwd]; exact T0.out.ob) (fun hHeld => ?_)
                    rw [← hwd] at hHeld ⊢
                    clear hwd TA
                    refine Man.t1 0 hHeld ?_
                    (try simp only [Act.put, Mqa, Mqb, Mqc])
                    refine Man.t1 1 hHeld ?_
                    (try simp only [Act.put, Mqa, Mqb, Mqc])
                    refine Man.t1 2 hHeld ?_
                    (try simp only [Act.put, Mqa, Mqb, Mqc])
                    refine Man.t1 4 hHeld ?_
                    (try simp only [Act.put, Mqa, Mqb, Mqc])
                    refine Man.t1 5 hHeld ?_
                    (try simp only [Act.put, Mqa, Mqb, Mqc])
                    refine Man.t1 6 hHeld ?_
                    (try simp only [Act.put, Mqa, Mqb, Mqc])
                    refine Man.t1 7 hHeld ?_
                    (try simp only [Act.put, Mqa, Mqb, Mqc])
                    refine Man.t1 8 hHeld ?_
                    (try simp only [Act.put, Mqa, Mqb, Mqc])
                    refine Man.t1 9 hHeld ?_
                    (try simp only [Act.put, Mqa, Mqb, Mqc])
                    refine Man.t1 10 hHeld ?_
                    (try simp only [Act.put, Mqa, Mqb, Mqc])
                    refine Man.t1 11 hHeld ?_
                    (try simp only [Act.put, Mqa, Mqb, Mqc])
                    refine Man.t1 12 hHeld ?_
                    (try simp only [Act.put, Mqa, Mqb, Mqc])
                    refine Man.t1 13 hHeld ?_
                    (try simp only [Act.put, Mqa, Mqb, Mqc])
                    refine Man.t1 14 hHeld ?_
                    (try simp only [Act.put, Mqa, Mqb, Mqc])
                    refine Man.t1 15 hHeld ?_
                    (try simp only [Act.put, Mqa, Mqb, Mqc])
                    refine Man.t1 16 hHeld ?_
                    (try simp only [Act.put, Mqa, Mqb, Mqc])
                    refine Man.t1 17 hHeld ?_
                    (try simp only [Act.put, Mqa, Mqb, Mqc])
                    refine Man.one (i := 3) rfl (by kernel_rfl) (fun K9 hK => ?_)
                    go_simp
                    with_reducible refine (T0.out.callX (fun F hp => K.insert hp HFM.out o.i HOI.out.i)).mono ?_
                    rintro e w1 ⟨rfl, hr⟩
                    have T1 := hide hr
                    clear hr T0
                    refine hK.out _ _ T1.out.ob (fun hNew => ?_)
                    clear hK K9 hHeld
                    have hHeld := hNew
                    clear hNew
                    (try simp only [Act.put, Mqa, Mqb, Mqc])
                    refine Man.one (i := 18) rfl (by kernel_rfl) (fun K9 hK => ?_)
                    go_simp
                    with_reducible refine (T1.out.callR K (fun F hp => rinsert_any hp HL9.out HFM.out.kb o.i HOI.out.i.k)).mono ?_
                    rintro e w2 ⟨rfl, hr⟩
                    have T2 := hide hr
                    clear hr T1
                    refine hK.out _ _ T2.out.ob (fun hNew => ?_)
                    clear hK K9 hHeld
                    have hHeld := hNew
                    clear hNew
                    (try simp only [Act.put, Mqa, Mqb, Mqc])
                    refine Man.t1 19 hHeld ?_
                    (try simp only [Act.put, Mqa, Mqb, Mqc])
                    refine wpAnyH_done (by kernel_rfl) ?_ _
                    go_wp2_with fail
                    go_meet
                    exact ⟨insL M o.i, hide (HF.out.ins HOI.out.i.k), T2⟩
                · have g5 : (o.kind == 0) = false := by rw [beq_eq_false_iff_ne]; exact q0
                  by_cases q1 : o.kind = 1
                  · have g6 : (o.kind == 1) = true := by rw [q1]; rfl
                    clear q0 q1
                    as_aux_lemma =>
                      go_wp2_with fail
                      obtain ⟨wd, hwd⟩ : ∃ wd, wd = wa.drew := ⟨_, rfl⟩
                      have T0 := hide (show Rnd PX R Q m w M M o b wd from by rw [hwd]; exact TA.out.later K (Below.refl _ _).drew)
                      refine wp_region_held_drew (S := fun u => u.cell? ⟨b, 0, none⟩ = some (.int .i64 o.kind) ∧ u.cell? ⟨b, 1, none⟩ = some (.string (S o.i.k)) ∧ u.cell? ⟨b, 2, none⟩ = some (.int .i64 o.i.s) ∧ u.cell? ⟨b, 3, none⟩ = some (.int .i64 o.i.e) ∧ u.cell? ⟨b, 4, none⟩ = some (.int .i64 o.i.id) ∧ u.cell? ⟨b, 5, none⟩ = some (.string (S o.hi)) ∧ u.cell? ⟨b, 6, none⟩ = some (.int .i64 o.t) ∧ u.cell? ⟨b, 7, none⟩ = some (.int .i64 o.u)) (by kernel_rfl) (by rw [← hwd]; exact T0.out.ob) (fun hHeld => ?_)
                      rw [← hwd] at hHeld ⊢
                      clear hwd TA
                      refine Man.t1 0 hHeld ?_
                      (try simp only [Act.put, Mqa, Mqb, Mqc])
                      refine Man.t1 1 hHeld ?_
                      (try simp only [Act.put, Mqa, Mqb, Mqc])
                      refine Man.t1 2 hHeld ?_
                      (try simp only [Act.put, Mqa, Mqb, Mqc])
                      refine Man.t1 3 hHeld ?_
                      (try simp only [Act.put, Mqa, Mqb, Mqc])
                      refine Man.t1 4 hHeld ?_
                      (try simp only [Act.put, Mqa, Mqb, Mqc])
                      refine Man.t1 5 hHeld ?_
                      (try simp only [Act.put, Mqa, Mqb, Mqc])
                      refine Man.t1 6 hHeld ?_
                      (try simp only [Act.put, Mqa, Mqb, Mqc])
                      refine Man.t1 7 hHeld ?_
                      (try simp only [Act.put, Mqa, Mqb, Mqc])
                      refine Man.t1 8 hHeld ?_
                      (try simp only [Act.put, Mqa, Mqb, Mqc])
                      refine Man.t1 9 hHeld ?_
                      (try simp only [Act.put, Mqa, Mqb, Mqc])
                      refine Man.t1 11 hHeld ?_
                      (try simp only [Act.put, Mqa, Mqb, Mqc])
                      refine Man.t1 12 hHeld ?_
                      (try simp only [Act.put, Mqa, Mqb, Mqc])
                      refine Man.t1 13 hHeld ?_
                      (try simp only [Act.put, Mqa, Mqb, Mqc])
                      refine Man.t1 14 hHeld ?_
                      (try simp only [Act.put, Mqa, Mqb, Mqc])
                      refine Man.t1 15 hHeld ?_
                      (try simp only [Act.put, Mqa, Mqb, Mqc])
                      refine Man.t1 16 hHeld ?_
                      (try simp only [Act.put, Mqa, Mqb, Mqc])
                      refine Man.t1 17 hHeld ?_
                      (try simp only [Act.put, Mqa, Mqb, Mqc])
                      refine Man.t1 18 hHeld ?_
                      (try simp only [Act.put, Mqa, Mqb, Mqc])
                      refine Man.t1 19 hHeld ?_
                      (try simp only [Act.put, Mqa, Mqb, Mqc])
                      refine Man.t1 20 hHeld ?_
                      (try simp only [Act.put, Mqa, Mqb, Mqc])
                      refine Man.one (i := 10) rfl (by kernel_rfl) (fun K9 hK => ?_)
                      go_simp
                      with_reducible refine (T0.out.callX (fun F hp => K.close hp HFM.out o.i.k o.i.s o.i.e HOI.out.i.k HOI.out.i.s HOI.out.i.e)).mono ?_
                      rintro e w1 ⟨rfl, hr⟩
                      have T1 := hide hr
                      clear hr T0
                      refine hK.out _ _ T1.out.ob (fun hNew => ?_)
                      clear hK K9 hHeld
                      have hHeld := hNew
                      clear hNew
                      (try simp only [Act.put, Mqa, Mqb, Mqc])
                      refine Man.one (i := 21) rfl (by kernel_rfl) (fun K9 hK => ?_)
                      go_simp
                      with_reducible refine (T1.out.callR K (fun F hp => rclose_any hp HFM.out.ok.up (by have := HL9.out; omega) HFM.out.kb o.i.k o.i.s o.i.e HOI.out.i.k)).mono ?_
                      rintro e w2 ⟨rfl, hr⟩
                      have T2 := hide hr
                      clear hr T1
                      refine hK.out _ _ T2.out.ob (fun hNew => ?_)
                      clear hK K9 hHeld
                      have hHeld := hNew
                      clear hNew
                      (try simp only [Act.put, Mqa, Mqb, Mqc])
                      refine Man.t1 22 hHeld ?_
                      (try simp only [Act.put, Mqa, Mqb, Mqc])
                      refine wpAnyH_done (by kernel_rfl) ?_ _
                      go_wp2_with fail
                      go_meet
                      exact ⟨cloL M o.i.k o.i.s o.i.e, hide ((HF.out.clo o.i.k o.i.s o.i.e).mono (Nat.le_succ _)), T2⟩
                  · have g6 : (o.kind == 1) = false := by rw [beq_eq_false_iff_ne]; exact q1
                    by_cases q2 : o.kind = 2
                    · have g7 : (o.kind == 2) = true := by rw [q2]; rfl
                      clear q0 q1 q2
                      as_aux_lemma =>
                        go_wp2_with fail
                        obtain ⟨wd, hwd⟩ : ∃ wd, wd = wa.drew := ⟨_, rfl⟩
                        have T0 := hide (show Rnd PX R Q m w M M o b wd from by rw [hwd]; exact TA.out.later K (Below.refl _ _).drew)
                        refine wp_region_held_drew (S := fun u => u.cell? ⟨b, 0, none⟩ = some (.int .i64 o.kind) ∧ u.cell? ⟨b, 1, none⟩ = some (.string (S o.i.k)) ∧ u.cell? ⟨b, 2, none⟩ = some (.int .i64 o.i.s) ∧ u.cell? ⟨b, 3, none⟩ = some (.int .i64 o.i.e) ∧ u.cell? ⟨b, 4, none⟩ = some (.int .i64 o.i.id) ∧ u.cell? ⟨b, 5, none⟩ = some (.string (S o.hi)) ∧ u.cell? ⟨b, 6, none⟩ = some (.int .i64 o.t) ∧ u.cell? ⟨b, 7, none⟩ = some (.int .i64 o.u)) (by kernel_rfl) (by rw [← hwd]; exact T0.out.ob) (fun hHeld => ?_)
                        rw [← hwd] at hHeld ⊢
                        clear hwd TA
                        refine Man.t1 0 hHeld ?_
                        (try simp only [Act.put, Mqa, Mqb, Mqc])
                        refine Man.t1 1 hHeld ?_
                        (try simp only [Act.put, Mqa, Mqb, Mqc])
                        refine Man.t1 2 hHeld ?_
                        (try simp only [Act.put, Mqa, Mqb, Mqc])
                        refine Man.t1 3 hHeld ?_
                        (try simp only [Act.put, Mqa, Mqb, Mqc])
                        refine Man.t1 4 hHeld ?_
                        (try simp only [Act.put, Mqa, Mqb, Mqc])
                        refine Man.t1 5 hHeld ?_
                        (try simp only [Act.put, Mqa, Mqb, Mqc])
                        refine Man.t1 6 hHeld ?_
                        (try simp only [Act.put, Mqa, Mqb, Mqc])
                        refine Man.t1 8 hHeld ?_
                        (try simp only [Act.put, Mqa, Mqb, Mqc])
                        refine Man.t1 9 hHeld ?_
                        (try simp only [Act.put, Mqa, Mqb, Mqc])
                        refine Man.t1 10 hHeld ?_
                        (try simp only [Act.put, Mqa, Mqb, Mqc])
                        refine Man.t1 11 hHeld ?_
                        (try simp only [Act.put, Mqa, Mqb, Mqc])
                        refine Man.t1 12 hHeld ?_
                        (try simp only [Act.put, Mqa, Mqb, Mqc])
                        refine Man.t1 13 hHeld ?_
                        (try simp only [Act.put, Mqa, Mqb, Mqc])
                        refine Man.t1 14 hHeld ?_
                        (try simp only [Act.put, Mqa, Mqb, Mqc])
                        refine Man.one (i := 7) rfl (by kernel_rfl) (fun K9 hK => ?_)
                        go_simp
                        with_reducible refine (T0.out.callX (fun F hp => K.delete hp HFM.out o.i.k o.i.s HOI.out.i.k HOI.out.i.s)).mono ?_
                        rintro e w1 ⟨rfl, hr⟩
                        have T1 := hide hr
                        clear hr T0
                        refine hK.out _ _ T1.out.ob (fun hNew => ?_)
                        clear hK K9 hHeld
                        have hHeld := hNew
                        clear hNew
                        (try simp only [Act.put, Mqa, Mqb, Mqc])
                        refine Man.one (i := 15) rfl (by kernel_rfl) (fun K9 hK => ?_)
                        go_simp
                        with_reducible refine (T1.out.callR K (fun F hp => rdelete_any hp HL9.out HFM.out.kb o.i.k o.i.s HOI.out.i.k)).mono ?_
                        rintro e w2 ⟨rfl, hr⟩
                        have T2 := hide hr
                        clear hr T1
                        refine hK.out _ _ T2.out.ob (fun hNew => ?_)
                        clear hK K9 hHeld
                        have hHeld := hNew
                        clear hNew
                        (try simp only [Act.put, Mqa, Mqb, Mqc])
                        refine Man.t1 16 hHeld ?_
                        (try simp only [Act.put, Mqa, Mqb, Mqc])
                        refine wpAnyH_done (by kernel_rfl) ?_ _
                        go_wp2_with fail
                        go_meet
                        exact ⟨delL M o.i.k o.i.s, hide ((HF.out.del o.i.k o.i.s).mono (Nat.le_succ _)), T2⟩
                    · have g7 : (o.kind == 2) = false := by rw [beq_eq_false_iff_ne]; exact q2
                      by_cases q3 : o.kind = 3
                      · have g8 : (o.kind == 3) = true := by rw [q3]; rfl
                        clear q0 q1 q2 q3
                        as_aux_lemma =>
                          have HLQ := hide (show (stab M o.i.k o.hi o.t).length ≤ 1000 from Nat.le_trans (List.length_filter_le _ _) (by have := HL9.out; omega))
                          go_wp2_with fail
                          obtain ⟨wd, hwd⟩ : ∃ wd, wd = wa.drew := ⟨_, rfl⟩
                          have T0 := hide (show Rnd PX R Q m w M M o b wd from by rw [hwd]; exact TA.out.later K (Below.refl _ _).drew)
                          refine wp_region_held_drew (S := fun u => u.cell? ⟨b, 0, none⟩ = some (.int .i64 o.kind) ∧ u.cell? ⟨b, 1, none⟩ = some (.string (S o.i.k)) ∧ u.cell? ⟨b, 2, none⟩ = some (.int .i64 o.i.s) ∧ u.cell? ⟨b, 3, none⟩ = some (.int .i64 o.i.e) ∧ u.cell? ⟨b, 4, none⟩ = some (.int .i64 o.i.id) ∧ u.cell? ⟨b, 5, none⟩ = some (.string (S o.hi)) ∧ u.cell? ⟨b, 6, none⟩ = some (.int .i64 o.t) ∧ u.cell? ⟨b, 7, none⟩ = some (.int .i64 o.u)) (by kernel_rfl) (by rw [← hwd]; exact T0.out.ob) (fun hHeld => ?_)
                          rw [← hwd] at hHeld ⊢
                          clear hwd TA
                          refine Man.t1 0 hHeld ?_
                          (try simp only [Act.put, Mqa, Mqb, Mqc])
                          refine Man.t1 1 hHeld ?_
                          (try simp only [Act.put, Mqa, Mqb, Mqc])
                          refine Man.t1 2 hHeld ?_
                          (try simp only [Act.put, Mqa, Mqb, Mqc])
                          refine Man.t1 3 hHeld ?_
                          (try simp only [Act.put, Mqa, Mqb, Mqc])
                          refine Man.t1 4 hHeld ?_
                          (try simp only [Act.put, Mqa, Mqb, Mqc])
                          refine Man.t1 5 hHeld ?_
                          (try simp only [Act.put, Mqa, Mqb, Mqc])
                          refine Man.t1 6 hHeld ?_
                          (try simp only [Act.put, Mqa, Mqb, Mqc])
                          refine Man.t1 7 hHeld ?_
                          (try simp only [Act.put, Mqa, Mqb, Mqc])
                          refine Man.t1 10 hHeld ?_
                          (try simp only [Act.put, Mqa, Mqb, Mqc])
                          refine Man.t1 11 hHeld ?_
                          (try simp only [Act.put, Mqa, Mqb, Mqc])
                          refine Man.t1 12 hHeld ?_
                          (try simp only [Act.put, Mqa, Mqb, Mqc])
                          refine Man.t1 13 hHeld ?_
                          (try simp only [Act.put, Mqa, Mqb, Mqc])
                          refine Man.t1 14 hHeld ?_
                          (try simp only [Act.put, Mqa, Mqb, Mqc])
                          refine Man.t1 15 hHeld ?_
                          (try simp only [Act.put, Mqa, Mqb, Mqc])
                          refine Man.t1 16 hHeld ?_
                          (try simp only [Act.put, Mqa, Mqb, Mqc])
                          refine Man.t1 17 hHeld ?_
                          (try simp only [Act.put, Mqa, Mqb, Mqc])
                          refine Man.one (i := 8) rfl (by kernel_rfl) (fun K9 hK => ?_)
                          go_simp
                          with_reducible refine (T0.out.askX K (P := fun e w' => ∃ v, e = .returned v ∧ ItemsAt (stab M o.i.k o.hi o.t) v w') (fun F hp => stab_ask K hp HFM.out o.i.k o.hi o.t HOI.out.i.k HOI.out.hi HOI.out.t)).mono ?_
                          rintro e w1 ⟨⟨va, rfl, ha⟩, hr, hb⟩
                          have AA := hide ha
                          clear ha
                          have T1 := hide hr
                          clear hr hb T0
                          refine hK.out _ _ T1.out.ob (fun hNew => ?_)
                          clear hK K9 hHeld
                          have hHeld := hNew
                          clear hNew
                          (try simp only [Act.put, Mqa, Mqb, Mqc])
                          refine Man.one (i := 9) rfl (by kernel_rfl) (fun K9 hK => ?_)
                          go_simp
                          with_reducible refine (T1.out.askX K (P := fun e w' => ∃ v, e = .returned v ∧ ItemsAt (stab M o.i.k o.hi o.t) v w') (fun F hp => plain_ask AA.out HLQ.out)).mono ?_
                          rintro e w2 ⟨⟨vp, rfl, ha⟩, hr, hb⟩
                          have AP := hide ha
                          clear ha AA
                          have T2 := hide hr
                          clear hr hb T1
                          refine hK.out _ _ T2.out.ob (fun hNew => ?_)
                          clear hK K9 hHeld
                          have hHeld := hNew
                          clear hNew
                          (try simp only [Act.put, Mqa, Mqb, Mqc])
                          refine Man.one (i := 18) rfl (by kernel_rfl) (fun K9 hK => ?_)
                          go_simp
                          with_reducible refine (T2.out.askR K (P := fun e w' => ∃ v, e = .returned v ∧ ItemsAt (stab M o.i.k o.hi o.t) v w') (fun F hp => rstab_ask hp HL9.out HFM.out.kb o.i.k o.hi o.t HOI.out.i.k HOI.out.hi)).mono ?_
                          rintro e w3 ⟨⟨vr, rfl, ha⟩, hr, hb⟩
                          have AR := hide ha
                          have AP2 := hide (AP.out.later hb (Nat.le_refl _))
                          clear ha AP
                          have T3 := hide hr
                          clear hr hb T2
                          refine hK.out _ _ T3.out.ob (fun hNew => ?_)
                          clear hK K9 hHeld
                          have hHeld := hNew
                          clear hNew
                          (try simp only [Act.put, Mqa, Mqb, Mqc])
                          refine Man.one (i := 19) rfl (by kernel_rfl) (fun K9 hK => ?_)
                          go_simp
                          with_reducible refine (T3.out.askX K (P := fun e w' => e = .returned (.bool (decide (stab M o.i.k o.hi o.t = stab M o.i.k o.hi o.t)))) (fun F hp => same_any AP2.out AR.out HLQ.out)).mono ?_
                          rintro e w4 ⟨rfl, hr, hb⟩
                          rw [decide_eq_true (rfl : stab M o.i.k o.hi o.t = stab M o.i.k o.hi o.t)]
                          have T4 := hide hr
                          clear hr hb T3
                          refine hK.out _ _ T4.out.ob (fun hNew => ?_)
                          clear hK K9 hHeld
                          have hHeld := hNew
                          clear hNew
                          (try simp only [Act.put, Mqa, Mqb, Mqc])
                          refine Man.t1 20 hHeld ?_
                          (try simp only [Act.put, Mqa, Mqb, Mqc])
                          refine wpAnyH_done (by kernel_rfl) ?_ _
                          go_wp2_with fail
                          go_meet
                          exact ⟨M, hide (HF.out.mono (Nat.le_succ _)), T4⟩
                      · have g8 : (o.kind == 3) = false := by rw [beq_eq_false_iff_ne]; exact q3
                        by_cases q4 : o.kind = 4
                        · have g9 : (o.kind == 4) = true := by rw [q4]; rfl
                          clear q0 q1 q2 q3 q4
                          as_aux_lemma =>
                            have HLQ := hide (show (over M o.i.k o.hi o.t o.u).length ≤ 1000 from Nat.le_trans (List.length_filter_le _ _) (by have := HL9.out; omega))
                            obtain ⟨-, -, -, -, -, -, o6, o7⟩ := TA.out.ob
                            go_wp2_with fail
                            obtain ⟨sb9, hsb⟩ : ∃ sb9, sb9 = wa.heap.size := ⟨_, rfl⟩
                            obtain ⟨wz, hwz⟩ : ∃ wz, wz = wa.alloc (.cells #[.int .i64 o.t, .int .i64 o.u] 46) := ⟨_, rfl⟩
                            have CE := hide (show ∀ u : World, Below wz.heap.size wz u → u.cell? ⟨sb9, 0, none⟩ = some (.int .i64 o.t) ∧ u.cell? ⟨sb9, 1, none⟩ = some (.int .i64 o.u) from fun u hu => by
                              have hlt : sb9 < wz.heap.size := by rw [hsb, hwz]; simp
                              rw [hu.cell (p := ⟨sb9, 0, none⟩) hlt, hu.cell (p := ⟨sb9, 1, none⟩) hlt, hwz, hsb]
                              exact ⟨by go_keep, by go_keep⟩)
                            have TZ := hide (show Rnd PX R Q m w M M o b wz from by rw [hwz]; exact TA.out.later K (below_alloc wa _))
                            obtain ⟨wd, hwd⟩ : ∃ wd, wd = wz.drew := ⟨_, rfl⟩
                            have T0 := hide (show Rnd PX R Q m w M M o b wd from by rw [hwd]; exact TZ.out.later K (Below.refl _ _).drew)
                            have E0 := hide (show Below wz.heap.size wz wd from by rw [hwd]; exact (Below.refl _ _).drew)
                            rw [← hsb, ← hwz]
                            refine wp_region_held_drew (S := fun u => (u.cell? ⟨b, 0, none⟩ = some (.int .i64 o.kind) ∧ u.cell? ⟨b, 1, none⟩ = some (.string (S o.i.k)) ∧ u.cell? ⟨b, 2, none⟩ = some (.int .i64 o.i.s) ∧ u.cell? ⟨b, 3, none⟩ = some (.int .i64 o.i.e) ∧ u.cell? ⟨b, 4, none⟩ = some (.int .i64 o.i.id) ∧ u.cell? ⟨b, 5, none⟩ = some (.string (S o.hi)) ∧ u.cell? ⟨b, 6, none⟩ = some (.int .i64 o.t) ∧ u.cell? ⟨b, 7, none⟩ = some (.int .i64 o.u)) ∧ u.cell? ⟨sb9, 0, none⟩ = some (.int .i64 o.t) ∧ u.cell? ⟨sb9, 1, none⟩ = some (.int .i64 o.u)) (by kernel_rfl) (by rw [← hwd]; exact ⟨T0.out.ob, CE.out _ E0.out⟩) (fun hHeld => ?_)
                            rw [← hwd] at hHeld ⊢
                            clear hwd hwz hsb TA TZ o6 o7
                            refine Man.t1 0 hHeld ?_
                            (try simp only [Act.put, Mqa, Mqb, Mqc])
                            refine Man.t1 1 hHeld ?_
                            (try simp only [Act.put, Mqa, Mqb, Mqc])
                            refine Man.t1 2 hHeld ?_
                            (try simp only [Act.put, Mqa, Mqb, Mqc])
                            refine Man.t1 3 hHeld ?_
                            (try simp only [Act.put, Mqa, Mqb, Mqc])
                            refine Man.t1 4 hHeld ?_
                            (try simp only [Act.put, Mqa, Mqb, Mqc])
                            refine Man.t1 5 hHeld ?_
                            (try simp only [Act.put, Mqa, Mqb, Mqc])
                            refine Man.t1 6 hHeld ?_
                            (try simp only [Act.put, Mqa, Mqb, Mqc])
                            refine Man.t1 9 hHeld ?_
                            (try simp only [Act.put, Mqa, Mqb, Mqc])
                            refine Man.t1 10 hHeld ?_
                            (try simp only [Act.put, Mqa, Mqb, Mqc])
                            refine Man.t1 11 hHeld ?_
                            (try simp only [Act.put, Mqa, Mqb, Mqc])
                            refine Man.t1 12 hHeld ?_
                            (try simp only [Act.put, Mqa, Mqb, Mqc])
                            refine Man.t1 13 hHeld ?_
                            (try simp only [Act.put, Mqa, Mqb, Mqc])
                            refine Man.t1 14 hHeld ?_
                            (try simp only [Act.put, Mqa, Mqb, Mqc])
                            refine Man.t1 15 hHeld ?_
                            (try simp only [Act.put, Mqa, Mqb, Mqc])
                            refine Man.one (i := 7) rfl (by kernel_rfl) (fun K9 hK => ?_)
                            go_simp
                            with_reducible refine (T0.out.askX K (P := fun e w' => ∃ v, e = .returned v ∧ ItemsAt (over M o.i.k o.hi o.t o.u) v w') (fun F hp => over_ask K hp HFM.out o.i.k o.hi o.t o.u HOI.out.i.k HOI.out.hi HOI.out.t HOI.out.u)).mono ?_
                            rintro e w1 ⟨⟨va, rfl, ha⟩, hr, hb⟩
                            have AA := hide ha
                            clear ha
                            have E1 := hide (E0.out.trans (hb.mono E0.out.size))
                            have T1 := hide hr
                            clear hr hb T0 E0
                            refine hK.out _ _ ⟨T1.out.ob, CE.out _ E1.out⟩ (fun hNew => ?_)
                            clear hK K9 hHeld
                            have hHeld := hNew
                            clear hNew
                            (try simp only [Act.put, Mqa, Mqb, Mqc])
                            refine Man.one (i := 8) rfl (by kernel_rfl) (fun K9 hK => ?_)
                            go_simp
                            with_reducible refine (T1.out.askX K (P := fun e w' => ∃ v, e = .returned v ∧ ItemsAt (over M o.i.k o.hi o.t o.u) v w') (fun F hp => plain_ask AA.out HLQ.out)).mono ?_
                            rintro e w2 ⟨⟨vp, rfl, ha⟩, hr, hb⟩
                            have AP := hide ha
                            clear ha AA
                            have E2 := hide (E1.out.trans (hb.mono E1.out.size))
                            have T2 := hide hr
                            clear hr hb T1 E1
                            refine hK.out _ _ ⟨T2.out.ob, CE.out _ E2.out⟩ (fun hNew => ?_)
                            clear hK K9 hHeld
                            have hHeld := hNew
                            clear hNew
                            (try simp only [Act.put, Mqa, Mqb, Mqc])
                            refine Man.one (i := 16) rfl (by kernel_rfl) (fun K9 hK => ?_)
                            go_simp
                            with_reducible refine (T2.out.askR K (P := fun e w' => ∃ v, e = .returned v ∧ ItemsAt (over M o.i.k o.hi o.t o.u) v w') (fun F hp => rover_ask hp HL9.out HFM.out.kb o.i.k o.hi o.t o.u HOI.out.i.k HOI.out.hi)).mono ?_
                            rintro e w3 ⟨⟨vr, rfl, ha⟩, hr, hb⟩
                            have AR := hide ha
                            have AP2 := hide (AP.out.later hb (Nat.le_refl _))
                            clear ha AP
                            have E3 := hide (E2.out.trans (hb.mono E2.out.size))
                            have T3 := hide hr
                            clear hr hb T2 E2
                            refine hK.out _ _ ⟨T3.out.ob, CE.out _ E3.out⟩ (fun hNew => ?_)
                            clear hK K9 hHeld
                            have hHeld := hNew
                            clear hNew
                            (try simp only [Act.put, Mqa, Mqb, Mqc])
                            refine Man.one (i := 17) rfl (by kernel_rfl) (fun K9 hK => ?_)
                            go_simp
                            with_reducible refine (T3.out.askX K (P := fun e w' => e = .returned (.bool (decide (over M o.i.k o.hi o.t o.u = over M o.i.k o.hi o.t o.u)))) (fun F hp => same_any AP2.out AR.out HLQ.out)).mono ?_
                            rintro e w4 ⟨rfl, hr, hb⟩
                            rw [decide_eq_true (rfl : over M o.i.k o.hi o.t o.u = over M o.i.k o.hi o.t o.u)]
                            have E4 := hide (E3.out.trans (hb.mono E3.out.size))
                            have T4 := hide hr
                            clear hr hb T3 E3
                            refine hK.out _ _ ⟨T4.out.ob, CE.out _ E4.out⟩ (fun hNew => ?_)
                            clear hK K9 hHeld
                            have hHeld := hNew
                            clear hNew
                            (try simp only [Act.put, Mqa, Mqb, Mqc])
                            refine Man.t1 18 hHeld ?_
                            (try simp only [Act.put, Mqa, Mqb, Mqc])
                            refine wpAnyH_done (by kernel_rfl) ?_ _
                            go_wp2_with fail
                            go_meet
                            exact ⟨M, hide (HF.out.mono (Nat.le_succ _)), T4⟩
                        · have g9 : (o.kind == 4) = false := by rw [beq_eq_false_iff_ne]; exact q4
                          clear q0 q1 q2 q3 q4
                          as_aux_lemma =>
                            obtain ⟨-, o1, o2, -, -, -, -, -⟩ := TA.out.ob
                            go_wp2_with fail
                            refine (TA.out.askX K (P := fun e _ => GotV (gotI (getI M o.i.k o.i.s)) (gotC (getI M o.i.k o.i.s)) e) (fun F hp => got_ask (K.get hp HFM.out o.i.k o.i.s HOI.out.i.k HOI.out.i.s))).mono ?_
                            rintro e w3 ⟨he, hr, hb⟩
                            have T3 := hide hr
                            clear hr hb TA o1 o2
                            obtain ⟨x, hx⟩ : ∃ x, x = gotI (getI M o.i.k o.i.s) := ⟨_, rfl⟩
                            obtain ⟨c, hc⟩ : ∃ c, c = gotC (getI M o.i.k o.i.s) := ⟨_, rfl⟩
                            rw [← hx, ← hc] at he
                            have HX := hide hx
                            have HC := hide hc
                            clear hx hc
                            unfold GotV at he
                            subst he
                            obtain ⟨bi, hbi⟩ : ∃ bi, bi = w3.heap.size := ⟨_, rfl⟩
                            obtain ⟨w4, hw4⟩ : ∃ w4, w4 = w3.alloc (.cells #[.string (S x.k), .int .i64 x.s, .int .i64 x.e, .int .i64 x.id] 31) := ⟨_, rfl⟩
                            have T4 := hide (show Rnd PX R Q m w M M o b w4 from by rw [hw4]; exact T3.out.later K (below_alloc w3 _))
                            have BX4 := hide (show Bx x bi w4 from by rw [hw4, hbi]; exact Bx.new w3 x 31)
                            obtain ⟨-, o1, o2, -, -, -, -, -⟩ := T4.out.ob
                            rw [hw4] at o1 o2
                            have HW4 := hide hw4
                            have HBI := hide hbi
                            clear hw4 hbi T3
                            go_wp2_with fail
                            rw [← HW4.out, ← HBI.out]
                            refine (T4.out.askR K (P := fun e _ => GotV (gotI (getI M o.i.k o.i.s)) (gotC (getI M o.i.k o.i.s)) e) (fun F hp => got_ask (rget_any hp (by have := HL9.out; omega) HFM.out.kb o.i.k o.i.s HOI.out.i.k))).mono ?_
                            rintro e w5 ⟨he, hr, hb⟩
                            have T5 := hide hr
                            have BX5 := hide (BX4.out.later hb BX4.out.lt)
                            clear hr hb T4 BX4 o1 o2
                            rw [← HX.out, ← HC.out] at he
                            unfold GotV at he
                            subst he
                            have T6 := hide (T5.out.later K (below_alloc w5 (.cells #[.string (S x.k), .int .i64 x.s, .int .i64 x.e, .int .i64 x.id] 36)))
                            obtain ⟨x0, x1, x2, x3, -⟩ := BX5.out.later (below_alloc w5 (.cells #[.string (S x.k), .int .i64 x.s, .int .i64 x.e, .int .i64 x.id] 36)) BX5.out.lt
                            have neq := neI_no x
                            go_wp2_with fail
                            go_meet
                            exact ⟨M, hide (HF.out.mono (Nat.le_succ _)), T6⟩
              case rest => as_aux_lemma =>
                obtain ⟨N, HF2, T2⟩ := hcut
                rename World => w2
                go_wp2_with fail
                have HG := hide (HF2.out.mono (show i + 1 ≤ 998 by omega))
                have HL := hide (show N.length ≤ 900 from Nat.le_trans HF2.out.n (by omega))
                obtain ⟨Fr9, hrx⟩ := T2.out.rx
                obtain ⟨ro, rcp, _, _, q0, _, hrow, _, _⟩ := hrx.open
                have CE := hide (show ∀ u : World, Below w2.heap.size w2 u → u.cell? ⟨Q, 0, none⟩ = some (.slice ro N.length rcp) from fun u hu => by rw [hu.cell (p := ⟨Q, 0, none⟩) hrx.lt]; exact q0)
                have RI := hide hrow.items
                clear hrx q0 hrow
                obtain ⟨ln, hln⟩ : ∃ ln, ln = N.length := ⟨_, rfl⟩
                rw [← hln] at CE RI
                have HLN := hide hln
                clear hln
                obtain ⟨wd, hwd⟩ : ∃ wd, wd = w2.drew := ⟨_, rfl⟩
                have E2 := hide (show Below w2.heap.size w2 wd from by rw [hwd]; exact (Below.refl _ _).drew)
                have T3 := hide (T2.out.later K E2.out)
                clear T2
                refine wp_region_held_drew (S := fun u => u.cell? ⟨Q, 0, none⟩ = some (.slice ro ln rcp)) (by kernel_rfl) (by rw [← hwd]; exact CE.out _ E2.out) (fun hHeld => ?_)
                rw [← hwd] at hHeld ⊢
                clear hwd
                refine Man.t1 0 hHeld ?_
                (try simp only [Act.put, Mqa, Mqb, Mqc])
                refine Man.t1 2 hHeld ?_
                (try simp only [Act.put, Mqa, Mqb, Mqc])
                refine Man.t1 3 hHeld ?_
                (try simp only [Act.put, Mqa, Mqb, Mqc])
                refine Man.t1 4 hHeld ?_
                (try simp only [Act.put, Mqa, Mqb, Mqc])
                refine Man.t1 5 hHeld ?_
                (try simp only [Act.put, Mqa, Mqb, Mqc])
                refine Man.t1 6 hHeld ?_
                (try simp only [Act.put, Mqa, Mqb, Mqc])
                refine Man.one (i := 1) rfl (by kernel_rfl) (fun K9 hK => ?_)
                go_simp
                with_reducible refine (T3.out.askX K (P := fun e _ => e = .returned (.int .i64 (N.length : Int))) (fun F hp => K.len hp HG.out)).mono ?_
                rintro e w4 ⟨rfl, hr, hb⟩
                rw [← HLN.out]
                have E4 := hide (E2.out.trans (hb.mono E2.out.size))
                have T4 := hide hr
                clear hr hb T3 E2
                refine hK.out _ _ (CE.out _ E4.out) (fun hNew => ?_)
                clear hK K9 hHeld
                have hHeld := hNew
                clear hNew
                (try simp only [Act.put, Mqa, Mqb, Mqc])
                refine Man.t1 7 hHeld ?_
                (try simp only [Act.put, Mqa, Mqb, Mqc])
                refine Man.t1 8 hHeld ?_
                (try simp only [Act.put, Mqa, Mqb, Mqc])
                refine Man.t1 9 hHeld ?_
                (try simp only [Act.put, Mqa, Mqb, Mqc])
                refine Man.t1 11 hHeld ?_
                (try simp only [Act.put, Mqa, Mqb, Mqc])
                refine Man.one (i := 10) rfl (by kernel_rfl) (fun K9 hK => ?_)
                go_simp
                with_reducible refine (T4.out.askX K (P := fun e _ => e = .returned (.int .i64 (maxE N))) (fun F hp => K.max hp HG.out)).mono ?_
                rintro e w5 ⟨rfl, hr, hb⟩
                have E5 := hide (E4.out.trans (hb.mono E4.out.size))
                have T5 := hide hr
                clear hr hb T4 E4
                refine hK.out _ _ (CE.out _ E5.out) (fun hNew => ?_)
                clear hK K9 hHeld
                have hHeld := hNew
                clear hNew
                (try simp only [Act.put, Mqa, Mqb, Mqc])
                refine Man.one (i := 12) rfl (by kernel_rfl) (fun K9 hK => ?_)
                go_simp
                with_reducible refine (T5.out.askR K (P := fun e _ => e = .returned (.int .i64 (maxE N))) (fun F hp => rmax_any hp HL.out)).mono ?_
                rintro e w6 ⟨rfl, hr, hb⟩
                have E6 := hide (E5.out.trans (hb.mono E5.out.size))
                have T6 := hide hr
                clear hr hb T5 E5
                refine hK.out _ _ (CE.out _ E6.out) (fun hNew => ?_)
                clear hK K9 hHeld
                have hHeld := hNew
                clear hNew
                (try simp only [Act.put, Mqa, Mqb, Mqc])
                refine Man.t1 13 hHeld ?_
                (try simp only [Act.put, Mqa, Mqb, Mqc])
                refine Man.t1 14 hHeld ?_
                (try simp only [Act.put, Mqa, Mqb, Mqc])
                refine Man.t1 15 hHeld ?_
                (try simp only [Act.put, Mqa, Mqb, Mqc])
                refine Man.t1 16 hHeld ?_
                (try simp only [Act.put, Mqa, Mqb, Mqc])
                refine Man.t1 19 hHeld ?_
                (try simp only [Act.put, Mqa, Mqb, Mqc])
                refine Man.t1 20 hHeld ?_
                (try simp only [Act.put, Mqa, Mqb, Mqc])
                refine Man.t1 21 hHeld ?_
                (try simp only [Act.put, Mqa, Mqb, Mqc])
                refine Man.t1 22 hHeld ?_
                (try simp only [Act.put, Mqa, Mqb, Mqc])
                refine Man.one (i := 17) rfl (by kernel_rfl) (fun K9 hK => ?_)
                go_simp
                with_reducible refine (T6.out.askX K (P := fun e w' => ∃ v, e = .returned v ∧ ItemsAt N v w') (fun F hp => all_ask K hp HG.out)).mono ?_
                rintro e w7 ⟨⟨va, rfl, ha⟩, hr, hb⟩
                have AA := hide ha
                clear ha
                have E7 := hide (E6.out.trans (hb.mono E6.out.size))
                have T7 := hide hr
                clear hr hb T6 E6
                refine hK.out _ _ (CE.out _ E7.out) (fun hNew => ?_)
                clear hK K9 hHeld
                have hHeld := hNew
                clear hNew
                (try simp only [Act.put, Mqa, Mqb, Mqc])
                refine Man.one (i := 18) rfl (by kernel_rfl) (fun K9 hK => ?_)
                go_simp
                with_reducible refine (T7.out.askX K (P := fun e w' => ∃ v, e = .returned v ∧ ItemsAt N v w') (fun F hp => plain_ask AA.out (by have := HL.out; omega))).mono ?_
                rintro e w8 ⟨⟨vp, rfl, ha⟩, hr, hb⟩
                have AP := hide ha
                clear ha AA
                have E8 := hide (E7.out.trans (hb.mono E7.out.size))
                have T8 := hide hr
                clear hr hb T7 E7
                refine hK.out _ _ (CE.out _ E8.out) (fun hNew => ?_)
                clear hK K9 hHeld
                have hHeld := hNew
                clear hNew
                (try simp only [Act.put, Mqa, Mqb, Mqc])
                refine Man.one (i := 23) rfl (by kernel_rfl) (fun K9 hK => ?_)
                go_simp
                with_reducible refine (T8.out.askX K (P := fun e w' => e = .returned (.bool (decide (N = N)))) (fun F hp => same_any AP.out (RI.out.later E8.out (Nat.le_refl _)) (by have := HL.out; omega))).mono ?_
                rintro e w9 ⟨rfl, hr, hb⟩
                rw [decide_eq_true (rfl : N = N)]
                have E9 := hide (E8.out.trans (hb.mono E8.out.size))
                have T9 := hide hr
                clear hr hb T8 E8
                refine hK.out _ _ (CE.out _ E9.out) (fun hNew => ?_)
                clear hK K9 hHeld
                have hHeld := hNew
                clear hNew
                (try simp only [Act.put, Mqa, Mqb, Mqc])
                refine Man.t1 24 hHeld ?_
                (try simp only [Act.put, Mqa, Mqb, Mqc])
                refine Man.t1 25 hHeld ?_
                (try simp only [Act.put, Mqa, Mqb, Mqc])
                refine wpAnyH_done (by kernel_rfl) ?_ _
                go_wp2_with fail
                go_roundw
                case rel => exact ⟨i + 1, N, by go_num, by omega, by omega, HF2, by obtain ⟨Fx, Fr, h1, _⟩ := T9.out.ex; exact hide ⟨Fx, Fr, h1⟩, hide T9.out.hb⟩
                case measure => simp [intOf]; omega
        · have g2 : ¬ (i : Int) < 200 := by omega
          go_wp2_with fail
          refine (known_any K _).mono ?_
          rintro e w7 ⟨rfl, hb⟩
          have B7 := hide (HB.out.trans (hb.mono HB.out.size))
          clear hb
          go_wp2_with fail
          go_ret
          exact ⟨rfl, B7.out⟩
      · obtain rfl : i = n := by omega
        have g1 : ¬ (i : Int) < (i : Int) := by omega
        go_wp2_with fail
        refine (known_any K _).mono ?_
        rintro e w7 ⟨rfl, hb⟩
        have B7 := hide (HB.out.trans (hb.mono HB.out.size))
        clear hb
        go_wp2_with fail
        go_ret
        exact ⟨rfl, B7.out⟩
  · refine (K.no m _ hc).mono ?_
    rintro e w1 ⟨rfl, hb⟩
    have B1 := hide hb
    clear hb
    go_wp2_with fail
    refine (rnew_any m w1).mono ?_
    rw [hc]
    rintro e w2 ⟨rfl, _, hb⟩
    have B2 := hide (B1.out.trans (hb.mono B1.out.size))
    clear hb hc B1
    go_wp2_with fail
    go_loopw [9] (fun ii wr => ii = .int .i64 0 ∧ wr = w2) (fun ii _ => 0)
    case atStart => exact ⟨rfl, rfl⟩
    case round =>
      obtain ⟨rfl, rfl⟩ := hrel
      rcases Nat.lt_or_ge 0 n with hlt | hge
      · have g1 : (0 : Int) < (n : Int) := by omega
        go_wp2_with fail
        refine (known_any K _).mono ?_
        rintro e w7 ⟨rfl, hb⟩
        have B7 := hide (B2.out.trans (hb.mono B2.out.size))
        clear hb
        go_wp2_with fail
        go_ret
        exact ⟨rfl, B7.out⟩
      · obtain rfl : n = 0 := by omega
        have g1 : ¬ (0 : Int) < ((0 : Nat) : Int) := by omega
        go_wp2_with fail
        refine (known_any K _).mono ?_
        rintro e w7 ⟨rfl, hb⟩
        have B7 := hide (B2.out.trans (hb.mono B2.out.size))
        clear hb
        go_wp2_with fail
        go_ret
        exact ⟨rfl, B7.out⟩
theorem laidOut : laidOutB Try.prog = true := by kernel_rfl
set_option maxRecDepth 100000 in
theorem contract (H : Type) (enc : TypeId × Value → H) (W : World) (base : Nat) (args : Array Value) (ds gs : List (DataW H)) (before : List MemPlace)
    (hval : ∀ (j : Nat) t v, Try.f3.params[j]? = some t → args[j]? = some v → Value.okWide Try.prog W .any base t v)
    (hW : DataW.Whole enc Try.prog Try.f3.params.toList Rows.indexPlaysSpec.vars false W args.toList ds gs before)
    (hsz0 : (DataW.weightsEach Try.prog (Try.f3.params.toList ++ Rows.indexPlaysSpec.plain.varTypes Try.prog) (ds ++ gs)).all (· ≤ reachBytes) = true) :
    Calls Try.prog 3 args W fun e W' => ∃ v, e = .returned v ∧ Rows.indexPlaysSpec.post enc Try.prog Try.f3 false true false false W args v W' := by
  have hW' := hW
  obtain ⟨p, q, hA0, hV, rfl, hfz, hnd⟩ := hW
  have hA : DataW.TrodAll enc Try.prog W 0 (fun _ => true) true Try.f3.params.toList args.toList ds p := hA0
  rw [Try.params3] at hA hval hsz0
  obtain ⟨v0, vs0, d0, ds0, p0, q0, hargs, rfl, rfl, h0, r0⟩ := trodAll_cons hA
  obtain ⟨v1, vs1, d1, ds1, p1, q1, rfl, rfl, rfl, h1, r1⟩ := trodAll_cons r0
  obtain ⟨rfl, rfl, rfl⟩ := trodAll_nil r1
  obtain rfl : args = #[v0, v1] := by cases args; simp_all
  obtain ⟨rfl, rfl⟩ := trodVars_none hV
  have hsz := fun n hn => of_decide_eq_true (List.all_eq_true.1 hsz0 n hn)
  obtain ⟨m, rfl, hd0, hp0, wm⟩ := open_int Try.underlying3 (hval 0 3 v0 rfl rfl) h0
  have bm := bounds_i64 wm
  obtain ⟨l, hml, hil⟩ := Idx.open_ops (hval 1 22 v1 rfl rfl) h1 (fun n hn => hsz n (DataW.weights_mem_each (j := 1) (t := 22) rfl rfl n hn))
  clear hA0 hsz0
  simp only [List.append_nil] at hW'
  have hlt : ∀ x ∈ p0 ++ p1, x.block < W.heap.size := fun x hx => hW'.lt x (by simpa using hx)
  have walk := walk_plays con_px m hml hil
  refine walk.mono fun e W' ⟨he, hg⟩ => ?_
  subst he
  refine ⟨_, rfl, Fr.post_made (pa := p0 ++ p1) (pv := []) hW' (fun _ _ _ => trodAll_cons_mk (shut_bool Try.underlying4 _) trodAll_mk0) (fun sp hsp => ?_) (fun _ _ => rfl) (by simp) hg (ok_one (by kernel_rfl) rfl (okWide_bool_mk Try.underlying4 _))⟩
  have g0 : DataW.Trod enc Try.prog W' 0 sp true 3 _ d0 p0 := WideElems.Trod_stays laidOut (by kernel_rfl) (of_decide_eq_true (by kernel_rfl)) h0 (fun x hx => hg.same (hlt x (by simp [hx]))) (fun x hx => hsp x (by simp [hx]))
  have g1 : DataW.Trod enc Try.prog W' 0 sp true 22 _ d1 p1 := WideElems.Trod_stays laidOut (by kernel_rfl) (of_decide_eq_true (by kernel_rfl)) h1 (fun x hx => hg.same (hlt x (by simp [hx]))) (fun x hx => hsp x (by simp [hx]))
  have hT := (trodAll_cons_mk g0 (trodAll_cons_mk g1 trodAll_mk0))
  simp only [List.append_nil] at hT
  exact hT
set_option maxRecDepth 100000 in
theorem lifted (os : Os) (started : os.Started) (H : Type) (enc : TypeId × Value → H) :
    ReturnsInHanded {} Try.checked os 3 .any (Rows.indexPlaysSpec.pre6 enc Try.prog Try.f3 Rows.indexPlaysRow.domain false) (Rows.indexPlaysSpec.post enc Try.prog Try.f3 false true false false) := by
  refine returnsInHanded_of_change_sized (C := Try.checked) Fr.own started (by kernel_rfl) Try.func3
    (ChangeSpec.witness6 (enc := enc) (C := Try.checked) false ⟨#[], #[.int .i64 0, .slice none 0 0], []⟩ 8 (by kernel_rfl) (by kernel_rfl) (by kernel_rfl) (by kernel_rfl)) ?_
  intro W base args ds gs before hval hW _ hsz _
  exact contract H enc W base args ds gs before hval hW hsz
theorem said : Rows.IndexPlaysSaid :=
  OpenClaim.holds_of_wide 3 Try.f3 rfl rfl rfl rfl rfl rfl rfl ⟨rfl, rfl, rfl, rfl, rfl⟩ rfl rfl rfl rfl rfl (by kernel_rfl) Try.func3 (by kernel_rfl)
    (of_decide_eq_true (by kernel_rfl)) (by unfold Func.isWrapper; first | (rw [if_pos (by decide +kernel)]; kernel_rfl) | (rw [if_neg (by decide +kernel)]; exact ⟨rfl, rfl⟩))
    (fun os started H enc _ => lifted os started H enc)
end LaIndexPlays
end Go.Proofs.Ytapdhelioecneaa
