/- FrameSplits is proved: for every list of transactions and every text the law returns true and its arguments read as they did. No other condition. -/
import Derived.Test.YtopmbhpjdmcabaaGm
import Derived.Test.YtopmbhpjdmcabaaGo
import Derived.Test.YtopmbhpjdmcabaaGc
import Derived.Test.YtopmbhpjdmcabaaFra
import Derived.WideKeyPair
import Derived.SizedLaws
namespace Go.Proofs.Ytopmbhpjdmcabaa
open Go.ChangeShapes Go.WideShapes Go.ChangeAt Go.RowKit
open Go.ChangeMaps (open_string shut_string)
namespace LaFrameSplits
open Cod Sch Frm
def fr (b : List UInt8) : List UInt8 := four4 b.length ++ Crc.put b
def frs (bs : List (List UInt8)) : List UInt8 := bs.flatMap fr
theorem fr_len (b : List UInt8) : (fr b).length = b.length + 8 := frame_len b
theorem splits (T : List UInt8) : ∀ bs : List (List UInt8), (∀ b ∈ bs, b.length ≤ 100000) → splitB (frs bs ++ T) = (bs ++ (splitB T).1, (frs bs).length + (splitB T).2.1, (splitB T).2.2) := by
  intro bs
  induction bs with
  | nil => intro _; simp [frs]
  | cons b bs ih =>
    intro h
    have h1 := ih fun x hx => h x (List.mem_cons_of_mem _ hx)
    have h2 := split_frame (X := frs bs ++ T) (h b (List.mem_cons_self ..))
    rw [h1] at h2
    have e1 : frs (b :: bs) ++ T = four4 b.length ++ Crc.put b ++ (frs bs ++ T) := by
      unfold frs fr; simp
    have e2 : (frs (b :: bs)).length = b.length + 8 + (frs bs).length := by
      have := fr_len b
      show ((b :: bs).flatMap fr).length = _
      rw [List.flatMap_cons, List.length_append, this]; rfl
    rw [e1, h2, e2]
    simp only [List.cons_append, Nat.add_assoc]
theorem frs_snoc (bs : List (List UInt8)) (b : List UInt8) : frs (bs ++ [b]) = frs bs ++ fr b := by unfold frs; simp
set_option maxHeartbeats 4000000 in
set_option maxRecDepth 100000 in
theorem rtexts_same (bs : List (List UInt8)) (sa sb : Value) (w : World) (h1 : StrsAt bs sa w) (h2 : StrsAt bs sb w) :
    Calls Try.prog 22 #[sa, sb] w fun e w' => e = .returned (.bool true) ∧ Below w.heap.size w w' := by
  obtain ⟨ao, ac, rfl, hac, ham⟩ := h1.form
  obtain ⟨bo, bc, rfl, hbc, hbm⟩ := h2.form
  have H1 := hidm h1
  have H2 := hidm h2
  obtain ⟨n, hn⟩ : ∃ n, n = bs.length := ⟨_, rfl⟩
  have HN := hidm hn
  rw [← hn]
  have hnb : n ≤ 9223372036854775807 := by omega
  clear h1 h2 hac hbc ham hbm hn
  go_enter Try.func22, Try.ntmps22
  go_wp2_with fail
  go_loopw [5] (fun ii wr => ∃ i : Nat, ii = .int .i64 i ∧ i ≤ n ∧ Hid (Below w.heap.size w wr)) (fun ii _ => (n - (intOf ii).toNat))
  case atStart => exact ⟨0, rfl, by omega, hidm (Below.refl _ _)⟩
  case round =>
    obtain ⟨i, rfl, hi, HB⟩ := hrel
    rcases Nat.lt_or_ge i n with hlt | hge
    · have f1 : (i : Int) < n := by omega
      have hia : i < bs.length := by have := HN.out; omega
      obtain ⟨b1, o1, c1, he1, _, q0⟩ := (H1.out.later HB.out).at i hia
      obtain ⟨b2, o2, c2, he2, _, r0⟩ := (H2.out.later HB.out).at i hia
      simp only [Value.slice.injEq, true_and] at he1 he2
      obtain ⟨rfl, rfl⟩ := he1
      obtain ⟨rfl, rfl⟩ := he2
      obtain ⟨x, hx⟩ : ∃ x, x = bs[i] := ⟨_, rfl⟩
      rw [← hx] at q0 r0
      clear hx
      go_wp2_with fail
      go_quiet (fail)
      go_wp2_with fail
      go_roundw
      case rel => exact ⟨i + 1, by go_num, by omega, hidm (below_drewN HB.out _)⟩
      case measure => simp [intOf]; omega
    · obtain rfl : i = n := by omega
      have f1 : ¬ (i : Int) < i := by omega
      go_wp2_with fail
      go_ret
      exact ⟨rfl, HB.out⟩
set_option maxHeartbeats 4000000 in
set_option maxRecDepth 100000 in
theorem skip_n (l : List X) (lo : Option Addr) (lc : Nat) (r : List UInt8) (hn : 8 < l.length) (w : World) :
    Calls Try.prog 6 #[.slice lo l.length lc, .string (S r)] w fun e w' => e = .returned (.bool true) ∧ Below w.heap.size w w' := by
  have t1 : r.toArray.size = r.length := by simp
  have f1 : (8 : Int) < (l.length : Int) := by omega
  go_enter Try.func6, Try.ntmps6
  go_wp2_with fail
  refine (known_any _).mono ?_
  rintro e w1 ⟨rfl, hb⟩
  have HB := hidm hb
  clear hb
  go_wp2_with fail
  go_ret
  exact ⟨rfl, HB.out⟩
set_option maxHeartbeats 4000000 in
set_option maxRecDepth 100000 in
theorem skip_r (l : List X) (lo : Option Addr) (lc : Nat) (r : List UInt8) (hn : l.length ≤ 8) (hr : 500 < r.length) (w : World) :
    Calls Try.prog 6 #[.slice lo l.length lc, .string (S r)] w fun e w' => e = .returned (.bool true) ∧ Below w.heap.size w w' := by
  have t1 : r.toArray.size = r.length := by simp
  have f1 : ¬ (8 : Int) < (l.length : Int) := by omega
  have f2 : (500 : Int) < (r.length : Int) := by omega
  go_enter Try.func6, Try.ntmps6
  go_wp2_with fail
  refine (known_any _).mono ?_
  rintro e w1 ⟨rfl, hb⟩
  have HB := hidm hb
  clear hb
  go_wp2_with fail
  go_ret
  exact ⟨rfl, HB.out⟩
set_option maxHeartbeats 4000000 in
set_option maxRecDepth 100000 in
theorem main_any (l : List X) (lo : Option Addr) (lc : Nat) (r : List UInt8) (hn : l.length ≤ 8) (hr : r.length ≤ 500) (hii : ∀ x ∈ l, InnX x) (w : World) (hin : XsAt l (.slice lo l.length lc) w) :
    Calls Try.prog 6 #[.slice lo l.length lc, .string (S r)] w fun e w' => e = .returned (.bool true) ∧ Below w.heap.size w w' := by
  have t1 : r.toArray.size = r.length := by simp
  have f1 : ¬ (8 : Int) < (l.length : Int) := by omega
  have f2 : ¬ (500 : Int) < (r.length : Int) := by omega
  obtain ⟨n, hn'⟩ : ∃ n, n = l.length := ⟨_, rfl⟩
  have HN := hidm hn'
  have HIN := hidm hin
  have HII := hidm hii
  rw [← hn'] at hn f1 ⊢
  clear hn' hin hii
  go_enter Try.func6, Try.ntmps6
  go_wp2_with fail
  go_loopw [5, 6, 7] (fun ss mm ii wr => ∃ (i : Nat) (F : ByteArray) (bs : List (List UInt8)), ss = .string F ∧ mm = .int .i64 (bs.length : Nat) ∧ ii = .int .i64 i ∧ i ≤ n ∧ bs.length ≤ i ∧ F.size ≤ i * 100008 ∧ Hid (F.data.toList = frs bs ∧ ∀ b ∈ bs, b.length ≤ 100000) ∧ Hid (Below w.heap.size w wr)) (fun _ _ ii _ => (n - (intOf ii).toNat))
  case atStart => exact ⟨0, ⟨#[]⟩, [], rfl, rfl, rfl, by omega, by simp, by simp [ByteArray.size], hidm ⟨rfl, fun b hb => by cases hb⟩, hidm (Below.refl _ _)⟩
  case round =>
    rename World => wa
    obtain ⟨i, F, bs, rfl, rfl, rfl, hi, hbs, hFs, HF, HS0⟩ := hrel
    rcases Nat.lt_or_ge i n with hlt | hge
    · have f4 : (i : Int) < n := by omega
      have hia : i < l.length := by have := HN.out; omega
      have hrow := HIN.out.later HS0.out
      have hFs2 : F.size ≤ (i + 1) * 100008 := Nat.le_trans hFs (Nat.mul_le_mul_right _ (Nat.le_succ i))
      obtain ⟨g1, o1, cp1, he1, hg1, q0, q1, q2⟩ := XsAt.at hrow i hia
      have hxin := XsAt.in hrow i hia
      simp only [Value.slice.injEq] at he1
      obtain ⟨he1a, _, he1b⟩ := he1
      have HXI := hidm (HII.out _ (List.getElem_mem hia))
      obtain ⟨x, hx⟩ : ∃ x, x = l[i] := ⟨_, rfl⟩
      rw [← hx] at q0 q1 q2 hxin HXI
      have HX := hidm hxin
      subst he1a he1b
      have HSR := hidm (Below.refl wa.heap.size wa)
      clear hx hxin hrow hg1
      have CL := hidm (fun (w1 : World) (h1 : Below wa.heap.size wa w1) => light_any x w1 (HX.out.later h1) HXI.out)
      rcases hlit : litB x.l with _ | _
      · rw [hlit] at CL
        clear hlit
        go_wp2_with fail
        refine (CL.out _ HSR.out).mono ?_
        rintro e w1 ⟨rfl, hb⟩
        have HS1 := hidm (HSR.out.trans (hb.mono HSR.out.size))
        clear hb
        go_wp2_with fail
        go_roundw
        case rel => exact ⟨i + 1, F, bs, rfl, rfl, by go_num, by omega, by omega, hFs2, HF, hidm (HS0.out.trans (HS1.out.mono HS0.out.size))⟩
        case measure => simp [intOf]; omega
      · rw [hlit] at CL
        have HLX := lit_x hlit HXI.out
        obtain ⟨tb, htb⟩ : ∃ t, txB x.tx = t := ⟨_, rfl⟩
        have CR := hidm (fun (w1 : World) (h1 : Below wa.heap.size wa w1) => txright_is htb HLX.n HLX.lm w1 (HX.out.later h1))
        have CE := fun (w1 : World) (h1 : Below wa.heap.size wa w1) => fenc_any HLX.n HLX.lm HLX.wf w1 (HX.out.later h1)
        obtain ⟨E, hE⟩ : ∃ E, E = encT x.tx := ⟨_, rfl⟩
        rw [← hE] at CE
        have CEE := hidm CE
        have HEE := hidm hE
        clear hlit htb HLX CE hE
        have a0 := q0
        have a1 := q1
        have a2 := q2
        go_wp2_with fail
        refine (CL.out _ HSR.out).mono ?_
        rintro e w1 ⟨rfl, hb⟩
        have HS1 := hidm (HSR.out.trans (hb.mono HSR.out.size))
        clear hb
        have b0 := cell_later HS1.out q0
        have b1 := cell_later HS1.out q1
        have b2 := cell_later HS1.out q2
        clear a0 a1 a2
        go_wp2_with fail
        refine (CR.out _ HS1.out).mono ?_
        rintro e w2 ⟨rfl, hb⟩
        have HS2 := hidm (HS1.out.trans (hb.mono HS1.out.size))
        clear hb
        clear b0 b1 b2
        cases tb
        · go_wp2_with fail
          go_roundw
          case rel => exact ⟨i + 1, F, bs, rfl, rfl, by go_num, by omega, by omega, hFs2, HF, hidm (HS0.out.trans (HS2.out.mono HS0.out.size))⟩
          case measure => simp [intOf]; omega
        · have b0 := cell_later HS2.out q0
          have b1 := cell_later HS2.out q1
          have b2 := cell_later HS2.out q2
          go_wp2_with fail
          refine (CEE.out _ HS2.out).mono ?_
          rintro e w3 ⟨rfl, hb⟩
          have HS3 := hidm (HS2.out.trans (hb.mono HS2.out.size))
          clear hb
          clear b0 b1 b2
          by_cases hE0 : E = []
          · subst hE0
            go_wp2_with fail
            go_roundw
            case rel => exact ⟨i + 1, F, bs, rfl, rfl, by go_num, by omega, by omega, hFs2, HF, hidm (HS0.out.trans (HS3.out.mono HS0.out.size))⟩
            case measure => simp [intOf]; omega
          · obtain ⟨b, _, _, hbl, hbe, hbn, _⟩ := enc_form (t := x.tx) (by rw [← HEE.out]; exact hE0)
            rw [← HEE.out] at hbe hbn
            have HBE := hidm hbe
            have HBL := hidm hbl
            have f5 : (E == []) = false := by simpa using hE0
            have f6 : (E != []) = true := by simpa using hE0
            have f7 : E.toArray.size = E.length := by simp
            have f8 : E.length ≤ 100008 := by omega
            have f9 : wrap64 ((bs.length : Int) + 1) = (bs.length : Int) + 1 := by unfold wrap64; omega
            have b0 := cell_later HS3.out q0
            have b1 := cell_later HS3.out q1
            have b2 := cell_later HS3.out q2
            clear hbl hbe hbn hE0
            go_wp2_with fail
            refine (CEE.out _ HS3.out).mono ?_
            rintro e w4 ⟨rfl, hb⟩
            have HS4 := hidm (HS3.out.trans (hb.mono HS3.out.size))
            clear hb
            clear b0 b1 b2
            have HNX := hidm (show (F ++ S E).data.toList = frs (bs ++ [b]) ∧ ∀ y ∈ bs ++ [b], y.length ≤ 100000 from by
              refine ⟨?_, fun y hy => ?_⟩
              · rw [frs_snoc, ← HF.out.1]
                have h := HBE.out
                unfold fr
                rw [← h]; simp [S]
              · rcases List.mem_append.1 hy with h | h
                · exact HF.out.2 y h
                · rw [List.mem_singleton.1 h]; exact HBL.out)
            have hsz : (F ++ S E).size ≤ (i + 1) * 100008 := by rw [ByteArray.size_append, S_size E]; omega
            go_wp2_with fail
            go_roundw
            case rel => exact ⟨i + 1, F ++ S E, bs ++ [b], rfl, by rw [List.length_append]; simp, by go_num, by omega, by rw [List.length_append]; simp; omega, hsz, HNX, hidm (HS0.out.trans (HS4.out.mono HS0.out.size))⟩
            case measure => simp [intOf]; omega
    · obtain rfl : i = n := by omega
      have f4 : ¬ (i : Int) < (i : Int) := by omega
      obtain ⟨hF, hbl⟩ := HF.out
      have hFL : F.size = (frs bs).length := by rw [← hF]; exact (Cod.len_eq F).symm
      have P1 := fun w => split_any F (by omega) w
      have P2 := fun w => split_any (F ++ S r) (by rw [ByteArray.size_append, S_size r]; omega) w
      have hcat : (F ++ S r).data.toList = frs bs ++ r := by rw [← hF]; simp [S]
      have e1 : splitB (frs bs) = (bs, F.size, 0) := by
        have h := splits [] bs hbl
        rw [List.append_nil, split_nil] at h
        rw [h, hFL]; simp
      obtain ⟨cs, hcs⟩ : ∃ cs, cs = bs ++ (splitB r).1 := ⟨_, rfl⟩
      obtain ⟨M, hM⟩ : ∃ M, M = F.size + (splitB r).2.1 := ⟨_, rfl⟩
      have e2 : splitB (frs bs ++ r) = (cs, M, (splitB r).2.2) := by rw [splits r bs hbl, hcs, hM, hFL]
      rw [hF] at P1
      rw [hcat] at P2
      obtain ⟨z, hz⟩ : ∃ z, z = (splitB r).2.2 := ⟨_, rfl⟩
      rw [← hz] at e2
      have PP1 := hidm P1
      have PP2 := hidm P2
      have E1 := hidm e1
      have E2 := hidm e2
      have HT := hidm (show cs.take bs.length = bs from by rw [hcs]; simp)
      have f5 : bs.length ≤ cs.length := by rw [hcs]; simp
      have f6 : F.size ≤ M := by omega
      have f7 : (bs.length : Int) ≤ (cs.length : Int) := by omega
      have f8 : (F.size : Int) ≤ (M : Int) := by omega
      clear hF hbl hFL P1 P2 hcat e1 e2 hcs hM hz HF
      go_wp2_with fail
      refine (PP1.out _).mono ?_
      rintro e w1 ⟨po, pc, he, hst, hb⟩
      rw [E1.out] at he hst
      subst he
      have ST1 := hidm hst
      obtain ⟨_, _, hsv, hlc1, hcm1, _⟩ := hst
      simp only [Value.slice.injEq] at hsv
      obtain ⟨-, -, hsv⟩ := hsv
      rw [← hsv] at hlc1 hcm1
      have HS1 := hidm (HS0.out.trans (hb.mono HS0.out.size))
      clear hb hsv
      go_wp2_with fail
      refine (PP2.out _).mono ?_
      rintro e w2 ⟨qo, qc, he, hst, hb⟩
      rw [E2.out] at he hst
      subst he
      have ST3 := hidm (ST1.out.later hb)
      have ST2 := hst
      obtain ⟨_, _, hsv, hlc2, hcm2, _⟩ := hst
      simp only [Value.slice.injEq] at hsv
      obtain ⟨-, -, hsv⟩ := hsv
      rw [← hsv] at hlc2 hcm2
      have HS2 := hidm (HS1.out.trans (hb.mono HS1.out.size))
      have g1 : bs.length ≤ qc := Nat.le_trans f5 hlc2
      have ST4 := hidm (StrsAt.take ST2 bs.length qc f5 g1 hcm2)
      rw [HT.out] at ST4
      clear hb hsv ST2
      go_wp2_with fail
      skip
      refine (rtexts_same bs _ _ _ ST3.out ST4.out).mono ?_
      rintro e w3 ⟨rfl, hb⟩
      have HS3 := hidm (HS2.out.trans (hb.mono HS2.out.size))
      clear hb
      go_wp2_with fail
      refine (known_any _).mono ?_
      rintro e w4 ⟨rfl, hb⟩
      have HS4 := hidm (HS3.out.trans (hb.mono HS3.out.size))
      clear hb
      go_wp2_with fail
      go_ret
      exact ⟨rfl, HS4.out⟩
theorem law_any (l : List X) (sl : Value) (r : ByteArray) (hii : ∀ x ∈ l, InnX x) (w : World) (hin : XsAt l sl w) :
    Calls Try.prog 6 #[sl, .string r] w fun e w' => e = .returned (.bool true) ∧ Below w.heap.size w w' := by
  obtain ⟨lo, lc, rfl, _, _⟩ := hin.form
  obtain ⟨m, hm⟩ : ∃ m, m = r.data.toList := ⟨_, rfl⟩
  have hs : r = S m := by rw [hm, S_of]
  subst hs
  rcases Nat.lt_or_ge 8 l.length with h1 | h1
  · exact skip_n l lo lc m h1 w
  · rcases Nat.lt_or_ge 500 m.length with h2 | h2
    · exact skip_r l lo lc m h1 h2 w
    · exact main_any l lo lc m h1 h2 hii w hin
theorem laidOut : laidOutB Try.prog = true := by kernel_rfl
set_option maxRecDepth 100000 in
theorem contract (H : Type) (enc : TypeId × Value → H) (W : World) (base : Nat) (args : Array Value) (ds gs : List (DataW H)) (before : List MemPlace)
    (hval : ∀ (j : Nat) t v, Try.f6.params[j]? = some t → args[j]? = some v → Value.okWide Try.prog W .any base t v)
    (hW : DataW.Whole enc Try.prog Try.f6.params.toList Rows.frameSplitsSpec.vars false W args.toList ds gs before)
    (hsz0 : (DataW.weightsEach Try.prog (Try.f6.params.toList ++ Rows.frameSplitsSpec.plain.varTypes Try.prog) (ds ++ gs)).all (· ≤ reachBytes) = true) :
    Calls Try.prog 6 args W fun e W' => ∃ v, e = .returned v ∧ Rows.frameSplitsSpec.post enc Try.prog Try.f6 false true false false W args v W' := by
  have hW' := hW
  obtain ⟨p, q, hA0, hV, rfl, hfz, hnd⟩ := hW
  have hA : DataW.TrodAll enc Try.prog W 0 (fun _ => true) true Try.f6.params.toList args.toList ds p := hA0
  rw [Try.params6] at hA hval hsz0
  obtain ⟨v0, vs0, d0, ds0, p0, q0, hargs, rfl, rfl, h0, r0⟩ := trodAll_cons hA
  obtain ⟨v1, vs1, d1, ds1, p1, q1, rfl, rfl, rfl, h1, r1⟩ := trodAll_cons r0
  obtain ⟨rfl, rfl, rfl⟩ := trodAll_nil r1
  obtain rfl : args = #[v0, v1] := by cases args; simp_all
  obtain ⟨rfl, rfl⟩ := trodVars_none hV
  have hsz := fun n hn => of_decide_eq_true (List.all_eq_true.1 hsz0 n hn)
  obtain ⟨l, hml, hil, hnl⟩ := open_txns (hval 0 50 v0 rfl rfl) h0 (fun n hn => hsz n (DataW.weights_mem_each (j := 0) (t := 50) rfl rfl n hn))
  obtain ⟨r, rfl, hd1, hp1, wr⟩ := open_string Try.underlying9 (hval 1 9 v1 rfl rfl) h1
  clear hA0 hsz0
  simp only [List.append_nil] at hW'
  have hlt : ∀ x ∈ p0 ++ p1, x.block < W.heap.size := fun x hx => hW'.lt x (by simpa using hx)
  have walk := law_any l v0 r hil W hml
  refine walk.mono fun e W' ⟨he, hg⟩ => ?_
  subst he
  refine ⟨_, rfl, Fr.post_made (pa := p0 ++ p1) (pv := []) hW' (fun _ _ _ => trodAll_cons_mk (shut_bool Try.underlying4 _) trodAll_mk0) (fun sp hsp => ?_) (fun _ _ => rfl) (by simp) hg (ok_one (by kernel_rfl) rfl (okWide_bool_mk Try.underlying4 _))⟩
  have g0 : DataW.Trod enc Try.prog W' 0 sp true 50 _ d0 p0 := WideElems.Trod_stays laidOut (by kernel_rfl) (of_decide_eq_true (by kernel_rfl)) h0 (fun x hx => hg.same (hlt x (by simp [hx]))) (fun x hx => hsp x (by simp [hx]))
  have g1 : DataW.Trod enc Try.prog W' 0 sp true 9 _ d1 p1 := WideElems.Trod_stays laidOut (by kernel_rfl) (of_decide_eq_true (by kernel_rfl)) h1 (fun x hx => hg.same (hlt x (by simp [hx]))) (fun x hx => hsp x (by simp [hx]))
  have hT := (trodAll_cons_mk g0 (trodAll_cons_mk g1 trodAll_mk0))
  simp only [List.append_nil] at hT
  exact hT
set_option maxRecDepth 100000 in
theorem lifted (os : Os) (started : os.Started) (H : Type) (enc : TypeId × Value → H) :
    ReturnsInHanded {} Try.checked os 6 .any (Rows.frameSplitsSpec.pre6 enc Try.prog Try.f6 Rows.frameSplitsRow.domain false) (Rows.frameSplitsSpec.post enc Try.prog Try.f6 false true false false) := by
  refine returnsInHanded_of_change_sized (C := Try.checked) Fr.own started (by kernel_rfl) Try.func6
    (ChangeSpec.witness6 (enc := enc) (C := Try.checked) false ⟨#[], #[.slice none 0 0, .string ⟨#[]⟩], []⟩ 8 (by kernel_rfl) (by kernel_rfl) (by kernel_rfl) (by kernel_rfl)) ?_
  intro W base args ds gs before hval hW _ hsz _
  exact contract H enc W base args ds gs before hval hW hsz
theorem said : Rows.FrameSplitsSaid :=
  OpenClaim.holds_of_wide 6 Try.f6 rfl rfl rfl rfl rfl rfl rfl ⟨rfl, rfl, rfl, rfl, rfl⟩ rfl rfl rfl rfl rfl (by kernel_rfl) Try.func6 (by kernel_rfl)
    (of_decide_eq_true (by kernel_rfl)) (by unfold Func.isWrapper; first | (rw [if_pos (by decide +kernel)]; kernel_rfl) | (rw [if_neg (by decide +kernel)]; exact ⟨rfl, rfl⟩))
    (fun os started H enc _ => lifted os started H enc)
end LaFrameSplits
end Go.Proofs.Ytopmbhpjdmcabaa
