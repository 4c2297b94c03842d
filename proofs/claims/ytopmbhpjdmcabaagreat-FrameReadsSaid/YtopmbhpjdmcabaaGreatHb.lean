/- The document's Body and Encode (layer 6). Conditions: at most a million columns and values, names of at most 2^48 bytes. -/
import Derived.Test.YtopmbhpjdmcabaaGreatHa
import Derived.Test.YtopmbhpjdmcabaaGreatMe
import Derived.Test.YtopmbhpjdmcabaaGreatMc
import Derived.Test.YtopmbhpjdmcabaaGreatMan
import Derived.Test.YtopmbhpjdmcabaaGreatKhf
namespace Go.Proofs.YtopmbhpjdmcabaaGreat
open Go.RowKit
namespace Frm
open Cod Sch
theorem b3_step {q : Nat} {wb : World} {co : Option Addr} {sq tm n cc : Nat} {w1 w' : World} (h : w1.cell? ⟨q, 0, none⟩ = some (.int .i64 (sq : Int)) ∧ w1.cell? ⟨q, 1, none⟩ = some (.int .i64 (tm : Int)) ∧ w1.cell? ⟨q, 2, none⟩ = some (.slice co n cc) ∧ Below wb.heap.size wb w1 ∧ wb.heap.size ≤ w1.heap.size) (hb : Below w1.heap.size w1 w') : w'.cell? ⟨q, 0, none⟩ = some (.int .i64 (sq : Int)) ∧ w'.cell? ⟨q, 1, none⟩ = some (.int .i64 (tm : Int)) ∧ w'.cell? ⟨q, 2, none⟩ = some (.slice co n cc) ∧ Below wb.heap.size wb w' ∧ wb.heap.size ≤ w'.heap.size := by
  obtain ⟨c0, c1, c2, hB, hz⟩ := h
  exact ⟨cell_later hb c0, cell_later hb c1, cell_later hb c2, hB.trans (hb.mono hz), Nat.le_trans hz hb.size⟩
theorem b11_step {q : Nat} {wb : World} {y : M} {ya yz : Nat} {w1 w' : World} (h : w1.cell? ⟨q, 1, none⟩ = some (.string (S y.c.tb)) ∧ w1.cell? ⟨q, 2, none⟩ = some (.slice y.ro y.c.row.length y.rc) ∧ w1.cell? ⟨q, 3, none⟩ = some (.int .i64 (ya : Int)) ∧ w1.cell? ⟨q, 4, none⟩ = some (.int .i64 (yz : Int)) ∧ Below wb.heap.size wb w1 ∧ wb.heap.size ≤ w1.heap.size) (hb : Below w1.heap.size w1 w') : w'.cell? ⟨q, 1, none⟩ = some (.string (S y.c.tb)) ∧ w'.cell? ⟨q, 2, none⟩ = some (.slice y.ro y.c.row.length y.rc) ∧ w'.cell? ⟨q, 3, none⟩ = some (.int .i64 (ya : Int)) ∧ w'.cell? ⟨q, 4, none⟩ = some (.int .i64 (yz : Int)) ∧ Below wb.heap.size wb w' ∧ wb.heap.size ≤ w'.heap.size := by
  obtain ⟨c0, c1, c2, c3, hB, hz⟩ := h
  exact ⟨cell_later hb c0, cell_later hb c1, cell_later hb c2, cell_later hb c3, hB.trans (hb.mono hz), Nat.le_trans hz hb.size⟩
theorem rrow2_is {r : List V} {A : ByteArray} (hA : S (rB r) = A) (sl : Value) (hw : ∀ v ∈ r, v.wf) (hn : r.length ≤ 1000000) (w : World) (h : RowAt r sl w) :
    Calls Tryz.prog 37 #[sl] w fun e w' => e = .returned (.string A) ∧ Below w.heap.size w w' := hA ▸ Wr.rrow_any r sl hw hn w h
theorem row_of {vs : List V} {sl : Value} {w : World} (h : RowC vs sl w) : RowAt vs sl w := h.1
theorem eB_four (n : Nat) : (eB n).drop 4 = four4 n := by
  simp [eB, eTo, four4, List.range, List.range.loop]
theorem rb_app (t : Tx) (i : Nat) (h : i < t.chs.length) (op : Nat) (hop : t.chs[i].op = (op : Int)) : preT t (i + 1) = preT t i ++ (uB op ++ backB t.chs[i]) := by
  rw [preT_succ h]; unfold chBy; rw [hop]; rfl
set_option maxHeartbeats 8000000 in
set_option maxRecDepth 100000 in
theorem rbody_is {x : X} {A : List UInt8} (hA : bodyR x.tx = A) (hl : ∀ c ∈ x.l, ChLim c.c) (hd : ∀ c ∈ x.l, Lim c.c.df) (hv : ∀ c ∈ x.l, ∀ v ∈ c.c.row, v.b < 18446744073709551616) (hw : txB x.tx = true → x.tx.wf) (w : World) (hin : x.In w) :
    Calls Tryz.prog 12 #[.agg #[.int .i64 x.seq, .int .i64 x.tm, .slice x.co x.l.length x.cc]] w fun e w' => e = .returned (.string (S A)) ∧ Below w.heap.size w w' := by
  have HIN := hidm hin
  have HL := hidm hl
  have HD := hidm hd
  have HV := hidm hv
  have HS0 := hidm (BoxX.start x w)
  rcases ht : txB x.tx with _ | _
  · have HAE := hidm (show A = [] from by rw [← hA]; unfold bodyR; rw [ht]; rfl)
    have R := hidm (fun (w1 : World) (h1 : Below w.heap.size w w1) => rtxright_is ht HL.out HD.out HV.out w1 (hin.later h1))
    clear hA hl hd hv hw hin ht
    go_enter Tryz.func12, Tryz.ntmps12
    go_wp2_with fail
    refine (R.out _ HS0.out.below).mono ?_
    rintro e w1 ⟨rfl, hb⟩
    have HS1 := hidm (HS0.out.then hb)
    clear hb
    go_wp2_with fail
    go_ret
    exact ⟨congrArg (fun q => Ending.returned (.string (S q))) HAE.out.symm, HS1.out.below⟩
  · have R := hidm (fun (w1 : World) (h1 : Below w.heap.size w w1) => rtxright_is ht HL.out HD.out HV.out w1 (hin.later h1))
    obtain ⟨s1, s2, t0, t1, hn100, hch⟩ := tx_parts ht
    have hn100' : x.l.length ≤ 100 := by have h : (x.l.map M.c).length ≤ 100 := hn100; simpa using h
    have HPL := hidm (preT_len ht (hw ht))
    have HCH := hidm (show ∀ i (h : i < x.l.length), chB (x.l[i]).c = true ∧ (x.l[i]).c.wf from fun i h => ⟨hch _ (List.mem_map.2 ⟨x.l[i], List.getElem_mem h, rfl⟩), hw ht _ (List.mem_map.2 ⟨x.l[i], List.getElem_mem h, rfl⟩)⟩)
    have HAE := hidm (show A = (if (bodyT x.tx).length ≤ 100000 then bodyT x.tx else []) from by rw [← hA]; unfold bodyR; rw [ht]; rfl)
    obtain ⟨sq, hsq⟩ : ∃ k : Nat, x.seq = (k : Int) := Int.eq_ofNat_of_zero_le (by have : 1 ≤ x.seq := s1; omega)
    obtain ⟨tm, htm⟩ : ∃ k : Nat, x.tm = (k : Int) := Int.eq_ofNat_of_zero_le t0
    obtain ⟨n, hn⟩ : ∃ n, n = x.l.length := ⟨_, rfl⟩
    obtain ⟨co, hco⟩ : ∃ n, n = x.co := ⟨_, rfl⟩
    obtain ⟨cc, hcc⟩ : ∃ n, n = x.cc := ⟨_, rfl⟩
    have HSQ := hidm hsq
    have HTM := hidm htm
    have HN := hidm hn
    have HCO := hidm hco
    have HCC := hidm hcc
    have hsq1 : sq ≤ 1099511627776 := by have h : x.seq ≤ 1099511627776 := s2; omega
    have htm1 : tm < 1099511627776 := by have h : x.tm < 1099511627776 := t1; omega
    rw [← hn] at hn100'
    obtain ⟨A1, hA1⟩ : ∃ A, S (uB sq) = A := ⟨_, rfl⟩
    obtain ⟨A2, hA2⟩ : ∃ A, S (uB tm) = A := ⟨_, rfl⟩
    obtain ⟨A3, hA3⟩ : ∃ A, S (uB n) = A := ⟨_, rfl⟩
    have l1 : A1.size ≤ 10 := by rw [← hA1, S_size]; exact uB_ten sq (by omega)
    have l2 : A2.size ≤ 10 := by rw [← hA2, S_size]; exact uB_ten tm (by omega)
    have l3 : A3.size ≤ 10 := by rw [← hA3, S_size]; exact uB_ten n (by omega)
    have HA1 := hidm hA1
    have HA2 := hidm hA2
    have HA3 := hidm hA3
    have HS3 := hidm (show A1 ++ A2 ++ A3 = S (preT x.tx 0) from by
      rw [← hA1, ← hA2, ← hA3, S_append, S_append]
      unfold preT X.tx
      simp only [List.length_map, List.take_zero, List.flatMap_nil, List.append_nil]
      rw [hsq, htm, hn, List.append_assoc]; rfl)
    have m1 : ¬ 9223372036854775807 < A1.size + A2.size := by omega
    have m2 : ¬ 9223372036854775807 < A1.size + A2.size + A3.size := by omega
    have HSL := hidm (show (A1 ++ A2 ++ A3).size ≤ 10000000 from by simp only [ByteArray.size_append]; omega)
    have HKQ := hidm (show IntKind.u64.wrap (sq : Int) = sq from by simp only [IntKind.wrap_u64]; omega)
    have HKT := hidm (show IntKind.u64.wrap (tm : Int) = tm from by simp only [IntKind.wrap_u64]; omega)
    have HKN := hidm (show IntKind.u64.wrap (n : Int) = n from by simp only [IntKind.wrap_u64]; omega)
    clear hA1 hA2 hA3 l1 l2 l3 hA hl hd hv hw hin ht s1 s2 t0 t1 hn100 hch hsq htm hn hco hcc
    go_enter Tryz.func12, Tryz.ntmps12
    go_wp2_with fail
    refine (R.out _ HS0.out.below).mono ?_
    rintro e w1 ⟨rfl, hb⟩
    have HS1 := hidm (HS0.out.then hb)
    have c0 := HS1.out.c0
    have c1 := HS1.out.c1
    have c2 := HS1.out.c2
    rw [HSQ.out] at c0
    rw [HTM.out] at c1
    rw [← HN.out, ← HCO.out, ← HCC.out] at c2
    have SS0 := hidm (show w1.cell? ⟨w.heap.size, 0, none⟩ = some (.int .i64 (sq : Int)) ∧ w1.cell? ⟨w.heap.size, 1, none⟩ = some (.int .i64 (tm : Int)) ∧ w1.cell? ⟨w.heap.size, 2, none⟩ = some (.slice co n cc) ∧ Below w1.heap.size w1 w1 ∧ w1.heap.size ≤ w1.heap.size from ⟨c0, c1, c2, Below.refl _ _, Nat.le_refl _⟩)
    have hwq := HKQ.out
    have hwt := HKT.out
    have hwn := HKN.out
    clear hb R c0 c1 c2 HKQ HKT HKN
    go_wp2_with fail
    refine wp_region_held_drew (S := fun u => u.cell? ⟨w.heap.size, 0, none⟩ = some (.int .i64 (sq : Int)) ∧ u.cell? ⟨w.heap.size, 1, none⟩ = some (.int .i64 (tm : Int)) ∧ u.cell? ⟨w.heap.size, 2, none⟩ = some (.slice co n cc) ∧ Below w1.heap.size w1 u ∧ w1.heap.size ≤ u.heap.size) (by kernel_rfl) ?_ (fun hHeld => ?_)
    · exact b3_step SS0.out ((Below.refl _ _).drew)
    refine Man.take1 (i := 0) (v := ?_) rfl (by kernel_rfl) (by kernel_rfl) (by kernel_rfl) (fun _ _ _ h => h) (by rfl) ?_ (by assumption) ?_
    rotate_left
    · (intro u hSu; (try dsimp only at hSu); go_simp; (try with_reducible rfl))
    (try simp only [Act.put, List.setIfInBounds_toArray, List.set_cons_zero, List.set_cons_succ])
    refine Man.take1 (i := 1) (v := ?_) rfl (by kernel_rfl) (by kernel_rfl) (by kernel_rfl) (fun _ _ _ h => h) (by rfl) ?_ (by assumption) ?_
    rotate_left
    · (intro u hSu; (try dsimp only at hSu); go_simp; (try with_reducible rfl))
    (try simp only [Act.put, List.setIfInBounds_toArray, List.set_cons_zero, List.set_cons_succ])
    refine Man.take1 (i := 2) (v := ?_) rfl (by kernel_rfl) (by kernel_rfl) (by kernel_rfl) (fun _ _ _ h => h) (by rfl) ?_ (by assumption) ?_
    rotate_left
    · (intro u hSu; (try dsimp only at hSu); go_simp; (try with_reducible rfl))
    (try simp only [Act.put, List.setIfInBounds_toArray, List.set_cons_zero, List.set_cons_succ])
    refine Man.take1 (i := 4) (v := ?_) rfl (by kernel_rfl) (by kernel_rfl) (by kernel_rfl) (fun _ _ _ h => h) (by rfl) ?_ (by assumption) ?_
    rotate_left
    · (intro u hSu; (try dsimp only at hSu); go_simp; (try with_reducible rfl))
    (try simp only [Act.put, List.setIfInBounds_toArray, List.set_cons_zero, List.set_cons_succ])
    refine Man.take1 (i := 5) (v := ?_) rfl (by kernel_rfl) (by kernel_rfl) (by kernel_rfl) (fun _ _ _ h => h) (by rfl) ?_ (by assumption) ?_
    rotate_left
    · (intro u hSu; (try dsimp only at hSu); go_simp; (try with_reducible rfl))
    (try simp only [Act.put, List.setIfInBounds_toArray, List.set_cons_zero, List.set_cons_succ])
    refine Man.take1 (i := 6) (v := ?_) rfl (by kernel_rfl) (by kernel_rfl) (by kernel_rfl) (fun _ _ _ h => h) (by rfl) ?_ (by assumption) ?_
    rotate_left
    · (intro u hSu; (try dsimp only at hSu); go_simp; (try with_reducible rfl))
    (try simp only [Act.put, List.setIfInBounds_toArray, List.set_cons_zero, List.set_cons_succ])
    refine Man.take1 (i := 9) (v := ?_) rfl (by kernel_rfl) (by kernel_rfl) (by kernel_rfl) (fun _ _ _ h => h) (by rfl) ?_ (by assumption) ?_
    rotate_left
    · (intro u hSu; (try dsimp only at hSu); go_simp; (try with_reducible rfl))
    (try simp only [Act.put, List.setIfInBounds_toArray, List.set_cons_zero, List.set_cons_succ])
    refine Man.take1 (i := 10) (v := ?_) rfl (by kernel_rfl) (by kernel_rfl) (by kernel_rfl) (fun _ _ _ h => h) (by rfl) ?_ (by assumption) ?_
    rotate_left
    · (intro u hSu; (try dsimp only at hSu); go_simp; (try with_reducible rfl))
    (try simp only [Act.put, List.setIfInBounds_toArray, List.set_cons_zero, List.set_cons_succ])
    refine Man.take1 (i := 11) (v := ?_) rfl (by kernel_rfl) (by kernel_rfl) (by kernel_rfl) (fun _ _ _ h => h) (by rfl) ?_ (by assumption) ?_
    rotate_left
    · (intro u hSu; (try dsimp only at hSu); go_simp; (try with_reducible rfl))
    (try simp only [Act.put, List.setIfInBounds_toArray, List.set_cons_zero, List.set_cons_succ])
    refine Man.take1 (i := 12) (v := ?_) rfl (by kernel_rfl) (by kernel_rfl) (by kernel_rfl) (fun _ _ _ h => h) (by rfl) ?_ (by assumption) ?_
    rotate_left
    · (intro u hSu; (try dsimp only at hSu); go_simp; (try with_reducible rfl))
    (try simp only [Act.put, List.setIfInBounds_toArray, List.set_cons_zero, List.set_cons_succ])
    refine Man.one (i := 3) rfl (by kernel_rfl) (fun K hK => ?_)
    go_simp
    (go_at_call 34; (with_reducible refine (ruint_is HA1.out (by omega) _).mono ?_); rintro e w' ⟨rfl, hb⟩)
    refine hK.out _ _ ?_ (fun hNew => ?_)
    · exact b3_step hHeld hb
    clear hHeld hK K hb
    have hHeld := hNew
    clear hNew
    (try simp only [Act.put, List.setIfInBounds_toArray, List.set_cons_zero, List.set_cons_succ])
    refine Man.one (i := 7) rfl (by kernel_rfl) (fun K hK => ?_)
    go_simp
    (go_at_call 34; (with_reducible refine (ruint_is HA2.out (by omega) _).mono ?_); rintro e w' ⟨rfl, hb⟩)
    refine hK.out _ _ ?_ (fun hNew => ?_)
    · exact b3_step hHeld hb
    clear hHeld hK K hb
    have hHeld := hNew
    clear hNew
    (try simp only [Act.put, List.setIfInBounds_toArray, List.set_cons_zero, List.set_cons_succ])
    refine Man.take1 (i := 8) (v := ?_) rfl (by kernel_rfl) (by kernel_rfl) (by kernel_rfl) (fun _ _ _ h => h) (by rfl) ?_ (by assumption) ?_
    rotate_left
    · (intro u hSu; (try dsimp only at hSu); go_simp; (try with_reducible rfl))
    (try simp only [Act.put, List.setIfInBounds_toArray, List.set_cons_zero, List.set_cons_succ])
    refine Man.one (i := 13) rfl (by kernel_rfl) (fun K hK => ?_)
    go_simp
    (go_at_call 34; (with_reducible refine (ruint_is HA3.out (by omega) _).mono ?_); rintro e w' ⟨rfl, hb⟩)
    refine hK.out _ _ ?_ (fun hNew => ?_)
    · exact b3_step hHeld hb
    clear hHeld hK K hb
    have hHeld := hNew
    clear hNew
    (try simp only [Act.put, List.setIfInBounds_toArray, List.set_cons_zero, List.set_cons_succ])
    refine Man.take1 (i := 14) (v := ?_) rfl (by kernel_rfl) (by kernel_rfl) (by kernel_rfl) (fun _ _ _ h => h) (by rfl) ?_ (by assumption) ?_
    rotate_left
    · (intro u hSu; (try dsimp only at hSu); go_simp; (try with_reducible rfl))
    (try simp only [Act.put, List.setIfInBounds_toArray, List.set_cons_zero, List.set_cons_succ])
    refine Man.take1 (i := 15) (v := ?_) rfl (by kernel_rfl) (by kernel_rfl) (by kernel_rfl) (fun _ _ _ h => h) (by rfl) ?_ (by assumption) ?_
    rotate_left
    · (intro u hSu; (try dsimp only at hSu); go_simp; (try with_reducible rfl))
    (try simp only [Act.put, List.setIfInBounds_toArray, List.set_cons_zero, List.set_cons_succ])
    refine wpAnyH_done (by kernel_rfl) ?_ _
    obtain ⟨_, _, _, hqb, hqz⟩ := hHeld
    have HS2 := hidm (HS1.out.then hqb)
    clear hqb hqz SS0 m1 m2 hwq hwt hwn
    go_wp2_with fail
    go_loopw [3, 4] (fun tt ii wr => ∃ (i : Nat) (B : ByteArray), ii = .int .i64 i ∧ tt = .string B ∧ i ≤ n ∧ B.size ≤ 10000000 ∧ Hid (B = S (preT x.tx i)) ∧ Hid (BoxX x w wr)) (fun _ ii _ => (n - (intOf ii).toNat))
    case atStart => exact ⟨0, _, rfl, rfl, by omega, HSL.out, HS3, HS2⟩
    case round =>
      clear HS2 HSL HS3
      obtain ⟨i, B, rfl, rfl, hi, hbz, HP, HB⟩ := hrel
      have c2 := HB.out.c2
      rw [← HN.out, ← HCO.out, ← HCC.out] at c2
      rcases Nat.lt_or_ge i n with hlt | hge
      · have f1 : (i : Int) < n := by omega
        have hia : i < x.l.length := by have := HN.out; omega
        have hrow := HIN.out.later HB.out.below
        obtain ⟨b1, o1, cp, he1, _, q0, q1, q2, q3, q4, q5, q6, q7⟩ := MsAt.at hrow i hia
        have hyin := MsAt.in hrow i hia
        simp only [Value.slice.injEq, true_and] at he1
        obtain ⟨he1a, he1b⟩ := he1
        rw [HCO.out, HCC.out, he1a, he1b] at c2
        have hcw := HCH.out i hia
        have hii : i < x.tx.chs.length := by show i < (x.l.map M.c).length; simpa using hia
        have e9 : x.tx.chs[i] = x.l[i].c := by simp [X.tx]
        have hp3 := ch_op hcw.1
        obtain ⟨op, hop⟩ : ∃ k : Nat, x.l[i].c.op = (k : Int) := Int.eq_ofNat_of_zero_le (show 0 ≤ x.l[i].c.op by omega)
        have hPS := rb_app x.tx i hii op (by rw [e9]; exact hop)
        rw [e9] at hPS
        have hPL := HPL.out (i + 1) (by omega)
        rw [hPS] at hPL
        have HDY := hidm (HD.out _ (List.getElem_mem hia))
        have HLY := hidm (HL.out _ (List.getElem_mem hia))
        have h100 : i + 1 ≤ 100 := by omega
        have hPL2 : (preT x.tx i ++ (uB op ++ backB x.l[i].c)).length ≤ 10000000 := by omega
        have HPL2 := hidm hPL2
        have HPS := hidm hPS
        clear hPL hPL2 hPS e9 hii
        obtain ⟨y, hy⟩ : ∃ y, y = x.l[i] := ⟨_, rfl⟩
        rw [← hy] at q0 q1 q2 q3 q4 q5 q6 q7 hyin hcw HPL2 HPS HDY HLY hop hp3
        have HYI := hidm hyin
        have HCW := hidm hcw
        have HOP := hidm hop
        have hop3 : op ≤ 3 := by omega
        have HM := hidm (BoxM.start y wr)
        obtain ⟨A0, hA0⟩ : ∃ A, S (uB op) = A := ⟨_, rfl⟩
        have l0 : A0.size ≤ 10 := by rw [← hA0, S_size]; exact uB_ten op (by omega)
        have HA0 := hidm hA0
        have m0 : ¬ 9223372036854775807 < B.size + A0.size := by omega
        have HBA := hidm (show B ++ A0 = S (preT x.tx i ++ uB op) from by rw [HP.out, ← hA0, S_append])
        have hwo : IntKind.u64.wrap y.c.op = (op : Int) := by rw [hop]; simp only [IntKind.wrap_u64]; omega
        clear hy hyin hcw hrow he1a he1b hA0 hp3 hop
        go_wp2_with fail
        refine (ruint_is HA0.out (by omega) _).mono ?_
        rintro e w2 ⟨rfl, hb⟩
        have HM2 := hidm (HM.out.then hb)
        clear hb q0 q1 q2 q3 q4 q5 q6 q7 c2 hwo
        have hB1 : (B ++ A0).size ≤ 10000010 := by rw [ByteArray.size_append]; omega
        by_cases h3 : op = 3
        · subst h3
          have htab : tabCh y.c = true := by
            rcases ch_cases HCW.out.1 with ⟨h1, _⟩ | ⟨_, h2⟩
            · have := HOP.out; omega
            · exact h2
          obtain ⟨hrt, _⟩ := tab_parts htab
          have hsl := schema_len hrt
          have HSCL := hidm hsl
          have hback : backB y.c = tB (bodyB y.c.df) := by unfold backB; rw [if_pos (show y.c.op = 3 from HOP.out)]
          obtain ⟨A1, hA1⟩ : ∃ A, S (tB (bodyB y.c.df)) = A := ⟨_, rfl⟩
          have HA1 := hidm hA1
          have l1 : A1.size ≤ 1100 := by rw [← hA1, S_size]; unfold tB; rw [List.length_append]; have := uB_ten (bodyB y.c.df).length (by omega); omega
          have HEB := hidm (show encB y.c.df = bodyB y.c.df from by unfold encB; rw [hrt]; rfl)
          have HNX := hidm (show B ++ A0 ++ A1 = S (preT x.tx (i + 1)) from by
            rw [HBA.out, ← hA1, S_append, HPS.out, hback]; simp)
          have HNZ := hidm (show (B ++ A0 ++ A1).size ≤ 10000000 from by
            rw [HNX.out, S_size, HPS.out]; exact HPL2.out)
          have m1 : ¬ 9223372036854775807 < B.size + A0.size + A1.size := by omega
          have e0 := HM2.out.c0
          rw [HOP.out] at e0
          have e5 := HM2.out.c5
          have e6 := HM2.out.c6
          have e7 := HM2.out.c7
          clear htab hrt hsl hback hA1
          go_wp2_with fail
          refine (rencode_is HEB.out HDY.out _ _ (HYI.out.q.later HM2.out.below)).mono ?_
          rintro e w3 ⟨rfl, hb⟩
          have HM3 := hidm (HM2.out.then hb)
          clear hb e0 e5 e6 e7
          go_wp2_with fail
          refine (rtext_is HA1.out (by have := HSCL.out; omega) _).mono ?_
          rintro e w4 ⟨rfl, hb⟩
          have HM4 := hidm (HM3.out.then hb)
          clear hb
          go_wp2_with fail
          go_roundw
          case rel => exact ⟨i + 1, _, by go_num, rfl, by omega, HNZ.out, HNX, hidm (HB.out.then HM4.out.below)⟩
          case measure => simp [intOf]; omega
        · have hrowc : rowCh y.c 16 = true := by
            rcases ch_cases HCW.out.1 with ⟨_, h2⟩ | ⟨h1, _⟩
            · exact h2
            · have := HOP.out; omega
          obtain ⟨hnm, r1, r16, _, a0, az, z1, _⟩ := row_parts hrowc
          obtain ⟨ya, hya⟩ : ∃ k : Nat, y.c.a = (k : Int) := Int.eq_ofNat_of_zero_le a0
          obtain ⟨yz, hyz⟩ : ∃ k : Nat, y.c.z = (k : Int) := Int.eq_ofNat_of_zero_le (by omega)
          have htl := name_len hnm
          have hback : backB y.c = tB y.c.tb ++ (rB y.c.row ++ (uB ya ++ uB yz)) := by
            unfold backB; rw [if_neg (by rw [HOP.out]; omega), hya, hyz]; rfl
          have hrl := row_len HCW.out.2.row r16
          have haz : ya ≤ 1099511627776 ∧ yz ≤ 1099511627776 := by omega
          obtain ⟨A1, hA1⟩ : ∃ A, S (tB y.c.tb) = A := ⟨_, rfl⟩
          obtain ⟨A2, hA2⟩ : ∃ A, S (rB y.c.row) = A := ⟨_, rfl⟩
          obtain ⟨A3, hA3⟩ : ∃ A, S (uB ya) = A := ⟨_, rfl⟩
          obtain ⟨A4, hA4⟩ : ∃ A, S (uB yz) = A := ⟨_, rfl⟩
          have l1 : A1.size ≤ 100 := by rw [← hA1, S_size]; have := uB_ten y.c.tb.length (by omega); unfold tB; rw [List.length_append]; omega
          have l2 : A2.size ≤ 65800 := by rw [← hA2, S_size]; exact hrl
          have l3 : A3.size ≤ 10 := by rw [← hA3, S_size]; exact uB_ten ya (by omega)
          have l4 : A4.size ≤ 10 := by rw [← hA4, S_size]; exact uB_ten yz (by omega)
          have HA1 := hidm hA1
          have HA2 := hidm hA2
          have HA3 := hidm hA3
          have HA4 := hidm hA4
          have HNX := hidm (show B ++ A0 ++ A1 ++ A2 ++ A3 ++ A4 = S (preT x.tx (i + 1)) from by
            rw [HBA.out, ← hA1, ← hA2, ← hA3, ← hA4, S_append, S_append, S_append, S_append, HPS.out, hback]; simp)
          have HNZ := hidm (show (B ++ A0 ++ A1 ++ A2 ++ A3 ++ A4).size ≤ 10000000 from by
            rw [HNX.out, S_size, HPS.out]; exact HPL2.out)
          have m1 : ¬ 9223372036854775807 < B.size + A0.size + A1.size := by omega
          have m2 : ¬ 9223372036854775807 < B.size + A0.size + A1.size + A2.size := by omega
          have m3 : ¬ 9223372036854775807 < B.size + A0.size + A1.size + A2.size + A3.size := by omega
          have m4 : ¬ 9223372036854775807 < B.size + A0.size + A1.size + A2.size + A3.size + A4.size := by omega
          have HTL := hidm (show y.c.tb.length ≤ 281474976710656 from by omega)
          have HYW := hidm HCW.out.2.row
          have HYR := hidm (show y.c.row.length ≤ 1000000 from by omega)
          have HAZ := hidm haz
          have hwa : IntKind.u64.wrap (ya : Int) = ya := by simp only [IntKind.wrap_u64]; omega
          have hwz : IntKind.u64.wrap (yz : Int) = yz := by simp only [IntKind.wrap_u64]; omega
          have f3 : ((op : Int) == 3) = false := by simp; omega
          have e0 := HM2.out.c0
          rw [HOP.out] at e0
          have e1 := HM2.out.c1
          have e2 := HM2.out.c2
          have e3 := HM2.out.c3
          have e4 := HM2.out.c4
          rw [hya] at e3
          rw [hyz] at e4
          have SS0 := hidm (show w2.cell? ⟨wr.heap.size, 1, none⟩ = some (.string (S y.c.tb)) ∧ w2.cell? ⟨wr.heap.size, 2, none⟩ = some (.slice y.ro y.c.row.length y.rc) ∧ w2.cell? ⟨wr.heap.size, 3, none⟩ = some (.int .i64 (ya : Int)) ∧ w2.cell? ⟨wr.heap.size, 4, none⟩ = some (.int .i64 (yz : Int)) ∧ Below w2.heap.size w2 w2 ∧ w2.heap.size ≤ w2.heap.size from ⟨e1, e2, e3, e4, Below.refl _ _, Nat.le_refl _⟩)
          clear hrowc hnm r1 r16 a0 az z1 hya hyz htl hback hrl haz hA1 hA2 hA3 hA4 l1 l2 l3 l4 e1 e2 e3 e4 h3
          go_wp2_with fail
          refine wp_region_held_drew (S := fun u => u.cell? ⟨wr.heap.size, 1, none⟩ = some (.string (S y.c.tb)) ∧ u.cell? ⟨wr.heap.size, 2, none⟩ = some (.slice y.ro y.c.row.length y.rc) ∧ u.cell? ⟨wr.heap.size, 3, none⟩ = some (.int .i64 (ya : Int)) ∧ u.cell? ⟨wr.heap.size, 4, none⟩ = some (.int .i64 (yz : Int)) ∧ Below w2.heap.size w2 u ∧ w2.heap.size ≤ u.heap.size) (by kernel_rfl) ?_ (fun hHeld => ?_)
          · exact b11_step SS0.out ((Below.refl _ _).drew)
          refine Man.take1 (i := 0) (v := ?_) rfl (by kernel_rfl) (by kernel_rfl) (by kernel_rfl) (fun _ _ _ h => h) (by rfl) ?_ (by assumption) ?_
          rotate_left
          · (intro u hSu; (try dsimp only at hSu); go_simp; (try with_reducible rfl))
          (try simp only [Act.put, List.setIfInBounds_toArray, List.set_cons_zero, List.set_cons_succ])
          refine Man.take1 (i := 1) (v := ?_) rfl (by kernel_rfl) (by kernel_rfl) (by kernel_rfl) (fun _ _ _ h => h) (by rfl) ?_ (by assumption) ?_
          rotate_left
          · (intro u hSu; (try dsimp only at hSu); go_simp; (try with_reducible rfl))
          (try simp only [Act.put, List.setIfInBounds_toArray, List.set_cons_zero, List.set_cons_succ])
          refine Man.take1 (i := 2) (v := ?_) rfl (by kernel_rfl) (by kernel_rfl) (by kernel_rfl) (fun _ _ _ h => h) (by rfl) ?_ (by assumption) ?_
          rotate_left
          · (intro u hSu; (try dsimp only at hSu); go_simp; (try with_reducible rfl))
          (try simp only [Act.put, List.setIfInBounds_toArray, List.set_cons_zero, List.set_cons_succ])
          refine Man.take1 (i := 5) (v := ?_) rfl (by kernel_rfl) (by kernel_rfl) (by kernel_rfl) (fun _ _ _ h => h) (by rfl) ?_ (by assumption) ?_
          rotate_left
          · (intro u hSu; (try dsimp only at hSu); go_simp; (try with_reducible rfl))
          (try simp only [Act.put, List.setIfInBounds_toArray, List.set_cons_zero, List.set_cons_succ])
          refine Man.take1 (i := 6) (v := ?_) rfl (by kernel_rfl) (by kernel_rfl) (by kernel_rfl) (fun _ _ _ h => h) (by rfl) ?_ (by assumption) ?_
          rotate_left
          · (intro u hSu; (try dsimp only at hSu); go_simp; (try with_reducible rfl))
          (try simp only [Act.put, List.setIfInBounds_toArray, List.set_cons_zero, List.set_cons_succ])
          refine Man.take1 (i := 9) (v := ?_) rfl (by kernel_rfl) (by kernel_rfl) (by kernel_rfl) (fun _ _ _ h => h) (by rfl) ?_ (by assumption) ?_
          rotate_left
          · (intro u hSu; (try dsimp only at hSu); go_simp; (try with_reducible rfl))
          (try simp only [Act.put, List.setIfInBounds_toArray, List.set_cons_zero, List.set_cons_succ])
          refine Man.take1 (i := 10) (v := ?_) rfl (by kernel_rfl) (by kernel_rfl) (by kernel_rfl) (fun _ _ _ h => h) (by rfl) ?_ (by assumption) ?_
          rotate_left
          · (intro u hSu; (try dsimp only at hSu); go_simp; (try with_reducible rfl))
          (try simp only [Act.put, List.setIfInBounds_toArray, List.set_cons_zero, List.set_cons_succ])
          refine Man.take1 (i := 11) (v := ?_) rfl (by kernel_rfl) (by kernel_rfl) (by kernel_rfl) (fun _ _ _ h => h) (by rfl) ?_ (by assumption) ?_
          rotate_left
          · (intro u hSu; (try dsimp only at hSu); go_simp; (try with_reducible rfl))
          (try simp only [Act.put, List.setIfInBounds_toArray, List.set_cons_zero, List.set_cons_succ])
          refine Man.take1 (i := 12) (v := ?_) rfl (by kernel_rfl) (by kernel_rfl) (by kernel_rfl) (fun _ _ _ h => h) (by rfl) ?_ (by assumption) ?_
          rotate_left
          · (intro u hSu; (try dsimp only at hSu); go_simp; (try with_reducible rfl))
          (try simp only [Act.put, List.setIfInBounds_toArray, List.set_cons_zero, List.set_cons_succ])
          refine Man.take1 (i := 15) (v := ?_) rfl (by kernel_rfl) (by kernel_rfl) (by kernel_rfl) (fun _ _ _ h => h) (by rfl) ?_ (by assumption) ?_
          rotate_left
          · (intro u hSu; (try dsimp only at hSu); go_simp; (try with_reducible rfl))
          (try simp only [Act.put, List.setIfInBounds_toArray, List.set_cons_zero, List.set_cons_succ])
          refine Man.take1 (i := 16) (v := ?_) rfl (by kernel_rfl) (by kernel_rfl) (by kernel_rfl) (fun _ _ _ h => h) (by rfl) ?_ (by assumption) ?_
          rotate_left
          · (intro u hSu; (try dsimp only at hSu); go_simp; (try with_reducible rfl))
          (try simp only [Act.put, List.setIfInBounds_toArray, List.set_cons_zero, List.set_cons_succ])
          refine Man.take1 (i := 17) (v := ?_) rfl (by kernel_rfl) (by kernel_rfl) (by kernel_rfl) (fun _ _ _ h => h) (by rfl) ?_ (by assumption) ?_
          rotate_left
          · (intro u hSu; (try dsimp only at hSu); go_simp; (try with_reducible rfl))
          (try simp only [Act.put, List.setIfInBounds_toArray, List.set_cons_zero, List.set_cons_succ])
          refine Man.take1 (i := 18) (v := ?_) rfl (by kernel_rfl) (by kernel_rfl) (by kernel_rfl) (fun _ _ _ h => h) (by rfl) ?_ (by assumption) ?_
          rotate_left
          · (intro u hSu; (try dsimp only at hSu); go_simp; (try with_reducible rfl))
          (try simp only [Act.put, List.setIfInBounds_toArray, List.set_cons_zero, List.set_cons_succ])
          refine Man.one (i := 3) rfl (by kernel_rfl) (fun K hK => ?_)
          go_simp
          (go_at_call 35; (with_reducible refine (rtext_is HA1.out HTL.out _).mono ?_); rintro e w' ⟨rfl, hb⟩)
          refine hK.out _ _ ?_ (fun hNew => ?_)
          · exact b11_step hHeld hb
          clear hHeld hK K hb
          have hHeld := hNew
          clear hNew
          (try simp only [Act.put, List.setIfInBounds_toArray, List.set_cons_zero, List.set_cons_succ])
          refine Man.take1 (i := 4) (v := ?_) rfl (by kernel_rfl) (by kernel_rfl) (by kernel_rfl) (fun _ _ _ h => h) (by rfl) ?_ (by assumption) ?_
          rotate_left
          · (intro u hSu; (try dsimp only at hSu); go_simp; (try with_reducible rfl))
          (try simp only [Act.put, List.setIfInBounds_toArray, List.set_cons_zero, List.set_cons_succ])
          refine Man.one (i := 7) rfl (by kernel_rfl) (fun K hK => ?_)
          go_simp
          (go_at_call 37; (with_reducible refine (rrow2_is HA2.out _ HYW.out HYR.out _ (row_of (HYI.out.r.later (HM2.out.below.trans (hHeld.2.2.2.2.1.mono HM2.out.below.size))))).mono ?_); rintro e w' ⟨rfl, hb⟩)
          refine hK.out _ _ ?_ (fun hNew => ?_)
          · exact b11_step hHeld hb
          clear hHeld hK K hb
          have hHeld := hNew
          clear hNew
          (try simp only [Act.put, List.setIfInBounds_toArray, List.set_cons_zero, List.set_cons_succ])
          refine Man.take1 (i := 8) (v := ?_) rfl (by kernel_rfl) (by kernel_rfl) (by kernel_rfl) (fun _ _ _ h => h) (by rfl) ?_ (by assumption) ?_
          rotate_left
          · (intro u hSu; (try dsimp only at hSu); go_simp; (try with_reducible rfl))
          (try simp only [Act.put, List.setIfInBounds_toArray, List.set_cons_zero, List.set_cons_succ])
          refine Man.one (i := 13) rfl (by kernel_rfl) (fun K hK => ?_)
          go_simp
          (go_at_call 34; (with_reducible refine (ruint_is HA3.out (by have := HAZ.out; omega) _).mono ?_); rintro e w' ⟨rfl, hb⟩)
          refine hK.out _ _ ?_ (fun hNew => ?_)
          · exact b11_step hHeld hb
          clear hHeld hK K hb
          have hHeld := hNew
          clear hNew
          (try simp only [Act.put, List.setIfInBounds_toArray, List.set_cons_zero, List.set_cons_succ])
          refine Man.take1 (i := 14) (v := ?_) rfl (by kernel_rfl) (by kernel_rfl) (by kernel_rfl) (fun _ _ _ h => h) (by rfl) ?_ (by assumption) ?_
          rotate_left
          · (intro u hSu; (try dsimp only at hSu); go_simp; (try with_reducible rfl))
          (try simp only [Act.put, List.setIfInBounds_toArray, List.set_cons_zero, List.set_cons_succ])
          refine Man.one (i := 19) rfl (by kernel_rfl) (fun K hK => ?_)
          go_simp
          (go_at_call 34; (with_reducible refine (ruint_is HA4.out (by have := HAZ.out; omega) _).mono ?_); rintro e w' ⟨rfl, hb⟩)
          refine hK.out _ _ ?_ (fun hNew => ?_)
          · exact b11_step hHeld hb
          clear hHeld hK K hb
          have hHeld := hNew
          clear hNew
          (try simp only [Act.put, List.setIfInBounds_toArray, List.set_cons_zero, List.set_cons_succ])
          refine Man.take1 (i := 20) (v := ?_) rfl (by kernel_rfl) (by kernel_rfl) (by kernel_rfl) (fun _ _ _ h => h) (by rfl) ?_ (by assumption) ?_
          rotate_left
          · (intro u hSu; (try dsimp only at hSu); go_simp; (try with_reducible rfl))
          (try simp only [Act.put, List.setIfInBounds_toArray, List.set_cons_zero, List.set_cons_succ])
          refine Man.take1 (i := 21) (v := ?_) rfl (by kernel_rfl) (by kernel_rfl) (by kernel_rfl) (fun _ _ _ h => h) (by rfl) ?_ (by assumption) ?_
          rotate_left
          · (intro u hSu; (try dsimp only at hSu); go_simp; (try with_reducible rfl))
          (try simp only [Act.put, List.setIfInBounds_toArray, List.set_cons_zero, List.set_cons_succ])
          refine wpAnyH_done (by kernel_rfl) ?_ _
          obtain ⟨_, _, _, _, hqb, hqz⟩ := hHeld
          have HM3 := hidm (HM2.out.then hqb)
          clear hqb hqz SS0 m1 m2 m3 m4 hwa hwz e0 f3
          go_wp2_with fail
          go_roundw
          case rel => exact ⟨i + 1, _, by go_num, rfl, by omega, HNZ.out, HNX, hidm (HB.out.then HM3.out.below)⟩
          case measure => simp [intOf]; omega
      · have f1 : ¬ (i : Int) < n := by omega
        obtain rfl : i = n := by omega
        have HBT := hidm (show B = S (bodyT x.tx) from by
          rw [HP.out]; unfold bodyT
          rw [show x.tx.chs.length = i from by rw [HN.out]; show (x.l.map M.c).length = _; simp])
        have hsz : B.size = (bodyT x.tx).length := by rw [HBT.out, S_size]
        by_cases h5 : B.size ≤ 100000
        · have HAF := hidm (show A = bodyT x.tx from by rw [HAE.out, if_pos (by omega)])
          have f5 : ¬ (100000 : Int) < (B.size : Int) := by omega
          clear hsz h5
          go_wp2_with fail
          go_ret
          exact ⟨congrArg (fun q => Ending.returned (.string q)) (by rw [HBT.out, HAF.out]), HB.out.below⟩
        · have HAF := hidm (show A = [] from by rw [HAE.out, if_neg (by omega)])
          have f5 : (100000 : Int) < (B.size : Int) := by omega
          clear hsz h5
          go_wp2_with fail
          go_ret
          exact ⟨congrArg (fun q => Ending.returned (.string q)) (by rw [HAF.out]), HB.out.below⟩
set_option maxHeartbeats 4000000 in
set_option maxRecDepth 100000 in
theorem rfour_any (n : Nat) (hn : n ≤ 100000) (w : World) :
    Calls Tryz.prog 40 #[.int .i64 n] w fun e w' => e = .returned (.string (S (four4 n))) ∧ Below w.heap.size w w' := by
  have hwn : IntKind.u64.wrap (n : Int) = n := by simp only [IntKind.wrap_u64]; omega
  obtain ⟨A, hA⟩ : ∃ A, S (eB n) = A := ⟨_, rfl⟩
  have R := Wr.reight_any n (by omega) w
  rw [hA] at R
  have hsz : A.size = 8 := by rw [← hA]; rfl
  have hex : A.extract 4 8 = S (four4 n) := by
    rw [← hA]
    apply ByteArray.ext
    apply Array.toList_inj.1
    rw [ByteArray.data_extract, Array.toList_extract, List.extract_eq_take_drop]
    show ((eB n).drop 4).take 4 = four4 n
    rw [eB_four]; rfl
  have HEX := hidm hex
  clear hA hex
  go_enter Tryz.func40, Tryz.ntmps40
  go_wp2_with fail
  refine R.mono ?_
  rintro e w1 ⟨rfl, hb⟩
  have HB := hidm hb
  clear hb
  go_wp2_with fail
  go_ret
  exact ⟨congrArg (fun q => Ending.returned (.string q)) HEX.out, HB.out⟩
set_option maxHeartbeats 4000000 in
set_option maxRecDepth 100000 in
theorem rencode6_is {x : X} {A : List UInt8} (hA : encT x.tx = A) (hl : ∀ c ∈ x.l, ChLim c.c) (hd : ∀ c ∈ x.l, Lim c.c.df) (hv : ∀ c ∈ x.l, ∀ v ∈ c.c.row, v.b < 18446744073709551616) (hw : txB x.tx = true → x.tx.wf) (w : World) (hin : x.In w) :
    Calls Tryz.prog 14 #[.agg #[.int .i64 x.seq, .int .i64 x.tm, .slice x.co x.l.length x.cc]] w fun e w' => e = .returned (.string (S A)) ∧ Below w.heap.size w w' := by
  have HS0 := hidm (BoxX.start x w)
  obtain ⟨b, hb0⟩ : ∃ b, bodyR x.tx = b := ⟨_, rfl⟩
  have R := rbody_is hb0 hl hd hv hw _ (hin.later HS0.out.below)
  have hbl : b.length ≤ 100000 := by rw [← hb0]; exact bodyR_len _
  have hAA : A = if b = [] then [] else four4 b.length ++ Crc.put b := by rw [← hA]; unfold encT; rw [hb0]
  have HAA := hidm hAA
  have t1 : b.toArray.size = b.length := by simp
  have RF := hidm (fun w => rfour_any b.length hbl w)
  have RP := hidm (show ∀ w : World, Calls Tryz.prog 41 #[.string (S b)] w fun e w' => e = .returned (.string (S (Crc.put (S b).data.toList))) ∧ Below w.heap.size w w' from fun w => Crc.rput_any (S b) (by rw [S_size]; omega) w)
  have hls : (S b).data.toList = b := S_list b
  rw [hls] at RP
  clear hA hb0 hl hd hv hw hin hAA hls
  by_cases h0 : b = []
  · subst h0
    go_enter Tryz.func14, Tryz.ntmps14
    go_wp2_with fail
    refine R.mono ?_
    rintro e w1 ⟨rfl, hb⟩
    have HS1 := hidm (HS0.out.then hb)
    clear hb
    go_wp2_with fail
    go_ret
    exact ⟨congrArg (fun q => Ending.returned (.string q)) (by rw [HAA.out]; rfl), HS1.out.below⟩
  · have f1 : (b == []) = false := by simpa using h0
    have HA2 := hidm (show A = four4 b.length ++ Crc.put b from by rw [HAA.out, if_neg h0])
    obtain ⟨P, hP⟩ : ∃ P, P = S (Crc.put b) := ⟨_, rfl⟩
    rw [← hP] at RP
    have hPs : P.size = b.length + 4 := by rw [hP, S_size, Crc.put_len]
    obtain ⟨Q, hQ⟩ : ∃ Q, Q = S (four4 b.length) := ⟨_, rfl⟩
    rw [← hQ] at RF
    have hQs : Q.size = 4 := by rw [hQ]; rfl
    have HPQ := hidm (show Q ++ P = S A from by rw [hQ, hP, HA2.out, S_append])
    have m1 : ¬ 9223372036854775807 < Q.size + P.size := by omega
    have m2 : ¬ 9223372036854775807 < 4 + (b.length + 4) := by omega
    clear hP hQ h0
    go_enter Tryz.func14, Tryz.ntmps14
    go_wp2_with fail
    refine R.mono ?_
    rintro e w1 ⟨rfl, hb⟩
    have HS1 := hidm (HS0.out.then hb)
    clear hb
    go_wp2_with fail
    refine (RF.out _).mono ?_
    rintro e w2 ⟨rfl, hb⟩
    have HS2 := hidm (HS1.out.then hb)
    clear hb
    go_wp2_with fail
    refine (RP.out _).mono ?_
    rintro e w3 ⟨rfl, hb⟩
    have HS3 := hidm (HS2.out.then hb)
    clear hb
    go_wp2_with fail
    go_ret
    exact ⟨congrArg (fun q => Ending.returned (.string q)) HPQ.out, HS3.out.below⟩
end Frm
end Go.Proofs.YtopmbhpjdmcabaaGreat
