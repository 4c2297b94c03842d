/- FrameOne is proved: for every text and transaction the law returns true and its arguments read as they did. No other condition. -/
import Derived.Test.YtopmbhpjdmcabaaGm
import Derived.Test.YtopmbhpjdmcabaaGo
import Derived.Test.YtopmbhpjdmcabaaGc
import Derived.Test.YtopmbhpjdmcabaaFra
import Derived.WideKeyPair
import Derived.SizedLaws
namespace Go.Proofs.Ytopmbhpjdmcabaa
open Go.ChangeShapes Go.WideShapes Go.ChangeAt Go.RowKit
open Go.ChangeMaps (open_string shut_string)
namespace LaFrameOne
open Cod Sch Frm
set_option maxHeartbeats 4000000 in
set_option maxRecDepth 100000 in
theorem skip_long (l : List UInt8) (x : X) (hi : InnX x) (hl : 1000 < l.length) (w : World) (hin : x.In w) :
    Calls Try.prog 7 #[.string (S l), .agg #[.int .i64 x.seq, .int .i64 x.tm, .slice x.co x.l.length x.cc]] w fun e w' => e = .returned (.bool true) ∧ Below w.heap.size w w' := by
  have HIN := hidm hin
  have HI := hidm hi
  have HS0 := hidm (BoxX.start x w)
  have f1 : (1000 : Int) < (l.length : Int) := by omega
  have f2 : l.toArray.size = l.length := by simp
  clear hin hi hl
  go_enter Try.func7, Try.ntmps7
  go_wp2_with fail
  refine (known_any _).mono ?_
  rintro e w1 ⟨rfl, hb⟩
  have HS1 := hidm (HS0.out.then hb)
  clear hb
  go_wp2_with fail
  go_ret
  exact ⟨rfl, HS1.out.below⟩
set_option maxHeartbeats 4000000 in
set_option maxRecDepth 100000 in
theorem skip_any (l : List UInt8) (x : X) (hi : InnX x) (hl : l.length ≤ 1000) (hx : litB x.l = false) (w : World) (hin : x.In w) :
    Calls Try.prog 7 #[.string (S l), .agg #[.int .i64 x.seq, .int .i64 x.tm, .slice x.co x.l.length x.cc]] w fun e w' => e = .returned (.bool true) ∧ Below w.heap.size w w' := by
  have HIN := hidm hin
  have HI := hidm hi
  have HS0 := hidm (BoxX.start x w)
  have f1 : ¬ (1000 : Int) < (l.length : Int) := by omega
  have f2 : l.toArray.size = l.length := by simp
  have CL := hidm (fun (w1 : World) (h1 : Below w.heap.size w w1) => light_any x w1 (hin.later h1) hi)
  rw [hx] at CL
  clear hin hi hl hx
  go_enter Try.func7, Try.ntmps7
  go_wp2_with fail
  refine (CL.out _ HS0.out.below).mono ?_
  rintro e w1 ⟨rfl, hb⟩
  have HS1 := hidm (HS0.out.then hb)
  clear hb
  go_wp2_with fail
  refine (known_any _).mono ?_
  rintro e w2 ⟨rfl, hb⟩
  have HS2 := hidm (HS1.out.then hb)
  clear hb
  go_wp2_with fail
  go_ret
  exact ⟨rfl, HS2.out.below⟩
set_option maxHeartbeats 4000000 in
set_option maxRecDepth 100000 in
theorem nil_any (l : List UInt8) (x : X) (hi : InnX x) (hl : l.length ≤ 1000) (hx : litB x.l = true) (he : encT x.tx = []) (w : World) (hin : x.In w) :
    Calls Try.prog 7 #[.string (S l), .agg #[.int .i64 x.seq, .int .i64 x.tm, .slice x.co x.l.length x.cc]] w fun e w' => e = .returned (.bool true) ∧ Below w.heap.size w w' := by
  have HIN := hidm hin
  have HI := hidm hi
  have HS0 := hidm (BoxX.start x w)
  have f1 : ¬ (1000 : Int) < (l.length : Int) := by omega
  have f2 : l.toArray.size = l.length := by simp
  have CL := hidm (fun (w1 : World) (h1 : Below w.heap.size w w1) => light_any x w1 (hin.later h1) hi)
  rw [hx] at CL
  have HLX := lit_x hx hi
  have CE := fun (w1 : World) (h1 : Below w.heap.size w w1) => fenc_any HLX.n HLX.lm HLX.wf w1 (hin.later h1)
  have CB := hidm (fun (w1 : World) (h1 : Below w.heap.size w w1) => bodyr_any HLX.n HLX.lm HLX.wf w1 (hin.later h1))
  obtain ⟨E, hE⟩ : ∃ E, E = encT x.tx := ⟨_, rfl⟩
  rw [← hE] at CE
  have CEE := hidm CE
  have hEl : E.length ≤ 100008 := by
    rw [hE]; unfold encT; split
    · simp
    · have := bodyR_len x.tx
      rw [List.length_append, Crc.put_len]; show 4 + _ ≤ _; omega
  have N1 := hidm (fun w => next_any (S l) (by rw [S_size]; omega) w)
  have N2 := hidm (fun w => next_any (S E ++ S l) (by rw [ByteArray.size_append, S_size, S_size]; omega) w)
  have P1 := hidm (fun w => split_any (S l) (by rw [S_size]; omega) w)
  have P2 := hidm (fun w => split_any (S E ++ S l) (by rw [ByteArray.size_append, S_size, S_size]; omega) w)
  have hcat : (S E ++ S l).data.toList = E ++ l := by simp [S]
  have hlist : (S l).data.toList = l := S_list l
  rw [hcat] at N2 P2
  rw [hlist] at N1 P1
  obtain ⟨a1, n1, e1, hN1⟩ : ∃ a n e, nextB l = (a, n, e) := ⟨_, _, _, rfl⟩
  obtain ⟨xs, y1, z1, hP1⟩ : ∃ a n e, splitB l = (a, n, e) := ⟨_, _, _, rfl⟩
  rw [hN1] at N1
  have HP1 := hidm hP1
  have hy1 : y1 ≤ l.length := by have := split_le l.length l (Nat.le_refl _); rw [hP1] at this; exact this
  have hA : e1 = 0 → n1 = a1.length + 8 ∧ n1 ≤ l.length ∧ (l.drop 4).take (n1 - 8) = a1 := fun h => by
    have := next_len (s := l) (by rw [hN1]; exact h)
    rw [hN1] at this
    exact ⟨this.1, this.2.1, this.2.2.1⟩
  have hB : e1 ≠ 0 → a1 = [] ∧ n1 = 0 := fun h => by
    have := next_err (s := l) (by rw [hN1]; exact h)
    rw [hN1] at this
    exact this
  have hE0 : E = [] := hE.trans he
  have RX := hidm (fun (w1 : World) (h1 : Below w.heap.size w w1) => txright_is (lit_none hx hi he) HLX.n HLX.lm w1 (hin.later h1))
  obtain ⟨xs2, y2, z2, hP2⟩ : ∃ a n e, splitB (E ++ l) = (a, n, e) := ⟨_, _, _, rfl⟩
  have HP2 := hidm hP2
  clear hP1 hP2 hin hi hl hx he HLX CE hE hEl hy1 CB HI HIN
  subst hE0
  rcases Decidable.em (e1 = 0) with h0 | h0
  · subst h0
    obtain ⟨hn1, hnl, htk⟩ := hA rfl
    subst hn1
    have hal : a1.length ≤ 1000 := by omega
    have hex : ((S l).extract 4 (a1.length + 4)).toList = a1 := by
      rw [ByteArray.toList_eq, ByteArray.data_extract, Array.toList_extract, hlist]
      simpa [List.extract_eq_take_drop] using htk
    have g0 : a1.toArray.size = a1.length := by simp
    have g1 : wrap64 ((a1.length : Int) + 8) = (a1.length : Int) + 8 := by unfold wrap64; omega
    have g4 : wrap64 ((a1.length : Int) + 8 - 4) = (a1.length : Int) + 8 - 4 := by unfold wrap64; omega
    have g5 : ((a1.length + 8 : Nat) : Int) ≤ (l.length : Int) := by omega
    clear hA hB htk hcat hlist hnl
    go_enter Try.func7, Try.ntmps7
    go_wp2_with fail
    refine (CL.out _ HS0.out.below).mono ?_
    rintro e w1 ⟨rfl, hb⟩
    have HS1 := hidm (HS0.out.then hb)
    clear hb
    have c0 := HS1.out.c0
    have c1 := HS1.out.c1
    have c2 := HS1.out.c2
    go_wp2_with fail
    refine (CEE.out _ HS1.out.below).mono ?_
    rintro e w2 ⟨rfl, hb⟩
    have HS2 := hidm (HS1.out.then hb)
    clear hb
    clear c0 c1 c2
    go_wp2_with fail
    refine (N1.out _).mono ?_
    rintro e w3 ⟨rfl, hb⟩
    have HS3 := hidm (HS2.out.then hb)
    clear hb
    go_wp2_with fail
    refine (N2.out _).mono ?_
    rintro e w4 ⟨rfl, hb⟩
    have HS4 := hidm (HS3.out.then hb)
    clear hb
    go_wp2_with fail
    refine (P2.out _).mono ?_
    rintro e w5 ⟨po, pc, he, hst, hb⟩
    rw [HP2.out] at he hst
    subst he
    obtain ⟨_, _, hsv, hlc5, hcm5, _⟩ := hst
    have HS5 := hidm (HS4.out.then hb)
    clear hb hsv
    go_wp2_with fail
    refine (P1.out _).mono ?_
    rintro e w6 ⟨qo, qc, he, hst, hb⟩
    rw [HP1.out] at he hst
    subst he
    obtain ⟨_, _, hsv, hlc, hcm, _⟩ := hst
    have HS6 := hidm (HS5.out.then hb)
    clear hb hsv
    clear hlc hcm hlc5 hcm5
    have c0 := HS6.out.c0
    have c1 := HS6.out.c1
    have c2 := HS6.out.c2
    go_wp2_with fail
    refine (RX.out _ HS6.out.below).mono ?_
    rintro e w7 ⟨rfl, hb⟩
    have HS7 := hidm (HS6.out.then hb)
    clear hb
    clear c0 c1 c2
    go_wp2_with fail
    refine (known_any _).mono ?_
    rintro e w8 ⟨rfl, hb⟩
    have HS8 := hidm (HS7.out.then hb)
    clear hb
    go_wp2_with fail
    go_ret
    exact ⟨rfl, HS8.out.below⟩
  · obtain ⟨hn1, hn2⟩ := hB h0
    subst hn1 hn2
    have g1 : (e1 == 0) = false := by simpa using h0
    have g2 : (e1 != 0) = true := by simpa using h0
    clear hA hB hcat hlist h0
    go_enter Try.func7, Try.ntmps7
    go_wp2_with fail
    refine (CL.out _ HS0.out.below).mono ?_
    rintro e w1 ⟨rfl, hb⟩
    have HS1 := hidm (HS0.out.then hb)
    clear hb
    have c0 := HS1.out.c0
    have c1 := HS1.out.c1
    have c2 := HS1.out.c2
    go_wp2_with fail
    refine (CEE.out _ HS1.out.below).mono ?_
    rintro e w2 ⟨rfl, hb⟩
    have HS2 := hidm (HS1.out.then hb)
    clear hb
    clear c0 c1 c2
    go_wp2_with fail
    refine (N1.out _).mono ?_
    rintro e w3 ⟨rfl, hb⟩
    have HS3 := hidm (HS2.out.then hb)
    clear hb
    go_wp2_with fail
    refine (N2.out _).mono ?_
    rintro e w4 ⟨rfl, hb⟩
    have HS4 := hidm (HS3.out.then hb)
    clear hb
    go_wp2_with fail
    refine (P2.out _).mono ?_
    rintro e w5 ⟨po, pc, he, hst, hb⟩
    rw [HP2.out] at he hst
    subst he
    obtain ⟨_, _, hsv, hlc5, hcm5, _⟩ := hst
    have HS5 := hidm (HS4.out.then hb)
    clear hb hsv
    go_wp2_with fail
    refine (P1.out _).mono ?_
    rintro e w6 ⟨qo, qc, he, hst, hb⟩
    rw [HP1.out] at he hst
    subst he
    obtain ⟨_, _, hsv, hlc, hcm, _⟩ := hst
    have HS6 := hidm (HS5.out.then hb)
    clear hb hsv
    clear hlc hcm hlc5 hcm5
    have c0 := HS6.out.c0
    have c1 := HS6.out.c1
    have c2 := HS6.out.c2
    go_wp2_with fail
    refine (RX.out _ HS6.out.below).mono ?_
    rintro e w7 ⟨rfl, hb⟩
    have HS7 := hidm (HS6.out.then hb)
    clear hb
    clear c0 c1 c2
    go_wp2_with fail
    refine (known_any _).mono ?_
    rintro e w8 ⟨rfl, hb⟩
    have HS8 := hidm (HS7.out.then hb)
    clear hb
    go_wp2_with fail
    go_ret
    exact ⟨rfl, HS8.out.below⟩
set_option maxHeartbeats 4000000 in
set_option maxRecDepth 100000 in
theorem main_any (l : List UInt8) (x : X) (hi : InnX x) (hl : l.length ≤ 1000) (hx : litB x.l = true) (he : encT x.tx ≠ []) (w : World) (hin : x.In w) :
    Calls Try.prog 7 #[.string (S l), .agg #[.int .i64 x.seq, .int .i64 x.tm, .slice x.co x.l.length x.cc]] w fun e w' => e = .returned (.bool true) ∧ Below w.heap.size w w' := by
  have HIN := hidm hin
  have HI := hidm hi
  have HS0 := hidm (BoxX.start x w)
  have f1 : ¬ (1000 : Int) < (l.length : Int) := by omega
  have f2 : l.toArray.size = l.length := by simp
  have CL := hidm (fun (w1 : World) (h1 : Below w.heap.size w w1) => light_any x w1 (hin.later h1) hi)
  rw [hx] at CL
  have HLX := lit_x hx hi
  have CE := fun (w1 : World) (h1 : Below w.heap.size w w1) => fenc_any HLX.n HLX.lm HLX.wf w1 (hin.later h1)
  have CB := hidm (fun (w1 : World) (h1 : Below w.heap.size w w1) => bodyr_any HLX.n HLX.lm HLX.wf w1 (hin.later h1))
  obtain ⟨E, hE⟩ : ∃ E, E = encT x.tx := ⟨_, rfl⟩
  rw [← hE] at CE
  have CEE := hidm CE
  have hEl : E.length ≤ 100008 := by
    rw [hE]; unfold encT; split
    · simp
    · have := bodyR_len x.tx
      rw [List.length_append, Crc.put_len]; show 4 + _ ≤ _; omega
  have N1 := hidm (fun w => next_any (S l) (by rw [S_size]; omega) w)
  have N2 := hidm (fun w => next_any (S E ++ S l) (by rw [ByteArray.size_append, S_size, S_size]; omega) w)
  have P1 := hidm (fun w => split_any (S l) (by rw [S_size]; omega) w)
  have P2 := hidm (fun w => split_any (S E ++ S l) (by rw [ByteArray.size_append, S_size, S_size]; omega) w)
  have hcat : (S E ++ S l).data.toList = E ++ l := by simp [S]
  have hlist : (S l).data.toList = l := S_list l
  rw [hcat] at N2 P2
  rw [hlist] at N1 P1
  obtain ⟨a1, n1, e1, hN1⟩ : ∃ a n e, nextB l = (a, n, e) := ⟨_, _, _, rfl⟩
  obtain ⟨xs, y1, z1, hP1⟩ : ∃ a n e, splitB l = (a, n, e) := ⟨_, _, _, rfl⟩
  rw [hN1] at N1
  have HP1 := hidm hP1
  have hy1 : y1 ≤ l.length := by have := split_le l.length l (Nat.le_refl _); rw [hP1] at this; exact this
  have hA : e1 = 0 → n1 = a1.length + 8 ∧ n1 ≤ l.length ∧ (l.drop 4).take (n1 - 8) = a1 := fun h => by
    have := next_len (s := l) (by rw [hN1]; exact h)
    rw [hN1] at this
    exact ⟨this.1, this.2.1, this.2.2.1⟩
  have hB : e1 ≠ 0 → a1 = [] ∧ n1 = 0 := fun h => by
    have := next_err (s := l) (by rw [hN1]; exact h)
    rw [hN1] at this
    exact this
  obtain ⟨b, hbb, hbne, hbl, hbe, hbn, _⟩ := enc_form he
  rw [← hE] at hbe hbn
  have hP2 := split_frame (X := l) hbl
  have hN2 := next_frame (X := l) hbl
  rw [← hbe, hP1] at hP2
  rw [← hbe] at hN2
  rw [hN2] at N2
  rw [← hbb] at CB
  have HP2 := hidm hP2
  have f3 : (E == []) = false := by cases hEE : E with
    | nil => rw [hEE] at hbn; simp at hbn
    | cons _ _ => rfl
  obtain ⟨m, hm⟩ : ∃ m, m = b.length + 8 := ⟨_, rfl⟩
  have f0 : E.toArray.size = m := by simp [hbn, hm]
  obtain ⟨K, hK⟩ : ∃ K, K = m + y1 := ⟨_, rfl⟩
  rw [← hm] at N2 HP2
  rw [← hK] at HP2
  have f5 : wrap64 ((m : Int) + (y1 : Int)) = (K : Int) := by unfold wrap64; omega
  have f6 : m ≤ 100008 := by omega
  clear hP1 hP2 hN2 hin hi hl hx he HLX CE hE hEl hy1 hbb hbne hbe HI HIN hbn hm hK hbl
  rcases Decidable.em (e1 = 0) with h0 | h0
  · subst h0
    obtain ⟨hn1, hnl, htk⟩ := hA rfl
    subst hn1
    have hal : a1.length ≤ 1000 := by omega
    have hex : ((S l).extract 4 (a1.length + 4)).toList = a1 := by
      rw [ByteArray.toList_eq, ByteArray.data_extract, Array.toList_extract, hlist]
      simpa [List.extract_eq_take_drop] using htk
    have g0 : a1.toArray.size = a1.length := by simp
    have g1 : wrap64 ((a1.length : Int) + 8) = (a1.length : Int) + 8 := by unfold wrap64; omega
    have g4 : wrap64 ((a1.length : Int) + 8 - 4) = (a1.length : Int) + 8 - 4 := by unfold wrap64; omega
    have g5 : ((a1.length + 8 : Nat) : Int) ≤ (l.length : Int) := by omega
    clear hA hB htk hcat hlist hnl
    go_enter Try.func7, Try.ntmps7
    go_wp2_with fail
    refine (CL.out _ HS0.out.below).mono ?_
    rintro e w1 ⟨rfl, hb⟩
    have HS1 := hidm (HS0.out.then hb)
    clear hb
    have c0 := HS1.out.c0
    have c1 := HS1.out.c1
    have c2 := HS1.out.c2
    go_wp2_with fail
    refine (CEE.out _ HS1.out.below).mono ?_
    rintro e w2 ⟨rfl, hb⟩
    have HS2 := hidm (HS1.out.then hb)
    clear hb
    clear c0 c1 c2
    go_wp2_with fail
    refine (N1.out _).mono ?_
    rintro e w3 ⟨rfl, hb⟩
    have HS3 := hidm (HS2.out.then hb)
    clear hb
    go_wp2_with fail
    refine (N2.out _).mono ?_
    rintro e w4 ⟨rfl, hb⟩
    have HS4 := hidm (HS3.out.then hb)
    clear hb
    go_wp2_with fail
    refine (P2.out _).mono ?_
    rintro e w5 ⟨po, pc, he, hst, hb⟩
    rw [HP2.out] at he hst
    subst he
    obtain ⟨_, _, hsv, hlc5, hcm5, _⟩ := hst
    have HS5 := hidm (HS4.out.then hb)
    clear hb hsv
    go_wp2_with fail
    refine (P1.out _).mono ?_
    rintro e w6 ⟨qo, qc, he, hst, hb⟩
    rw [HP1.out] at he hst
    subst he
    obtain ⟨_, _, hsv, hlc, hcm, _⟩ := hst
    have HS6 := hidm (HS5.out.then hb)
    clear hb hsv
    have g7 : wrap64 ((xs.length : Int) + 1) = (xs.length : Int) + 1 := by
      have h := hlc5
      rw [List.length_cons] at h
      unfold wrap64; omega
    clear hlc hcm hlc5 hcm5
    have c0 := HS6.out.c0
    have c1 := HS6.out.c1
    have c2 := HS6.out.c2
    go_wp2_with fail
    refine (CB.out _ HS6.out.below).mono ?_
    rintro e w7 ⟨rfl, hb⟩
    have HS7 := hidm (HS6.out.then hb)
    clear hb
    clear c0 c1 c2
    go_wp2_with fail
    refine (known_any _).mono ?_
    rintro e w8 ⟨rfl, hb⟩
    have HS8 := hidm (HS7.out.then hb)
    clear hb
    go_wp2_with fail
    go_ret
    exact ⟨rfl, HS8.out.below⟩
  · obtain ⟨hn1, hn2⟩ := hB h0
    subst hn1 hn2
    have g1 : (e1 == 0) = false := by simpa using h0
    have g2 : (e1 != 0) = true := by simpa using h0
    clear hA hB hcat hlist h0
    go_enter Try.func7, Try.ntmps7
    go_wp2_with fail
    refine (CL.out _ HS0.out.below).mono ?_
    rintro e w1 ⟨rfl, hb⟩
    have HS1 := hidm (HS0.out.then hb)
    clear hb
    have c0 := HS1.out.c0
    have c1 := HS1.out.c1
    have c2 := HS1.out.c2
    go_wp2_with fail
    refine (CEE.out _ HS1.out.below).mono ?_
    rintro e w2 ⟨rfl, hb⟩
    have HS2 := hidm (HS1.out.then hb)
    clear hb
    clear c0 c1 c2
    go_wp2_with fail
    refine (N1.out _).mono ?_
    rintro e w3 ⟨rfl, hb⟩
    have HS3 := hidm (HS2.out.then hb)
    clear hb
    go_wp2_with fail
    refine (N2.out _).mono ?_
    rintro e w4 ⟨rfl, hb⟩
    have HS4 := hidm (HS3.out.then hb)
    clear hb
    go_wp2_with fail
    refine (P2.out _).mono ?_
    rintro e w5 ⟨po, pc, he, hst, hb⟩
    rw [HP2.out] at he hst
    subst he
    obtain ⟨_, _, hsv, hlc5, hcm5, _⟩ := hst
    have HS5 := hidm (HS4.out.then hb)
    clear hb hsv
    go_wp2_with fail
    refine (P1.out _).mono ?_
    rintro e w6 ⟨qo, qc, he, hst, hb⟩
    rw [HP1.out] at he hst
    subst he
    obtain ⟨_, _, hsv, hlc, hcm, _⟩ := hst
    have HS6 := hidm (HS5.out.then hb)
    clear hb hsv
    have g7 : wrap64 ((xs.length : Int) + 1) = (xs.length : Int) + 1 := by
      have h := hlc5
      rw [List.length_cons] at h
      unfold wrap64; omega
    clear hlc hcm hlc5 hcm5
    have c0 := HS6.out.c0
    have c1 := HS6.out.c1
    have c2 := HS6.out.c2
    go_wp2_with fail
    refine (CB.out _ HS6.out.below).mono ?_
    rintro e w7 ⟨rfl, hb⟩
    have HS7 := hidm (HS6.out.then hb)
    clear hb
    clear c0 c1 c2
    go_wp2_with fail
    refine (known_any _).mono ?_
    rintro e w8 ⟨rfl, hb⟩
    have HS8 := hidm (HS7.out.then hb)
    clear hb
    go_wp2_with fail
    go_ret
    exact ⟨rfl, HS8.out.below⟩
theorem law_any (s : ByteArray) (x : X) (hi : InnX x) (w : World) (hin : x.In w) :
    Calls Try.prog 7 #[.string s, .agg #[.int .i64 x.seq, .int .i64 x.tm, .slice x.co x.l.length x.cc]] w fun e w' => e = .returned (.bool true) ∧ Below w.heap.size w w' := by
  obtain ⟨l, hl⟩ : ∃ l, l = s.data.toList := ⟨_, rfl⟩
  have hs : s = S l := by rw [hl, S_of]
  subst hs
  rcases Nat.lt_or_ge 1000 l.length with h1 | h1
  · exact skip_long l x hi h1 w hin
  · rcases hx : litB x.l with _ | _
    · exact skip_any l x hi h1 hx w hin
    · rcases Decidable.em (encT x.tx = []) with he | he
      · exact nil_any l x hi h1 hx he w hin
      · exact main_any l x hi h1 hx he w hin
theorem laidOut : laidOutB Try.prog = true := by kernel_rfl
set_option maxRecDepth 100000 in
theorem contract (H : Type) (enc : TypeId × Value → H) (W : World) (base : Nat) (args : Array Value) (ds gs : List (DataW H)) (before : List MemPlace)
    (hval : ∀ (j : Nat) t v, Try.f7.params[j]? = some t → args[j]? = some v → Value.okWide Try.prog W .any base t v)
    (hW : DataW.Whole enc Try.prog Try.f7.params.toList Rows.frameOneSpec.vars false W args.toList ds gs before)
    (hsz0 : (DataW.weightsEach Try.prog (Try.f7.params.toList ++ Rows.frameOneSpec.plain.varTypes Try.prog) (ds ++ gs)).all (· ≤ reachBytes) = true) :
    Calls Try.prog 7 args W fun e W' => ∃ v, e = .returned v ∧ Rows.frameOneSpec.post enc Try.prog Try.f7 false true false false W args v W' := by
  have hW' := hW
  obtain ⟨p, q, hA0, hV, rfl, hfz, hnd⟩ := hW
  have hA : DataW.TrodAll enc Try.prog W 0 (fun _ => true) true Try.f7.params.toList args.toList ds p := hA0
  rw [Try.params7] at hA hval hsz0
  obtain ⟨v0, vs0, d0, ds0, p0, q0, hargs, rfl, rfl, h0, r0⟩ := trodAll_cons hA
  obtain ⟨v1, vs1, d1, ds1, p1, q1, rfl, rfl, rfl, h1, r1⟩ := trodAll_cons r0
  obtain ⟨rfl, rfl, rfl⟩ := trodAll_nil r1
  obtain rfl : args = #[v0, v1] := by cases args; simp_all
  obtain ⟨rfl, rfl⟩ := trodVars_none hV
  have hsz := fun n hn => of_decide_eq_true (List.all_eq_true.1 hsz0 n hn)
  obtain ⟨s, rfl, hd0, hp0, ws⟩ := open_string Try.underlying9 (hval 0 9 v0 rfl rfl) h0
  obtain ⟨x, rfl, hmx, hix⟩ := open_txn (hval 1 38 v1 rfl rfl) h1 (fun n hn => hsz n (DataW.weights_mem_each (j := 1) (t := 38) rfl rfl n hn))
  clear hA0 hsz0
  simp only [List.append_nil] at hW'
  have hlt : ∀ x ∈ p0 ++ p1, x.block < W.heap.size := fun x hx => hW'.lt x (by simpa using hx)
  have walk := law_any s x hix W hmx
  refine walk.mono fun e W' ⟨he, hg⟩ => ?_
  subst he
  refine ⟨_, rfl, Fr.post_made (pa := p0 ++ p1) (pv := []) hW' (fun _ _ _ => trodAll_cons_mk (shut_bool Try.underlying4 _) trodAll_mk0) (fun sp hsp => ?_) (fun _ _ => rfl) (by simp) hg (ok_one (by kernel_rfl) rfl (okWide_bool_mk Try.underlying4 _))⟩
  have g0 : DataW.Trod enc Try.prog W' 0 sp true 9 _ d0 p0 := WideElems.Trod_stays laidOut (by kernel_rfl) (of_decide_eq_true (by kernel_rfl)) h0 (fun x hx => hg.same (hlt x (by simp [hx]))) (fun x hx => hsp x (by simp [hx]))
  have g1 : DataW.Trod enc Try.prog W' 0 sp true 38 _ d1 p1 := WideElems.Trod_stays laidOut (by kernel_rfl) (of_decide_eq_true (by kernel_rfl)) h1 (fun x hx => hg.same (hlt x (by simp [hx]))) (fun x hx => hsp x (by simp [hx]))
  have hT := (trodAll_cons_mk g0 (trodAll_cons_mk g1 trodAll_mk0))
  simp only [List.append_nil] at hT
  exact hT
set_option maxRecDepth 100000 in
theorem lifted (os : Os) (started : os.Started) (H : Type) (enc : TypeId × Value → H) :
    ReturnsInHanded {} Try.checked os 7 .any (Rows.frameOneSpec.pre6 enc Try.prog Try.f7 Rows.frameOneRow.domain false) (Rows.frameOneSpec.post enc Try.prog Try.f7 false true false false) := by
  refine returnsInHanded_of_change_sized (C := Try.checked) Fr.own started (by kernel_rfl) Try.func7
    (ChangeSpec.witness6 (enc := enc) (C := Try.checked) false ⟨#[], #[.string ⟨#[]⟩, .agg #[.int .i64 0, .int .i64 0, .slice none 0 0]], []⟩ 8 (by kernel_rfl) (by kernel_rfl) (by kernel_rfl) (by kernel_rfl)) ?_
  intro W base args ds gs before hval hW _ hsz _
  exact contract H enc W base args ds gs before hval hW hsz
theorem said : Rows.FrameOneSaid :=
  OpenClaim.holds_of_wide 7 Try.f7 rfl rfl rfl rfl rfl rfl rfl ⟨rfl, rfl, rfl, rfl, rfl⟩ rfl rfl rfl rfl rfl (by kernel_rfl) Try.func7 (by kernel_rfl)
    (of_decide_eq_true (by kernel_rfl)) (by unfold Func.isWrapper; first | (rw [if_pos (by decide +kernel)]; kernel_rfl) | (rw [if_neg (by decide +kernel)]; exact ⟨rfl, rfl⟩))
    (fun os started H enc _ => lifted os started H enc)
end LaFrameOne
end Go.Proofs.Ytopmbhpjdmcabaa
