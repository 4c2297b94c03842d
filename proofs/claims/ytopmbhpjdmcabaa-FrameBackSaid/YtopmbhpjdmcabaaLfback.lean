/- FrameBack is proved: for every transaction and two texts the law returns true and its arguments read as they did. No other condition. -/
import Derived.Test.YtopmbhpjdmcabaaGm
import Derived.Test.YtopmbhpjdmcabaaGo
import Derived.Test.YtopmbhpjdmcabaaGp
import Derived.Test.YtopmbhpjdmcabaaGc
import Derived.Test.YtopmbhpjdmcabaaFra
import Derived.WideKeyPair
import Derived.SizedLaws
namespace Go.Proofs.Ytopmbhpjdmcabaa
open Go.ChangeShapes Go.WideShapes Go.ChangeAt Go.RowKit
open Go.ChangeMaps (open_string shut_string)
namespace LaFrameBack
open Cod Sch Frm
theorem dec_same {u : X} {l : List UInt8} {q : Tx} {e : Int} (h : (e = 0 ∧ txB u.tx = true ∧ u.tx.wf ∧ bodyT u.tx = l ∧ ∀ q : Tx, txB q = true → q.wf → bodyT q = l → u.tx = q) ∨ (e = 7 ∧ u = ⟨0, 0, [], none, 0⟩ ∧ ∀ q : Tx, txB q = true → q.wf → bodyT q = l → False)) (h1 : txB q = true) (h2 : q.wf) (h3 : bodyT q = l) : e = 0 ∧ u.tx = q := by
  rcases h with ⟨a, _, _, _, f⟩ | ⟨_, _, f⟩
  · exact ⟨a, f q h1 h2 h3⟩
  · exact (f q h1 h2 h3).elim
theorem X.wf_small {u : X} {n : Nat} (hn : n ≤ 281474976710656) (h : ∀ c ∈ u.l, Small n c.c) : u.tx.wf := fun c hc => by
  obtain ⟨m, hm, rfl⟩ := List.mem_map.1 hc
  exact (h m hm).wf hn
theorem body_small {u : X} {l : List UInt8} (h1 : txB u.tx = true) (h2 : bodyT u.tx = l) (hl : l.length ≤ 100000) : bodyR u.tx = l := by
  unfold bodyR; rw [if_pos h1, if_pos (by rw [h2]; exact hl), h2]
set_option maxHeartbeats 4000000 in
set_option maxRecDepth 100000 in
theorem skip_any (x : X) (r b : List UInt8) (hi : InnX x) (hx : litB x.l = false) (w : World) (hin : x.In w) :
    Calls Try.prog 4 #[.agg #[.int .i64 x.seq, .int .i64 x.tm, .slice x.co x.l.length x.cc], .string (S r), .string (S b)] w fun e w' => e = .returned (.bool true) ∧ Below w.heap.size w w' := by
  have HIN := hidm hin
  have HI := hidm hi
  have HS0 := hidm (BoxX.start x w)
  have t1 : r.toArray.size = r.length := by simp
  have t2 : b.toArray.size = b.length := by simp
  have CL := hidm (fun (w1 : World) (h1 : Below w.heap.size w w1) => light_any x w1 (hin.later h1) hi)
  rw [hx] at CL
  clear hin hi hx
  go_enter Try.func4, Try.ntmps4
  go_wp2_with fail
  refine (CL.out _ HS0.out.below).mono ?_
  rintro e w1 ⟨rfl, hb⟩
  have HS1 := hidm (HS0.out.then hb)
  clear hb
  go_wp2_with fail
  refine (known_any _).mono ?_
  rintro e w2 ⟨rfl, hb⟩
  have HS2 := hidm (HS1.out.then hb)
  clear hb
  go_wp2_with fail
  go_ret
  exact ⟨rfl, HS2.out.below⟩
set_option maxHeartbeats 4000000 in
set_option maxRecDepth 100000 in
theorem skip_r (x : X) (r b : List UInt8) (hi : InnX x) (hx : litB x.l = true) (hr : 1000 < r.length) (w : World) (hin : x.In w) :
    Calls Try.prog 4 #[.agg #[.int .i64 x.seq, .int .i64 x.tm, .slice x.co x.l.length x.cc], .string (S r), .string (S b)] w fun e w' => e = .returned (.bool true) ∧ Below w.heap.size w w' := by
  have HIN := hidm hin
  have HI := hidm hi
  have HS0 := hidm (BoxX.start x w)
  have t1 : r.toArray.size = r.length := by simp
  have t2 : b.toArray.size = b.length := by simp
  have CL := hidm (fun (w1 : World) (h1 : Below w.heap.size w w1) => light_any x w1 (hin.later h1) hi)
  rw [hx] at CL
  have f1 : (1000 : Int) < (r.length : Int) := by omega
  clear hin hi hx hr
  go_enter Try.func4, Try.ntmps4
  go_wp2_with fail
  refine (CL.out _ HS0.out.below).mono ?_
  rintro e w1 ⟨rfl, hb⟩
  have HS1 := hidm (HS0.out.then hb)
  clear hb
  go_wp2_with fail
  refine (known_any _).mono ?_
  rintro e w2 ⟨rfl, hb⟩
  have HS2 := hidm (HS1.out.then hb)
  clear hb
  go_wp2_with fail
  go_ret
  exact ⟨rfl, HS2.out.below⟩
set_option maxHeartbeats 4000000 in
set_option maxRecDepth 100000 in
theorem skip_b (x : X) (r b : List UInt8) (hi : InnX x) (hx : litB x.l = true) (hr : r.length ≤ 1000) (hb : 2000 < b.length) (w : World) (hin : x.In w) :
    Calls Try.prog 4 #[.agg #[.int .i64 x.seq, .int .i64 x.tm, .slice x.co x.l.length x.cc], .string (S r), .string (S b)] w fun e w' => e = .returned (.bool true) ∧ Below w.heap.size w w' := by
  have HIN := hidm hin
  have HI := hidm hi
  have HS0 := hidm (BoxX.start x w)
  have t1 : r.toArray.size = r.length := by simp
  have t2 : b.toArray.size = b.length := by simp
  have CL := hidm (fun (w1 : World) (h1 : Below w.heap.size w w1) => light_any x w1 (hin.later h1) hi)
  rw [hx] at CL
  have f1 : ¬ (1000 : Int) < (r.length : Int) := by omega
  have f2 : (2000 : Int) < (b.length : Int) := by omega
  clear hin hi hx hr hb
  go_enter Try.func4, Try.ntmps4
  go_wp2_with fail
  refine (CL.out _ HS0.out.below).mono ?_
  rintro e w1 ⟨rfl, hb⟩
  have HS1 := hidm (HS0.out.then hb)
  clear hb
  go_wp2_with fail
  refine (known_any _).mono ?_
  rintro e w2 ⟨rfl, hb⟩
  have HS2 := hidm (HS1.out.then hb)
  clear hb
  go_wp2_with fail
  go_ret
  exact ⟨rfl, HS2.out.below⟩
set_option maxHeartbeats 4000000 in
set_option maxRecDepth 100000 in
theorem nil_any (x : X) (r b : List UInt8) (hi : InnX x) (hx : litB x.l = true) (hr : r.length ≤ 1000) (hbl : b.length ≤ 2000) (he : encT x.tx = []) (w : World) (hin : x.In w) :
    Calls Try.prog 4 #[.agg #[.int .i64 x.seq, .int .i64 x.tm, .slice x.co x.l.length x.cc], .string (S r), .string (S b)] w fun e w' => e = .returned (.bool true) ∧ Below w.heap.size w w' := by
  have HIN := hidm hin
  have HI := hidm hi
  have HS0 := hidm (BoxX.start x w)
  have t1 : r.toArray.size = r.length := by simp
  have t2 : b.toArray.size = b.length := by simp
  have CL := hidm (fun (w1 : World) (h1 : Below w.heap.size w w1) => light_any x w1 (hin.later h1) hi)
  rw [hx] at CL
  have HLX := lit_x hx hi
  have CE := fun (w1 : World) (h1 : Below w.heap.size w w1) => fenc_any HLX.n HLX.lm HLX.wf w1 (hin.later h1)
  have f1 : ¬ (1000 : Int) < (r.length : Int) := by omega
  have f2 : ¬ (2000 : Int) < (b.length : Int) := by omega
  obtain ⟨E, hE⟩ : ∃ E, E = encT x.tx := ⟨_, rfl⟩
  rw [← hE] at CE
  have CEE := hidm CE
  have CD := hidm (fun w => tdec_any b (by omega) w)
  have HBL := hidm hbl
  have hE0 : E = [] := hE.trans he
  have RX := hidm (fun (w1 : World) (h1 : Below w.heap.size w w1) => txright_is (lit_none hx hi he) HLX.n HLX.lm w1 (hin.later h1))
  subst hE0
  clear hin hi hx hr he HLX CE hE
  go_enter Try.func4, Try.ntmps4
  go_wp2_with fail
  refine (CL.out _ HS0.out.below).mono ?_
  rintro e w1 ⟨rfl, hb⟩
  have HS1 := hidm (HS0.out.then hb)
  clear hb
  have c0 := HS1.out.c0
  have c1 := HS1.out.c1
  have c2 := HS1.out.c2
  go_wp2_with fail
  refine (CEE.out _ HS1.out.below).mono ?_
  rintro e w2 ⟨rfl, hb⟩
  have HS2 := hidm (HS1.out.then hb)
  clear hb
  clear c0 c1 c2
  go_wp2_with fail
  refine (CD.out _).mono ?_
  rintro e w3 ⟨u, e3, he, hui, hb, hun, husm, hor⟩
  unfold X.agg at he
  subst he
  have HS3 := hidm (HS2.out.then hb)
  have hb4 : Below w3.heap.size w3 (w3.alloc (.cells #[.int .i64 u.seq, .int .i64 u.tm, .slice u.co u.l.length u.cc] 38)) := (Below.refl _ _).alloc (Nat.le_refl _) _
  have HS4 := hidm (HS3.out.then hb4)
  have HUI := hidm (hui.later hb4)
  have HU := hidm (BoxX.start u w3)
  have HUL := hidm (show u.l.length ≤ 1000000 from by omega)
  have HUM := hidm (show ∀ c ∈ u.l, ChLim c.c from fun c hc => (husm c hc).lim (by omega))
  have HUW := hidm (X.wf_small (by omega) husm)
  clear hb hb4 hui hun husm
  rcases hor with ⟨rfl, ho1, ho2, ho3, _⟩ | ⟨rfl, ho1, _⟩
  · have CB := hidm (fun (w1 : World) (h1 : Below (w3.alloc (.cells #[.int .i64 u.seq, .int .i64 u.tm, .slice u.co u.l.length u.cc] 38)).heap.size (w3.alloc (.cells #[.int .i64 u.seq, .int .i64 u.tm, .slice u.co u.l.length u.cc] 38)) w1) => bodyr_any HUL.out HUM.out (fun _ => HUW.out) w1 (HUI.out.later h1))
    rw [body_small ho1 ho3 (by omega)] at CB
    have CR := hidm (fun (w1 : World) (h1 : Below (w3.alloc (.cells #[.int .i64 u.seq, .int .i64 u.tm, .slice u.co u.l.length u.cc] 38)).heap.size (w3.alloc (.cells #[.int .i64 u.seq, .int .i64 u.tm, .slice u.co u.l.length u.cc] 38)) w1) => txright_is ho1 HUL.out HUM.out w1 (HUI.out.later h1))
    clear ho1 ho2 ho3
    go_wp2_with fail
    refine (CB.out _ (Below.refl _ _)).mono ?_
    rintro e w5 ⟨rfl, hb⟩
    have HS5 := hidm (HS4.out.then hb)
    have HU5 := hidm (HU.out.then hb)
    have HB5 := hidm hb
    clear hb
    have d0 := HU5.out.c0
    have d1 := HU5.out.c1
    have d2 := HU5.out.c2
    have hbb : (b != b) = false := by simp
    have hbb2 : (b == b) = true := by simp
    go_wp2_with fail
    refine (CR.out _ HB5.out).mono ?_
    rintro e w6 ⟨rfl, hb⟩
    have HS6 := hidm (HS5.out.then hb)
    clear hb d0 d1 d2 hbb hbb2
    have e0 := HS6.out.c0
    have e1 := HS6.out.c1
    have e2 := HS6.out.c2
    go_wp2_with fail
    refine (RX.out _ HS6.out.below).mono ?_
    rintro e w7 ⟨rfl, hb⟩
    have HS7 := hidm (HS6.out.then hb)
    clear hb e0 e1 e2
    go_wp2_with fail
    refine (known_any _).mono ?_
    rintro e w8 ⟨rfl, hb⟩
    have HS8 := hidm (HS7.out.then hb)
    clear hb
    go_wp2_with fail
    go_ret
    exact ⟨rfl, HS8.out.below⟩
  · clear ho1
    have HS6 := HS4
    have e0 := HS6.out.c0
    have e1 := HS6.out.c1
    have e2 := HS6.out.c2
    go_wp2_with fail
    refine (RX.out _ HS6.out.below).mono ?_
    rintro e w7 ⟨rfl, hb⟩
    have HS7 := hidm (HS6.out.then hb)
    clear hb e0 e1 e2
    go_wp2_with fail
    refine (known_any _).mono ?_
    rintro e w8 ⟨rfl, hb⟩
    have HS8 := hidm (HS7.out.then hb)
    clear hb
    go_wp2_with fail
    go_ret
    exact ⟨rfl, HS8.out.below⟩
set_option maxHeartbeats 4000000 in
set_option maxRecDepth 100000 in
theorem main_any (x : X) (r b : List UInt8) (hi : InnX x) (hx : litB x.l = true) (hr : r.length ≤ 1000) (hbl : b.length ≤ 2000) (he : encT x.tx ≠ []) (w : World) (hin : x.In w) :
    Calls Try.prog 4 #[.agg #[.int .i64 x.seq, .int .i64 x.tm, .slice x.co x.l.length x.cc], .string (S r), .string (S b)] w fun e w' => e = .returned (.bool true) ∧ Below w.heap.size w w' := by
  have HIN := hidm hin
  have HI := hidm hi
  have HS0 := hidm (BoxX.start x w)
  have t1 : r.toArray.size = r.length := by simp
  have t2 : b.toArray.size = b.length := by simp
  have CL := hidm (fun (w1 : World) (h1 : Below w.heap.size w w1) => light_any x w1 (hin.later h1) hi)
  rw [hx] at CL
  have HLX := lit_x hx hi
  have CE := fun (w1 : World) (h1 : Below w.heap.size w w1) => fenc_any HLX.n HLX.lm HLX.wf w1 (hin.later h1)
  have f1 : ¬ (1000 : Int) < (r.length : Int) := by omega
  have f2 : ¬ (2000 : Int) < (b.length : Int) := by omega
  obtain ⟨E, hE⟩ : ∃ E, E = encT x.tx := ⟨_, rfl⟩
  rw [← hE] at CE
  have CEE := hidm CE
  have CD := hidm (fun w => tdec_any b (by omega) w)
  have HBL := hidm hbl
  obtain ⟨y, hy, hyne, hyl, hye, hyn, htx⟩ := enc_form he
  rw [← hE] at hye hyn
  have hN := next_frame (X := r) hyl
  rw [← hye] at hN
  have CN := hidm (fun w => next_any (S E ++ S r) (by rw [ByteArray.size_append, S_size, S_size]; omega) w)
  have hcat : (S E ++ S r).data.toList = E ++ r := by simp [S]
  rw [hcat, hN] at CN
  have CF := hidm (fun w => tdec_any y hyl w)
  have HTX := hidm (show txB x.tx = true ∧ x.tx.wf ∧ bodyT x.tx = y from ⟨htx, HLX.wf htx, by rw [hy]; exact (bodyR_ok (by rw [← hy]; exact hyne)).2.2.symm⟩)
  have HLM := hidm HLX.lm
  have HNL := hidm hyl
  obtain ⟨m, hm⟩ : ∃ m, m = y.length + 8 := ⟨_, rfl⟩
  have f0 : E.toArray.size = m := by simp [hyn, hm]
  have f5 : m ≤ 100008 := by omega
  have f6 : E.length ≤ 100008 := by omega
  rw [← hm] at CN
  have f3 : (E == []) = false := by cases hEE : E with
    | nil => rw [hEE] at hyn; simp at hyn
    | cons _ _ => rfl
  clear hin hi hx hr he HLX CE hE hy hyne hyl hye hyn htx hN hcat hm
  go_enter Try.func4, Try.ntmps4
  go_wp2_with fail
  refine (CL.out _ HS0.out.below).mono ?_
  rintro e w1 ⟨rfl, hb⟩
  have HS1 := hidm (HS0.out.then hb)
  clear hb
  have c0 := HS1.out.c0
  have c1 := HS1.out.c1
  have c2 := HS1.out.c2
  go_wp2_with fail
  refine (CEE.out _ HS1.out.below).mono ?_
  rintro e w2 ⟨rfl, hb⟩
  have HS2 := hidm (HS1.out.then hb)
  clear hb
  clear c0 c1 c2
  go_wp2_with fail
  refine (CD.out _).mono ?_
  rintro e w3 ⟨u, e3, he, hui, hb, hun, husm, hor⟩
  unfold X.agg at he
  subst he
  have HS3 := hidm (HS2.out.then hb)
  have hb4 : Below w3.heap.size w3 (w3.alloc (.cells #[.int .i64 u.seq, .int .i64 u.tm, .slice u.co u.l.length u.cc] 38)) := (Below.refl _ _).alloc (Nat.le_refl _) _
  have HS4 := hidm (HS3.out.then hb4)
  have HUI := hidm (hui.later hb4)
  have HU := hidm (BoxX.start u w3)
  have HUL := hidm (show u.l.length ≤ 1000000 from by omega)
  have HUM := hidm (show ∀ c ∈ u.l, ChLim c.c from fun c hc => (husm c hc).lim (by omega))
  have HUW := hidm (X.wf_small (by omega) husm)
  clear hb hb4 hui hun husm
  rcases hor with ⟨rfl, ho1, ho2, ho3, _⟩ | ⟨rfl, ho1, _⟩
  · have CB := hidm (fun (w1 : World) (h1 : Below (w3.alloc (.cells #[.int .i64 u.seq, .int .i64 u.tm, .slice u.co u.l.length u.cc] 38)).heap.size (w3.alloc (.cells #[.int .i64 u.seq, .int .i64 u.tm, .slice u.co u.l.length u.cc] 38)) w1) => bodyr_any HUL.out HUM.out (fun _ => HUW.out) w1 (HUI.out.later h1))
    rw [body_small ho1 ho3 (by omega)] at CB
    have CR := hidm (fun (w1 : World) (h1 : Below (w3.alloc (.cells #[.int .i64 u.seq, .int .i64 u.tm, .slice u.co u.l.length u.cc] 38)).heap.size (w3.alloc (.cells #[.int .i64 u.seq, .int .i64 u.tm, .slice u.co u.l.length u.cc] 38)) w1) => txright_is ho1 HUL.out HUM.out w1 (HUI.out.later h1))
    clear ho1 ho2 ho3
    go_wp2_with fail
    refine (CB.out _ (Below.refl _ _)).mono ?_
    rintro e w5 ⟨rfl, hb⟩
    have HS5 := hidm (HS4.out.then hb)
    have HU5 := hidm (HU.out.then hb)
    have HB5 := hidm hb
    clear hb
    have d0 := HU5.out.c0
    have d1 := HU5.out.c1
    have d2 := HU5.out.c2
    have hbb : (b != b) = false := by simp
    have hbb2 : (b == b) = true := by simp
    go_wp2_with fail
    refine (CR.out _ HB5.out).mono ?_
    rintro e w6 ⟨rfl, hb⟩
    have HS6 := hidm (HS5.out.then hb)
    clear hb d0 d1 d2 hbb hbb2
    go_wp2_with fail
    refine (CN.out _).mono ?_
    rintro e w7 ⟨rfl, hb⟩
    have HS7 := hidm (HS6.out.then hb)
    clear hb
    go_wp2_with fail
    refine (CF.out _).mono ?_
    rintro e w8 ⟨v, e8, he, hvi, hb, hvn, hvsm, hor⟩
    unfold X.agg at he
    subst he
    obtain ⟨rfl, hvx⟩ := dec_same hor HTX.out.1 HTX.out.2.1 HTX.out.2.2
    have HS8 := hidm (HS7.out.then hb)
    have hb9 : Below w8.heap.size w8 (w8.alloc (.cells #[.int .i64 v.seq, .int .i64 v.tm, .slice v.co v.l.length v.cc] 38)) := (Below.refl _ _).alloc (Nat.le_refl _) _
    have HS9 := hidm (HS8.out.then hb9)
    have HVI := hidm (hvi.later hb9)
    have HVM := hidm (show ∀ c ∈ v.l, ChLim c.c from fun c hc => (hvsm c hc).lim (by have := HNL.out; omega))
    have HVX := hidm (show decide (v.tx = x.tx) = true from decide_eq_true hvx)
    clear hb hb9 hvi hvn hvsm hor hvx
    have e0 := HS9.out.c0
    have e1 := HS9.out.c1
    have e2 := HS9.out.c2
    go_wp2_with fail
    refine (rtsame_any v x HVM.out HLM.out _ HVI.out (HIN.out.later HS9.out.below)).mono ?_
    rintro e w10 ⟨rfl, hb⟩
    have HS10 := hidm (HS9.out.then hb)
    clear hb e0 e1 e2
    rw [HVX.out]
    go_wp2_with fail
    refine (known_any _).mono ?_
    rintro e w11 ⟨rfl, hb⟩
    have HS11 := hidm (HS10.out.then hb)
    clear hb
    go_wp2_with fail
    go_ret
    exact ⟨rfl, HS11.out.below⟩
  · clear ho1
    have HS6 := HS4
    go_wp2_with fail
    refine (CN.out _).mono ?_
    rintro e w7 ⟨rfl, hb⟩
    have HS7 := hidm (HS6.out.then hb)
    clear hb
    go_wp2_with fail
    refine (CF.out _).mono ?_
    rintro e w8 ⟨v, e8, he, hvi, hb, hvn, hvsm, hor⟩
    unfold X.agg at he
    subst he
    obtain ⟨rfl, hvx⟩ := dec_same hor HTX.out.1 HTX.out.2.1 HTX.out.2.2
    have HS8 := hidm (HS7.out.then hb)
    have hb9 : Below w8.heap.size w8 (w8.alloc (.cells #[.int .i64 v.seq, .int .i64 v.tm, .slice v.co v.l.length v.cc] 38)) := (Below.refl _ _).alloc (Nat.le_refl _) _
    have HS9 := hidm (HS8.out.then hb9)
    have HVI := hidm (hvi.later hb9)
    have HVM := hidm (show ∀ c ∈ v.l, ChLim c.c from fun c hc => (hvsm c hc).lim (by have := HNL.out; omega))
    have HVX := hidm (show decide (v.tx = x.tx) = true from decide_eq_true hvx)
    clear hb hb9 hvi hvn hvsm hor hvx
    have e0 := HS9.out.c0
    have e1 := HS9.out.c1
    have e2 := HS9.out.c2
    go_wp2_with fail
    refine (rtsame_any v x HVM.out HLM.out _ HVI.out (HIN.out.later HS9.out.below)).mono ?_
    rintro e w10 ⟨rfl, hb⟩
    have HS10 := hidm (HS9.out.then hb)
    clear hb e0 e1 e2
    rw [HVX.out]
    go_wp2_with fail
    refine (known_any _).mono ?_
    rintro e w11 ⟨rfl, hb⟩
    have HS11 := hidm (HS10.out.then hb)
    clear hb
    go_wp2_with fail
    go_ret
    exact ⟨rfl, HS11.out.below⟩
theorem law_any (x : X) (r b : ByteArray) (hi : InnX x) (w : World) (hin : x.In w) :
    Calls Try.prog 4 #[.agg #[.int .i64 x.seq, .int .i64 x.tm, .slice x.co x.l.length x.cc], .string r, .string b] w fun e w' => e = .returned (.bool true) ∧ Below w.heap.size w w' := by
  obtain ⟨l, hl⟩ : ∃ l, l = r.data.toList := ⟨_, rfl⟩
  have hs : r = S l := by rw [hl, S_of]
  subst hs
  obtain ⟨m, hm⟩ : ∃ m, m = b.data.toList := ⟨_, rfl⟩
  have hs : b = S m := by rw [hm, S_of]
  subst hs
  rcases hx : litB x.l with _ | _
  · exact skip_any x l m hi hx w hin
  · rcases Nat.lt_or_ge 1000 l.length with h1 | h1
    · exact skip_r x l m hi hx h1 w hin
    · rcases Nat.lt_or_ge 2000 m.length with h2 | h2
      · exact skip_b x l m hi hx h1 h2 w hin
      · rcases Decidable.em (encT x.tx = []) with he | he
        · exact nil_any x l m hi hx h1 h2 he w hin
        · exact main_any x l m hi hx h1 h2 he w hin
theorem laidOut : laidOutB Try.prog = true := by kernel_rfl
set_option maxRecDepth 100000 in
theorem contract (H : Type) (enc : TypeId × Value → H) (W : World) (base : Nat) (args : Array Value) (ds gs : List (DataW H)) (before : List MemPlace)
    (hval : ∀ (j : Nat) t v, Try.f4.params[j]? = some t → args[j]? = some v → Value.okWide Try.prog W .any base t v)
    (hW : DataW.Whole enc Try.prog Try.f4.params.toList Rows.frameBackSpec.vars false W args.toList ds gs before)
    (hsz0 : (DataW.weightsEach Try.prog (Try.f4.params.toList ++ Rows.frameBackSpec.plain.varTypes Try.prog) (ds ++ gs)).all (· ≤ reachBytes) = true) :
    Calls Try.prog 4 args W fun e W' => ∃ v, e = .returned v ∧ Rows.frameBackSpec.post enc Try.prog Try.f4 false true false false W args v W' := by
  have hW' := hW
  obtain ⟨p, q, hA0, hV, rfl, hfz, hnd⟩ := hW
  have hA : DataW.TrodAll enc Try.prog W 0 (fun _ => true) true Try.f4.params.toList args.toList ds p := hA0
  rw [Try.params4] at hA hval hsz0
  obtain ⟨v0, vs0, d0, ds0, p0, q0, hargs, rfl, rfl, h0, r0⟩ := trodAll_cons hA
  obtain ⟨v1, vs1, d1, ds1, p1, q1, rfl, rfl, rfl, h1, r1⟩ := trodAll_cons r0
  obtain ⟨v2, vs2, d2, ds2, p2, q2, rfl, rfl, rfl, h2, r2⟩ := trodAll_cons r1
  obtain ⟨rfl, rfl, rfl⟩ := trodAll_nil r2
  obtain rfl : args = #[v0, v1, v2] := by cases args; simp_all
  obtain ⟨rfl, rfl⟩ := trodVars_none hV
  have hsz := fun n hn => of_decide_eq_true (List.all_eq_true.1 hsz0 n hn)
  obtain ⟨x, rfl, hmx, hix⟩ := open_txn (hval 0 38 v0 rfl rfl) h0 (fun n hn => hsz n (DataW.weights_mem_each (j := 0) (t := 38) rfl rfl n hn))
  obtain ⟨r, rfl, hd1, hp1, wr⟩ := open_string Try.underlying9 (hval 1 9 v1 rfl rfl) h1
  obtain ⟨b, rfl, hd2, hp2, wb⟩ := open_string Try.underlying9 (hval 2 9 v2 rfl rfl) h2
  clear hA0 hsz0
  simp only [List.append_nil] at hW'
  have hlt : ∀ x ∈ p0 ++ p1 ++ p2, x.block < W.heap.size := fun x hx => hW'.lt x (by simpa using hx)
  have walk := law_any x r b hix W hmx
  refine walk.mono fun e W' ⟨he, hg⟩ => ?_
  subst he
  refine ⟨_, rfl, Fr.post_made (pa := p0 ++ (p1 ++ p2)) (pv := []) hW' (fun _ _ _ => trodAll_cons_mk (shut_bool Try.underlying4 _) trodAll_mk0) (fun sp hsp => ?_) (fun _ _ => rfl) (by simp) hg (ok_one (by kernel_rfl) rfl (okWide_bool_mk Try.underlying4 _))⟩
  have g0 : DataW.Trod enc Try.prog W' 0 sp true 38 _ d0 p0 := WideElems.Trod_stays laidOut (by kernel_rfl) (of_decide_eq_true (by kernel_rfl)) h0 (fun x hx => hg.same (hlt x (by simp [hx]))) (fun x hx => hsp x (by simp [hx]))
  have g1 : DataW.Trod enc Try.prog W' 0 sp true 9 _ d1 p1 := WideElems.Trod_stays laidOut (by kernel_rfl) (of_decide_eq_true (by kernel_rfl)) h1 (fun x hx => hg.same (hlt x (by simp [hx]))) (fun x hx => hsp x (by simp [hx]))
  have g2 : DataW.Trod enc Try.prog W' 0 sp true 9 _ d2 p2 := WideElems.Trod_stays laidOut (by kernel_rfl) (of_decide_eq_true (by kernel_rfl)) h2 (fun x hx => hg.same (hlt x (by simp [hx]))) (fun x hx => hsp x (by simp [hx]))
  have hT := (trodAll_cons_mk g0 (trodAll_cons_mk g1 (trodAll_cons_mk g2 trodAll_mk0)))
  simp only [List.append_nil] at hT
  exact hT
set_option maxRecDepth 100000 in
theorem lifted (os : Os) (started : os.Started) (H : Type) (enc : TypeId × Value → H) :
    ReturnsInHanded {} Try.checked os 4 .any (Rows.frameBackSpec.pre6 enc Try.prog Try.f4 Rows.frameBackRow.domain false) (Rows.frameBackSpec.post enc Try.prog Try.f4 false true false false) := by
  refine returnsInHanded_of_change_sized (C := Try.checked) Fr.own started (by kernel_rfl) Try.func4
    (ChangeSpec.witness6 (enc := enc) (C := Try.checked) false ⟨#[], #[.agg #[.int .i64 0, .int .i64 0, .slice none 0 0], .string ⟨#[]⟩, .string ⟨#[]⟩], []⟩ 8 (by kernel_rfl) (by kernel_rfl) (by kernel_rfl) (by kernel_rfl)) ?_
  intro W base args ds gs before hval hW _ hsz _
  exact contract H enc W base args ds gs before hval hW hsz
theorem said : Rows.FrameBackSaid :=
  OpenClaim.holds_of_wide 4 Try.f4 rfl rfl rfl rfl rfl rfl rfl ⟨rfl, rfl, rfl, rfl, rfl⟩ rfl rfl rfl rfl rfl (by kernel_rfl) Try.func4 (by kernel_rfl)
    (of_decide_eq_true (by kernel_rfl)) (by unfold Func.isWrapper; first | (rw [if_pos (by decide +kernel)]; kernel_rfl) | (rw [if_neg (by decide +kernel)]; exact ⟨rfl, rfl⟩))
    (fun os started H enc _ => lifted os started H enc)
end LaFrameBack
end Go.Proofs.Ytopmbhpjdmcabaa
