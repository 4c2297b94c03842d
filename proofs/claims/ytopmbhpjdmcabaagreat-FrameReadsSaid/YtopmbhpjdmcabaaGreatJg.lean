/- schema.Encode. Condition: names are at most 2^48 bytes, and there are at most a million columns. -/
import Derived.Test.YtopmbhpjdmcabaaGreatJf
import Derived.Test.YtopmbhpjdmcabaaGreatBlk
import Derived.Test.YtopmbhpjdmcabaaGreatQa
namespace Go.Proofs.YtopmbhpjdmcabaaGreat
open Go.RowKit
namespace Sch
open Cod
theorem colB_len {c : C} (h : colIs c = true) : (colB c).length ≤ 62 := by
  obtain ⟨h1, h2, h3⟩ := col_parts h
  have g1 := name_len h1
  have g2 := uB_ten c.nm.length (by omega)
  have g3 := uB_ten c.k.toNat (by omega)
  have g4 := uB_ten (bitB c) (by unfold bitB; split <;> omega)
  unfold colB tB
  simp only [List.length_append]
  omega
def preB (s : T) (i : Nat) : List UInt8 := tB s.nm ++ (uB s.keys.toNat ++ (uB s.cols.length ++ (s.cols.take i).flatMap colB))
theorem cols_len (l : List C) (h : ∀ c ∈ l, colIs c = true) : (l.flatMap colB).length ≤ l.length * 62 := by
  induction l with
  | nil => simp
  | cons c l ih =>
    have h1 := ih (fun d hd => h d (List.mem_cons_of_mem _ hd))
    have h2 := colB_len (h c (List.mem_cons_self))
    rw [List.flatMap_cons, List.length_append, List.length_cons]
    omega
theorem preB_len {s : T} (h : rightB s = true) (i : Nat) : (preB s i).length ≤ 1054 := by
  obtain ⟨h1, h2, h3, h4, h5⟩ := head_parts (right_head h)
  have g1 := name_len h1
  have g2 := uB_ten s.nm.length (by omega)
  have g3 := uB_ten s.keys.toNat (by omega)
  have g4 := uB_ten s.cols.length (by omega)
  have g5 := cols_len (s.cols.take i) (fun c hc => right_mem h (List.mem_of_mem_take hc))
  have g6 : (s.cols.take i).length ≤ 16 := by rw [List.length_take]; omega
  unfold preB tB
  simp only [List.length_append]
  omega
theorem preB_succ {s : T} {i : Nat} (hi : i < s.cols.length) : preB s (i + 1) = preB s i ++ (tB s.cols[i].nm ++ (uB s.cols[i].k.toNat ++ uB (bitB s.cols[i]))) := by
  unfold preB
  rw [List.take_succ_eq_append_getElem hi, List.flatMap_append]
  simp [colB]
theorem preB_end (s : T) : preB s s.cols.length = bodyB s := by
  unfold preB bodyB; rw [List.take_length]
/-- A block of three cells. -/
theorem three {w : World} {c : Nat} {a b d : Value} {t : TypeId} (h : w.heap[c]? = some (.cells #[a, b, d] t (0, 0))) : w.cell? ⟨c, 0, none⟩ = some a ∧ w.cell? ⟨c, 1, none⟩ = some b ∧ w.cell? ⟨c, 2, none⟩ = some d := by
  refine ⟨?_, ?_, ?_⟩ <;> simp [World.cell?, h]
theorem right_is {s : T} {b : Bool} (hb : rightB s = b) (hl : Lim s) (sl : Value) (w : World) (h : ColsAt s.cols sl w) :
    Calls Tryz.prog 28 #[.agg #[.string (S s.nm), sl, .int .i64 s.keys]] w fun e w' => e = .returned (.bool b) ∧ Below w.heap.size w w' := hb ▸ right_any s hl sl w h
theorem text_of (l : List UInt8) (hl : l.length ≤ 281474976710656) (w : World) :
    Calls Tryz.prog 90 #[.string (S l)] w fun e w' => e = .returned (.string (S (tB l))) ∧ Below w.heap.size w w' := text_any (S l) (by rw [S_size]; omega) w
theorem needbit_f (nm : List UInt8) (k : Int) {x : C} {bt : Nat} (h : bt = bitB x) (w : World) :
    Calls Tryz.prog 112 #[.agg #[.string (S nm), .int .i64 k, .bool x.nd]] w fun e w' => e = .returned (.int .u64 (bt : Nat)) ∧ Below w.heap.size w w' := by
  rw [h]; exact needbit_any ⟨nm, k, x.nd⟩ w
set_option maxHeartbeats 4000000 in
set_option maxRecDepth 100000 in
theorem encode_any (s : T) (hl : Lim s) (sl : Value) (w : World) (h : ColsAt s.cols sl w) :
    Calls Tryz.prog 91 #[.agg #[.string (S s.nm), sl, .int .i64 s.keys]] w fun e w' => e = .returned (.string (S (encB s))) ∧ Below w.heap.size w w' := by
  obtain ⟨ao, cap, rfl, hcl, hcm⟩ := h.form
  have H := hidm h
  have HL := hidm hl
  have HS0 := hidm (Boxed.start s ao cap w)
  have hb0 : Below w.heap.size w (w.alloc (.cells #[.string (S s.nm), .slice ao s.cols.length cap, .int .i64 s.keys] 30)) := (Below.refl _ _).alloc (Nat.le_refl _) _
  have H0 := hidm (h.later hb0)
  obtain ⟨F, hF⟩ : ∃ F, F = S (encB s) := ⟨_, rfl⟩
  rw [← hF]
  have HF := hidm hF
  rcases hr : rightB s with _ | _
  · have HFF := hidm (show F = S [] from by rw [HF.out]; unfold encB; rw [hr]; rfl)
    have R := right_is hr hl _ _ H0.out
    clear h hl hb0 hF hr
    go_enter Tryz.func91, Tryz.ntmps91
    go_wp2_with fail
    refine R.mono ?_
    rintro e w1 ⟨rfl, hb1⟩
    have HB1 := hidm (HS0.out.then hb1)
    clear hb1 R
    go_wp2_with fail
    go_ret
    exact ⟨congrArg (fun q => Ending.returned (.string q)) HFF.out.symm, HB1.out.below⟩
  · have HR := hidm hr
    have HFF := hidm (show F = S (bodyB s) from by rw [HF.out]; unfold encB; rw [hr]; rfl)
    have R := right_is hr hl _ _ H0.out
    obtain ⟨p1, p2, p3, p4, p5⟩ := head_parts (right_head hr)
    have HNL := hidm (show s.nm.length ≤ 32 from name_len p1)
    obtain ⟨n, hn⟩ : ∃ n, n = s.cols.length := ⟨_, rfl⟩
    obtain ⟨k, hk⟩ : ∃ k : Nat, s.keys = (k : Int) := Int.eq_ofNat_of_zero_le (by omega)
    have HN := hidm hn
    have HK := hidm hk
    rw [← hn] at p2 p5 hcl
    rw [hk] at p3 p4 p5
    clear h hl hb0 hF hr p1
    have hn16 : n ≤ 16 := p2
    have hk8 : k ≤ 8 := by omega
    have hk1 : 1 ≤ k := by omega
    clear p2 p3 p4 p5
    rw [← hn, hk] at R ⊢
    clear hn hk
    go_enter Tryz.func91, Tryz.ntmps91
    go_wp2_with fail
    refine R.mono ?_
    rintro e w1 ⟨rfl, hb1⟩
    have HB1 := hidm (HS0.out.then (by rw [← HN.out, HK.out]; exact hb1))
    clear hb1 R
    have hBw : w.heap.size + 1 ≤ w1.heap.size := HB1.out.size
    have HF2 := hidm (Bld.fresh w1)
    have HB2 := hidm (HB1.out.alloc (.cells #[.pointer none, .slice none 0 0] 90))
    have HZ2 := hidm (show w1.heap.size ≤ (w1.alloc (.cells #[.pointer none, .slice none 0 0] 90)).heap.size by simp)
    have c0 := HB2.out.c0
    go_wp2_with fail
    refine (text_of s.nm (by have := HNL.out; omega) _).mono ?_
    rintro e w3 ⟨rfl, hb⟩
    have HF3 := hidm (HF2.out.below hb)
    have HB3 := hidm (HB2.out.then hb)
    have HZ3 := hidm (Nat.le_trans HZ2.out hb.size)
    clear hb
    go_wp2_with fail
    refine (Bld.write_k _ _ _ _ _ HF3.out (by rw [S_size]; have a1 := preB_len HR.out 0; unfold preB at a1; simp only [List.length_append, List.length_nil] at a1 ⊢; (try rw [S_list]); (try rw [S_list]); (try rw [HN.out]); (try rw [HK.out] at a1); (try rw [Int.toNat_natCast] at a1); omega) HZ3.out).mono ?_
    rintro e w4 ⟨rfl, hf, hb, hkp⟩
    have HF4 := hidm hf
    have HB4 := hidm (show Boxed s _ cap w w4 from Below.trans HB3.out (hb.mono hBw))
    have HZ4 := hidm (Nat.le_trans HZ3.out hb.size)
    have c2 := HB4.out.c2
    rw [HK.out] at c2
    clear hf hb hkp HF3 HB3 HZ3
    go_wp2_with fail
    refine (uint_any k (by omega) _).mono ?_
    rintro e w5 ⟨rfl, hb⟩
    have HF5 := hidm (HF4.out.below hb)
    have HB5 := hidm (HB4.out.then hb)
    have HZ5 := hidm (Nat.le_trans HZ4.out hb.size)
    clear c2
    clear hb
    go_wp2_with fail
    refine (Bld.write_k _ _ _ _ _ HF5.out (by rw [S_size]; have a1 := preB_len HR.out 0; unfold preB at a1; simp only [List.length_append, List.length_nil] at a1 ⊢; (try rw [S_list]); (try rw [S_list]); (try rw [HN.out]); (try rw [HK.out] at a1); (try rw [Int.toNat_natCast] at a1); omega) HZ5.out).mono ?_
    rintro e w6 ⟨rfl, hf, hb, hkp⟩
    have HF6 := hidm hf
    have HB6 := hidm (show Boxed s _ cap w w6 from Below.trans HB5.out (hb.mono hBw))
    have HZ6 := hidm (Nat.le_trans HZ5.out hb.size)
    have c1 := HB6.out.c1
    rw [← HN.out] at c1
    clear hf hb hkp HF5 HB5 HZ5 HF4 HB4 HZ4
    go_wp2_with fail
    refine (uint_any n (by omega) _).mono ?_
    rintro e w7 ⟨rfl, hb⟩
    have HF7 := hidm (HF6.out.below hb)
    have HB7 := hidm (HB6.out.then hb)
    have HZ7 := hidm (Nat.le_trans HZ6.out hb.size)
    clear c1
    clear hb
    go_wp2_with fail
    refine (Bld.write_k _ _ _ _ _ HF7.out (by rw [S_size]; have a1 := preB_len HR.out 0; unfold preB at a1; simp only [List.length_append, List.length_nil] at a1 ⊢; (try rw [S_list]); (try rw [S_list]); (try rw [HN.out]); (try rw [HK.out] at a1); (try rw [Int.toNat_natCast] at a1); omega) HZ7.out).mono ?_
    rintro e w8 ⟨rfl, hf, hb, hkp⟩
    have HF8 := hidm hf
    have HB8 := hidm (show Boxed s _ cap w w8 from Below.trans HB7.out (hb.mono hBw))
    have HZ8 := hidm (Nat.le_trans HZ7.out hb.size)
    have HP8 : Hid (Bld.Is w1.heap.size w1.heap.size (preB s 0) w8) := by
      refine hidm ?_
      have e0 : preB s 0 = (([] ++ (S (tB s.nm)).data.toList) ++ (S (uB k)).data.toList) ++ (S (uB n)).data.toList := by
        unfold preB; rw [HN.out, HK.out, Int.toNat_natCast]; simp
      rw [e0]; exact HF8.out
    have c1 := HB8.out.c1
    rw [← HN.out] at c1
    clear hf hb hkp HF7 HB7 HZ7 HF6 HB6 HZ6 HF8 HF2 HB2 HZ2 HB1
    go_wp2_with fail
    go_loopw [27] (fun ii wr => ∃ i : Nat, ii = .int .i64 i ∧ i ≤ n ∧ Hid (Bld.Is w1.heap.size w1.heap.size (preB s i) wr) ∧ Hid (Boxed s ao cap w wr) ∧ Hid (w1.heap.size ≤ wr.heap.size)) (fun ii _ => (n - (intOf ii).toNat))
    case atStart => exact ⟨0, rfl, by omega, HP8, HB8, HZ8⟩
    case round =>
      clear HP8 HB8 HZ8 c1
      obtain ⟨i, rfl, hi, HF1, HB1, HZ1⟩ := hrel
      rcases Nat.lt_or_ge i n with hlt | hge
      · have f1 : (i : Int) < n := by omega
        have hia : i < s.cols.length := by have := HN.out; omega
        obtain ⟨b1, o1, cp, he1, _, q0, q1, q2⟩ := (H.out.later HB1.out.below).at i hia
        simp only [Value.slice.injEq] at he1
        obtain ⟨rfl, _, rfl⟩ := he1
        obtain ⟨x, hx⟩ : ∃ x, x = s.cols[i] := ⟨_, rfl⟩
        rw [← hx] at q0 q1 q2
        have HX := hidm hx
        have hxr : colIs x = true := by rw [hx]; exact right_mem HR.out (List.getElem_mem hia)
        obtain ⟨hxn, hxk, hxk5⟩ := col_parts hxr
        have hxl := name_len hxn
        obtain ⟨kk, hkk⟩ : ∃ kk : Nat, x.k = (kk : Int) := Int.eq_ofNat_of_zero_le (by omega)
        rw [hkk] at q1 hxk hxk5
        have HKK := hidm hkk
        have hk5 : kk ≤ 5 := by omega
        have hk1' : 1 ≤ kk := by omega
        have HXL := hidm hxl
        have HPL := hidm (preB_len HR.out (i + 1))
        obtain ⟨bt, hbt⟩ : ∃ bt, bt = bitB x := ⟨_, rfl⟩
        have hbt1 : bt ≤ 1 := by rw [hbt]; unfold bitB; split <;> omega
        have HBT := hidm hbt
        have HPS := hidm (preB_succ hia)
        rw [← HX.out, HKK.out, Int.toNat_natCast, ← HBT.out] at HPS
        have hk0 := heap_alloc_new wr (.cells #[.string (S x.nm), .int .i64 (kk : Int), .bool x.nd] 81)
        have hb : Below wr.heap.size wr (wr.alloc (.cells #[.string (S x.nm), .int .i64 (kk : Int), .bool x.nd] 81)) := (Below.refl _ _).alloc (Nat.le_refl _) _
        have HF2 := hidm (HF1.out.below hb)
        have HB2 := hidm (HB1.out.then hb)
        have HZ2 := hidm (Nat.le_trans HZ1.out hb.size)
        have HK0 := hidm hk0
        clear hx hxr hxn hxk hxk5 hxl hkk hbt hk0 hb HF1 HB1 HZ1
        go_wp2_with fail
        refine (text_of x.nm (by have := HXL.out; omega) _).mono ?_
        rintro e w3 ⟨rfl, hb⟩
        have HF3 := hidm (HF2.out.below hb)
        have HB3 := hidm (HB2.out.then hb)
        have HZ3 := hidm (Nat.le_trans HZ2.out hb.size)
        have HK1 := hidm (below_keeps hb HK0.out)
        clear hb
        go_wp2_with fail
        refine (Bld.write_k _ _ _ _ _ HF3.out (by rw [S_size]; have a1 := HPL.out; rw [HPS.out] at a1; simp only [List.length_append] at a1 ⊢; omega) HZ3.out).mono ?_
        rintro e w4 ⟨rfl, hf, hb, hkp⟩
        have HF4 := hidm hf
        have HB4 := hidm (show Boxed s _ cap w w4 from Below.trans HB3.out (hb.mono hBw))
        have HZ4 := hidm (Nat.le_trans HZ3.out hb.size)
        have HK2 := hidm (hkp _ _ _ _ HK1.out (by decide) (by decide))
        obtain ⟨g0, g1, g2⟩ := three HK2.out
        clear hf hb hkp HF2 HB2 HZ2 HF3 HB3 HZ3 HK1 HK0
        go_wp2_with fail
        refine (uint_any kk (by omega) _).mono ?_
        rintro e w5 ⟨rfl, hb⟩
        have HF5 := hidm (HF4.out.below hb)
        have HB5 := hidm (HB4.out.then hb)
        have HZ5 := hidm (Nat.le_trans HZ4.out hb.size)
        have HK3 := hidm (below_keeps hb HK2.out)
        clear g0 g1 g2
        clear hb
        go_wp2_with fail
        refine (Bld.write_k _ _ _ _ _ HF5.out (by rw [S_size]; have a1 := HPL.out; rw [HPS.out] at a1; simp only [List.length_append] at a1 ⊢; omega) HZ5.out).mono ?_
        rintro e w6 ⟨rfl, hf, hb, hkp⟩
        have HF6 := hidm hf
        have HB6 := hidm (show Boxed s _ cap w w6 from Below.trans HB5.out (hb.mono hBw))
        have HZ6 := hidm (Nat.le_trans HZ5.out hb.size)
        have HK4 := hidm (hkp _ _ _ _ HK3.out (by decide) (by decide))
        obtain ⟨g0, g1, g2⟩ := three HK4.out
        clear hf hb hkp HF4 HB4 HZ4 HF5 HB5 HZ5 HK2 HK3
        have HNB := hidm (fun w => needbit_f x.nm kk (HBT.out : bt = bitB x) w)
        go_wp2_with fail
        refine (HNB.out _).mono ?_
        rintro e w6b ⟨rfl, hb⟩
        have HF6b := hidm (HF6.out.below hb)
        have HB6b := hidm (HB6.out.then hb)
        have HZ6b := hidm (Nat.le_trans HZ6.out hb.size)
        clear hb g0 g1 g2 HF6 HB6 HZ6
        go_wp2_with fail
        refine (uint_any bt (by omega) _).mono ?_
        rintro e w7 ⟨rfl, hb⟩
        have HF7 := hidm (HF6b.out.below hb)
        have HB7 := hidm (HB6b.out.then hb)
        have HZ7 := hidm (Nat.le_trans HZ6b.out hb.size)
        clear hb
        go_wp2_with fail
        refine (Bld.write_k _ _ _ _ _ HF7.out (by rw [S_size]; have a1 := HPL.out; rw [HPS.out] at a1; simp only [List.length_append] at a1 ⊢; omega) HZ7.out).mono ?_
        rintro e w8 ⟨rfl, hf, hb, hkp⟩
        have HF8 := hidm hf
        have HB8 := hidm (show Boxed s _ cap w w8 from Below.trans HB7.out (hb.mono hBw))
        have HZ8 := hidm (Nat.le_trans HZ7.out hb.size)
        have HPE : Hid (Bld.Is w1.heap.size w1.heap.size (preB s (i + 1)) w8) := by
          refine hidm ?_
          rw [HPS.out]
          have e0 : preB s i ++ (tB x.nm ++ (uB kk ++ uB bt)) = ((preB s i ++ (S (tB x.nm)).data.toList) ++ (S (uB kk)).data.toList) ++ (S (uB bt)).data.toList := by simp
          rw [e0]; exact HF8.out
        clear hf hb hkp
        go_wp2_with fail
        go_roundw
        case rel => exact ⟨i + 1, by go_num, by omega, HPE, HB8, HZ8⟩
        case measure => simp [intOf]; omega
      · have f1 : ¬ (i : Int) < n := by omega
        obtain rfl : i = n := by omega
        go_wp2_with fail
        refine (Bld.string_any _ _ _ _ HF1.out HZ1.out).mono ?_
        rintro e w3 ⟨rfl, _, hb3⟩
        have HB3 := hidm (show Boxed s ao cap w w3 from Below.trans HB1.out (hb3.mono hBw))
        clear hb3
        go_wp2_with fail
        go_ret
        refine ⟨congrArg (fun q => Ending.returned (.string q)) ?_, HB3.out.below⟩
        rw [HFF.out, HN.out, preB_end]
end Sch
end Go.Proofs.YtopmbhpjdmcabaaGreat
