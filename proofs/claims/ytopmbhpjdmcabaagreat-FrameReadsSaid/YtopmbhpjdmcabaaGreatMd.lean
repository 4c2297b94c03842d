/- The document's Name (layer 5). Condition: a text is at most 2^48 bytes. -/
/- The document's Right (layer 5). Condition: names are at most 2^48 bytes, and there are at most a million columns. -/
import Derived.Test.YtopmbhpjdmcabaaGreatJg
namespace Go.Proofs.YtopmbhpjdmcabaaGreat
open Go.RowKit
namespace Sch
open Cod
theorem nm_at {s : ByteArray} {i n : Nat} (hi : i < s.size) (hn : n = (s[i]'hi).toNat) : nmAt s.data.toList i = ((decide (97 ≤ n) && decide (n ≤ 122) || n == 95) || (i != 0 && (decide (48 ≤ n) && decide (n ≤ 57)))) := by
  rw [nmAt_at (show i < s.data.toList.length by simpa using hi), byte_at s i hi, hn]; rfl
set_option maxHeartbeats 4000000 in
set_option maxRecDepth 100000 in
theorem rname_any (s : ByteArray) (hs : s.size ≤ 281474976710656) (w : World) :
    Calls Tryz.prog 30 #[.string s] w fun e w' => e = .returned (.bool (nameB s.data.toList)) ∧ Below w.heap.size w w' := by
  have hsz : s.data.toList.length = s.size := Array.length_toList
  obtain ⟨F, hF⟩ : ∃ F, F = nameB s.data.toList := ⟨_, rfl⟩
  rw [← hF]
  have HF := hidm hF
  clear hF hsz
  go_enter Tryz.func30, Tryz.ntmps30
  go_wp2_with fail
  go_loop [3] (fun ii => ∃ i : Nat, i ≤ s.size ∧ ii = .int .i64 i ∧ Hid (∀ j, j < i → nmAt s.data.toList j = true)) (fun ii => s.size - (intOf ii).toNat)
  case atStart => exact ⟨0, by omega, rfl, hidm (fun j hj => by omega)⟩
  case round =>
    obtain ⟨i, hi, rfl, HP⟩ := hrel
    by_cases hp : i < s.size
    · have hpl : i < s.data.toList.length := by simpa using hp
      obtain ⟨n, hn⟩ : ∃ n, n = (s[i]'hp).toNat := ⟨_, rfl⟩
      have hat := nm_at hp hn
      have hn2 : ((s[i]'hp).toNat : Int) = (n : Int) := by rw [hn]
      have hnb : n < 256 := by rw [hn]; exact (s[i]'hp).toNat_lt
      clear hn
      have hcase : (97 ≤ n ∧ n ≤ 122) ∨ (n < 97 ∧ n = 95) ∨ (n < 97 ∧ n ≠ 95 ∧ 48 ≤ n ∧ n ≤ 57) ∨ (n < 97 ∧ n ≠ 95 ∧ n < 48) ∨ (n < 97 ∧ n ≠ 95 ∧ 57 < n) ∨ (122 < n) := by omega
      rcases hcase with ⟨h1, h2⟩ | ⟨h1, h2⟩ | ⟨h1, h2, h3, h4⟩ | ⟨h1, h2, h3⟩ | ⟨h1, h2, h3⟩ | h1
      · have HP2 := hidm (show ∀ j, j < i + 1 → nmAt s.data.toList j = true from fun j hj => by
          rcases Nat.lt_or_ge j i with h | h
          · exact HP.out j h
          · obtain rfl : j = i := by omega
            rw [hat]; simp; omega)
        have g1 : (97 : Int) ≤ n := by omega
        have g2 : (n : Int) ≤ 122 := by omega
        clear hat HP
        go_wp2_with fail
        go_round
        case rel => exact ⟨i + 1, by omega, by go_num, HP2⟩
        case measure => simp [intOf]; omega
      · have HP2 := hidm (show ∀ j, j < i + 1 → nmAt s.data.toList j = true from fun j hj => by
          rcases Nat.lt_or_ge j i with h | h
          · exact HP.out j h
          · obtain rfl : j = i := by omega
            rw [hat]; simp; omega)
        have g1 : (n : Int) < 97 := by omega
        have g2 : ((n : Int) == 95) = true := by simp; omega
        clear hat HP
        go_wp2_with fail
        go_round
        case rel => exact ⟨i + 1, by omega, by go_num, HP2⟩
        case measure => simp [intOf]; omega
      · rcases Nat.eq_zero_or_pos i with hi0 | hi0
        · have HF0 := hidm (show F = false from by rw [HF.out]; exact name_no hpl (by rw [hat]; subst hi0; simp; omega))
          subst hi0
          have g1 : (n : Int) < 97 := by omega
          have g2 : ((n : Int) == 95) = false := by simp; omega
          have g3 : (48 : Int) ≤ n := by omega
          have g4 : (n : Int) ≤ 57 := by omega
          clear hat HP
          go_wp2_with fail
          go_ret
          exact ⟨Val.ret_bool HF0.out.symm, Below.refl _ _⟩
        · have HP2 := hidm (show ∀ j, j < i + 1 → nmAt s.data.toList j = true from fun j hj => by
            rcases Nat.lt_or_ge j i with h | h
            · exact HP.out j h
            · obtain rfl : j = i := by omega
              rw [hat]; simp; omega)
          have hi1 : ((i : Int) == 0) = false := by simp; omega
          have g1 : (n : Int) < 97 := by omega
          have g2 : ((n : Int) == 95) = false := by simp; omega
          have g3 : (48 : Int) ≤ n := by omega
          have g4 : (n : Int) ≤ 57 := by omega
          clear hat HP
          go_wp2_with fail
          go_round
          case rel => exact ⟨i + 1, by omega, by go_num, HP2⟩
          case measure => simp [intOf]; omega
      · rcases Nat.eq_zero_or_pos i with hi0 | hi0
        · have HF0 := hidm (show F = false from by rw [HF.out]; exact name_no hpl (by rw [hat]; subst hi0; simp; omega))
          subst hi0
          have g1 : (n : Int) < 97 := by omega
          have g2 : ((n : Int) == 95) = false := by simp; omega
          have g3 : (n : Int) < 48 := by omega
          clear hat HP
          go_wp2_with fail
          go_ret
          exact ⟨Val.ret_bool HF0.out.symm, Below.refl _ _⟩
        · have HF0 := hidm (show F = false from by rw [HF.out]; exact name_no hpl (by rw [hat]; simp; omega))
          have hi1 : ((i : Int) == 0) = false := by simp; omega
          have g1 : (n : Int) < 97 := by omega
          have g2 : ((n : Int) == 95) = false := by simp; omega
          have g3 : (n : Int) < 48 := by omega
          clear hat HP
          go_wp2_with fail
          go_ret
          exact ⟨Val.ret_bool HF0.out.symm, Below.refl _ _⟩
      · rcases Nat.eq_zero_or_pos i with hi0 | hi0
        · have HF0 := hidm (show F = false from by rw [HF.out]; exact name_no hpl (by rw [hat]; subst hi0; simp; omega))
          subst hi0
          have g1 : (n : Int) < 97 := by omega
          have g2 : ((n : Int) == 95) = false := by simp; omega
          have g3 : (48 : Int) ≤ n := by omega
          have g4 : (57 : Int) < n := by omega
          clear hat HP
          go_wp2_with fail
          go_ret
          exact ⟨Val.ret_bool HF0.out.symm, Below.refl _ _⟩
        · have HF0 := hidm (show F = false from by rw [HF.out]; exact name_no hpl (by rw [hat]; simp; omega))
          have hi1 : ((i : Int) == 0) = false := by simp; omega
          have g1 : (n : Int) < 97 := by omega
          have g2 : ((n : Int) == 95) = false := by simp; omega
          have g3 : (48 : Int) ≤ n := by omega
          have g4 : (57 : Int) < n := by omega
          clear hat HP
          go_wp2_with fail
          go_ret
          exact ⟨Val.ret_bool HF0.out.symm, Below.refl _ _⟩
      · rcases Nat.eq_zero_or_pos i with hi0 | hi0
        · have HF0 := hidm (show F = false from by rw [HF.out]; exact name_no hpl (by rw [hat]; subst hi0; simp; omega))
          subst hi0
          have g0 : (97 : Int) ≤ n := by omega
          have g1 : decide ((n : Int) ≤ 122) = false := decide_eq_false (by omega)
          have g2 : ((n : Int) == 95) = false := by simp; omega
          have g3 : (48 : Int) ≤ n := by omega
          have g4 : (57 : Int) < n := by omega
          clear hat HP
          go_wp2_with fail
          go_ret
          exact ⟨Val.ret_bool HF0.out.symm, Below.refl _ _⟩
        · have HF0 := hidm (show F = false from by rw [HF.out]; exact name_no hpl (by rw [hat]; simp; omega))
          have hi1 : ((i : Int) == 0) = false := by simp; omega
          have g0 : (97 : Int) ≤ n := by omega
          have g1 : decide ((n : Int) ≤ 122) = false := decide_eq_false (by omega)
          have g2 : ((n : Int) == 95) = false := by simp; omega
          have g3 : (48 : Int) ≤ n := by omega
          have g4 : (57 : Int) < n := by omega
          clear hat HP
          go_wp2_with fail
          go_ret
          exact ⟨Val.ret_bool HF0.out.symm, Below.refl _ _⟩
    · have hF : F = (decide (1 ≤ s.size) && decide (s.size ≤ 32)) := by
        have hsz : s.data.toList.length = s.size := Array.length_toList
        rw [HF.out, name_end (fun j hj => HP.out j (by rw [hsz] at hj; omega)), hsz]
      have HFF := hidm hF
      clear hF HP
      have hc : s.size < 1 ∨ (1 ≤ s.size ∧ s.size ≤ 32) ∨ (1 ≤ s.size ∧ 32 < s.size) := by omega
      have hp2 : s.size ≤ i := by omega
      rcases hc with hc | ⟨hc, hc2⟩ | ⟨hc, hc2⟩
      · have HF2 := hidm (show F = false from by rw [HFF.out, decide_eq_false (by omega)]; rfl)
        go_wp2_with fail
        go_ret
        exact ⟨Val.ret_bool HF2.out.symm, Below.refl _ _⟩
      · have HF2 := hidm (show F = true from by rw [HFF.out, decide_eq_true hc, decide_eq_true hc2]; rfl)
        go_wp2_with fail
        go_ret
        exact ⟨Val.ret_bool (by rw [HF2.out]; exact decide_eq_true (by omega)), Below.refl _ _⟩
      · have HF2 := hidm (show F = false from by rw [HFF.out, decide_eq_true hc, decide_eq_false (by omega)]; rfl)
        go_wp2_with fail
        go_ret
        exact ⟨Val.ret_bool (by rw [HF2.out]; exact decide_eq_false (by omega)), Below.refl _ _⟩
end Sch
end Go.Proofs.YtopmbhpjdmcabaaGreat
namespace Go.Proofs.YtopmbhpjdmcabaaGreat
open Go.RowKit
namespace Sch
open Cod
theorem rname_is {s : ByteArray} {b : Bool} (h : nameB s.data.toList = b) (hs : s.size ≤ 281474976710656) (w : World) :
    Calls Tryz.prog 30 #[.string s] w fun e w' => e = .returned (.bool b) ∧ Below w.heap.size w w' := h ▸ rname_any s hs w
theorem has_take_succ {cs : List C} {n : List UInt8} {i : Nat} (hi : i < cs.length) : hasB (cs.take (i + 1)) n = (hasB (cs.take i) n || decide (cs[i].nm = n)) := any_take_succ hi
set_option maxHeartbeats 8000000 in
set_option maxRecDepth 100000 in
theorem rright_any (s : T) (hl : Lim s) (sl : Value) (w : World) (h : ColsAt s.cols sl w) :
    Calls Tryz.prog 29 #[.agg #[.string (S s.nm), sl, .int .i64 s.keys]] w fun e w' => e = .returned (.bool (rightB s)) ∧ Below w.heap.size w w' := by
  obtain ⟨ao, cap, rfl, hcl, hcm⟩ := h.form
  have H := hidm h
  have HL := hidm hl
  have HS0 := hidm (Boxed.start s ao cap w)
  have N := fun (b : Bool) (hb : nameB s.nm = b) (w : World) => rname_is (s := S s.nm) (b := b) hb (by rw [S_size]; exact HL.out.nm) w
  clear h hl
  obtain ⟨F, hF⟩ : ∃ F, F = rightB s := ⟨_, rfl⟩
  rw [← hF]
  have HF := hidm hF
  clear hF
  obtain ⟨n, hn⟩ : ∃ n, n = s.cols.length := ⟨_, rfl⟩
  obtain ⟨k, hk⟩ : ∃ k, k = s.keys := ⟨_, rfl⟩
  have HN := hidm hn
  have HK := hidm hk
  have hn9 : n ≤ 1000000 := by have := HL.out.n; omega
  rcases hh : headB s with _ | _
  · have HFF := hidm (show F = false from by rw [HF.out]; exact right_no_head hh)
    rcases hb : nameB s.nm with _ | _
    · have N1 := N false hb
      rw [← hn, ← hk]
      have HSB := hidm (show Below w.heap.size w (w.alloc (.cells #[.string (S s.nm), .slice ao n cap, .int .i64 k] 30)) from (Below.refl _ _).alloc (Nat.le_refl _) _)
      clear hn hk hh hb N
      go_enter Tryz.func29, Tryz.ntmps29
      go_wp2_with (go_at_call 30; refine (N1 _).mono ?_; rintro e w1 ⟨rfl, hb1⟩; obtain ⟨hc1, hf1⟩ := Val.bcell hb1)
      go_ret
      exact ⟨Val.ret_bool HFF.out.symm, HSB.out.trans (hb1.mono HSB.out.size)⟩
    · have N1 := N true hb
      have hcase : n < 1 ∨ (1 ≤ n ∧ 16 < n) ∨ (1 ≤ n ∧ n ≤ 16 ∧ k < 1) ∨ (1 ≤ n ∧ n ≤ 16 ∧ 1 ≤ k ∧ 8 < k) ∨ (1 ≤ n ∧ n ≤ 16 ∧ 1 ≤ k ∧ k ≤ 8 ∧ (n : Int) < k) := by
        unfold headB at hh
        rw [hb, Bool.true_and, ← hn, ← hk] at hh
        simp only [Bool.and_eq_false_iff, decide_eq_false_iff_not] at hh
        omega
      rw [← hn, ← hk]
      have HSB := hidm (show Below w.heap.size w (w.alloc (.cells #[.string (S s.nm), .slice ao n cap, .int .i64 k] 30)) from (Below.refl _ _).alloc (Nat.le_refl _) _)
      clear hh hb N hk hn
      rcases hcase with h1 | ⟨h0, h1⟩ | ⟨h0, h1, h2⟩ | ⟨h0, h1, h2, h3⟩ | ⟨h0, h1, h2, h3, h4⟩
      all_goals
        go_enter Tryz.func29, Tryz.ntmps29
        go_wp2_with (go_at_call 30; refine (N1 _).mono ?_; rintro e w1 ⟨rfl, hb1⟩; obtain ⟨hc1, hf1⟩ := Val.bcell hb1)
        go_ret
        exact ⟨Val.ret_bool HFF.out.symm, HSB.out.trans (hb1.mono HSB.out.size)⟩
  · obtain ⟨hb, h1, h2, h3, h4⟩ := head_parts hh
    have N1 := N true hb
    rw [← hn] at h1 h4
    rw [← hk] at h2 h3 h4
    have h0 : 1 ≤ n := by omega
    have HH := hidm hh
    rw [← hn, ← hk]
    clear hh hb N hk hn hcl
    go_enter Tryz.func29, Tryz.ntmps29
    go_wp2_with (go_at_call 30; refine (N1 _).mono ?_; rintro e w1 ⟨rfl, hb1⟩; obtain ⟨hc1, hf1⟩ := Val.bcell hb1)
    go_loopw [4] (fun v wr => ∃ i : Nat, i ≤ n ∧ v = .int .i64 i ∧ Hid (Boxed s ao cap w wr) ∧ Hid (∀ j, j < i → colAt s j = true)) (fun v _ => n - (intOf v).toNat)
    case atStart => exact ⟨0, by omega, rfl, hidm (by have g := HS0.out.then (by rw [← HN.out, ← HK.out]; exact hb1); exact g), hidm (fun j hj => by omega)⟩
    case round =>
      clear hb1 hc1 hf1 N1
      obtain ⟨i, hi, rfl, HB, HP⟩ := hrel
      rcases Nat.lt_or_ge i n with hlt | hge
      · have f1 : (i : Int) < n := by omega
        have hia : i < s.cols.length := by have := HN.out; omega
        have HCA := hidm (H.out.later HB.out.below)
        obtain ⟨b1, o1, c1, he1, _, q0, q1, q2⟩ := HCA.out.at i hia
        simp only [Value.slice.injEq] at he1
        obtain ⟨rfl, _, rfl⟩ := he1
        obtain ⟨x, hx⟩ : ∃ x, x = s.cols[i] := ⟨_, rfl⟩
        rw [← hx] at q0 q1 q2
        have HX := hidm hx
        have HXL := hidm (show (S x.nm).size ≤ 281474976710656 from by rw [S_size]; exact HL.out.cn x (by rw [hx]; exact List.getElem_mem hia))
        clear hx
        have d1 := HB.out.c1
        rw [← HN.out] at d1
        have hat := colAt_at (s := s) hia
        rw [← HX.out, ← HK.out] at hat
        obtain ⟨kk, hkk⟩ : ∃ q, q = x.k := ⟨_, rfl⟩
        obtain ⟨dd, hdd⟩ : ∃ q, q = x.nd := ⟨_, rfl⟩
        rw [← hkk] at q1
        rw [← hdd] at q2 hat
        have hci : colIs x = (nameB x.nm && (decide (1 ≤ kk) && decide (kk ≤ 5))) := by rw [hkk]; rfl
        rw [hci] at hat
        have hbA : Below wr.heap.size wr (wr.alloc (.cells #[.string (S x.nm), .int .i64 kk, .bool dd] 81)) := (Below.refl _ _).alloc (Nat.le_refl _) _
        have HKA := hidm (heap_alloc_new wr (.cells #[.string (S x.nm), .int .i64 kk, .bool dd] 81))
        have HBA := hidm (HB.out.then hbA)
        clear hkk hdd hci hbA
        rcases hnm : nameB x.nm with _ | _
        · have HFF := hidm (show F = false from by rw [HF.out]; exact right_no hia (by rw [hat, hnm]; rfl))
          have NX := fun w => rname_is (s := S x.nm) (b := false) hnm HXL.out w
          clear hat hnm
          go_wp2_with fail
          refine (NX _).mono ?_
          rintro e w2 ⟨rfl, hb2⟩
          have HB2 := hidm (HBA.out.then hb2)
          clear hb2 NX
          go_wp2_with fail
          go_ret
          exact ⟨Val.ret_bool HFF.out.symm, HB2.out.below⟩
        · have NX := fun w => rname_is (s := S x.nm) (b := true) hnm HXL.out w
          rw [hnm, Bool.true_and] at hat
          clear hnm
          have hcase : kk < 1 ∨ (1 ≤ kk ∧ 5 < kk) ∨ (1 ≤ kk ∧ kk ≤ 5 ∧ (i : Int) < k) ∨ (1 ≤ kk ∧ kk ≤ 5 ∧ k ≤ (i : Int)) := by omega
          go_wp2_with fail
          refine (NX _).mono ?_
          rintro e w2 ⟨rfl, hb2⟩
          have HB2 := hidm (HBA.out.then hb2)
          have HK2 := hidm (below_keeps hb2 HKA.out)
          obtain ⟨x0, x1, x2⟩ := three HK2.out
          have e2 := HB2.out.c2
          rw [← HK.out] at e2
          clear hb2 NX
          rcases hcase with g1 | ⟨g1, g2⟩ | ⟨g1, g2, g3⟩ | ⟨g1, g2, g3⟩
          · have HFF := hidm (show F = false from by rw [HF.out]; exact right_no hia (by rw [hat, decide_eq_false (by omega)]; rfl))
            clear hat
            go_wp2_with fail
            go_ret
            exact ⟨Val.ret_bool HFF.out.symm, HB2.out.below⟩
          · have HFF := hidm (show F = false from by rw [HF.out]; exact right_no hia (by rw [hat, decide_eq_true g1, decide_eq_false (by omega)]; rfl))
            clear hat
            go_wp2_with fail
            go_ret
            exact ⟨Val.ret_bool HFF.out.symm, HB2.out.below⟩
          · rcases dd with _ | _
            · have HFF := hidm (show F = false from by rw [HF.out]; exact right_no hia (by rw [hat, decide_eq_false (show ¬ k ≤ (i : Int) by omega)]; simp))
              clear hat
              go_wp2_with fail
              go_ret
              exact ⟨Val.ret_bool HFF.out.symm, HB2.out.below⟩
            · have hat2 : colAt s i = !hasB (s.cols.take i) x.nm := by rw [hat, decide_eq_true g1, decide_eq_true g2]; simp
              have HAT := hidm hat2
              have hgd := g3
              have HCOL := hidm (show w2.heap[wr.heap.size]? = some (.cells #[.string (S x.nm), .int .i64 kk, .bool true] 81 (0, 0)) from HK2.out)
              clear hat hat2 q0 q1 q2 d1
              go_wp2_with fail
              clear x0 x1 x2 e2
              go_loopw [6] (fun v wv => ∃ q : Nat, q ≤ i ∧ v = .int .i64 q ∧ Hid (Boxed s (some ⟨b1, o1, none⟩) cap w wv) ∧ Hid (wv.heap[wr.heap.size]? = some (.cells #[.string (S x.nm), .int .i64 kk, .bool true] 81 (0, 0))) ∧ Hid (hasB (s.cols.take q) x.nm = false)) (fun v _ => i - (intOf v).toNat)
              case atStart => exact ⟨0, by omega, rfl, HB2, HCOL, hidm rfl⟩
              case round =>
                clear HB2 HCOL HK2 HBA HKA
                obtain ⟨q, hq, rfl, HBV, HKV, HQ⟩ := hrel
                rcases Nat.lt_or_ge q i with hqi | hqi
                · have f2 : (q : Int) < i := by omega
                  have f3 : (q : Int) < n := by omega
                  have hqa : q < s.cols.length := by have := HN.out; omega
                  obtain ⟨b3, o3, c3, he3, _, r0, _, _⟩ := (H.out.later HBV.out.below).at q hqa
                  simp only [Value.slice.injEq, Option.some.injEq, Addr.mk.injEq] at he3
                  obtain ⟨⟨rfl, rfl, _⟩, _, rfl⟩ := he3
                  obtain ⟨y, hy⟩ : ∃ y, y = s.cols[q] := ⟨_, rfl⟩
                  rw [← hy] at r0
                  have HY := hidm hy
                  clear hy
                  obtain ⟨x0, x1, x2⟩ := three HKV.out
                  have d1 := HBV.out.c1
                  rw [← HN.out] at d1
                  by_cases hyx : y.nm = x.nm
                  · have HFF := hidm (show F = false from by
                      rw [HF.out]
                      refine right_no hia ?_
                      rw [HAT.out]
                      have : hasB (s.cols.take i) x.nm = true := by
                        unfold hasB
                        exact List.any_eq_true.2 ⟨s.cols[q], List.mem_take_iff_getElem.2 ⟨q, by omega, rfl⟩, by rw [← HY.out]; simpa using hyx⟩
                      rw [this]; rfl)
                    have t1 : (y.nm == x.nm) = true := by simpa using hyx
                    clear hyx
                    go_wp2_with fail
                    go_quiet (fail)
                    go_wp2_with fail
                    go_ret
                    exact ⟨Val.ret_bool HFF.out.symm, below_drewN HBV.out.below _⟩
                  · have HQ2 := hidm (show hasB (s.cols.take (q + 1)) x.nm = false from by rw [has_take_succ hqa, HQ.out, ← HY.out, Bool.false_or]; simpa using hyx)
                    have t1 : (y.nm == x.nm) = false := by simpa using hyx
                    clear hyx
                    go_wp2_with fail
                    go_quiet (fail)
                    go_wp2_with fail
                    go_roundw
                    case rel => exact ⟨q + 1, by omega, by go_num, hidm (HBV.out.then (below_drewN (Below.refl _ _) _)), hidm (below_keeps (below_drewN (Below.refl _ _) _) HKV.out), HQ2⟩
                    case measure => simp [intOf]; omega
                · have f2 : ¬ (q : Int) < i := by omega
                  obtain rfl : q = i := by omega
                  have HP2 := hidm (show ∀ j, j < q + 1 → colAt s j = true from fun j hj => by
                    rcases Nat.lt_or_ge j q with h | h
                    · exact HP.out j h
                    · obtain rfl : j = q := by omega
                      rw [HAT.out, HQ.out]; rfl)
                  go_wp2_with fail
                  go_roundw
                  case rel => exact ⟨q + 1, by omega, by go_num, HBV, HP2⟩
                  case measure => simp [intOf]; omega
          · have hat2 : colAt s i = !hasB (s.cols.take i) x.nm := by rw [hat, decide_eq_true g1, decide_eq_true g2, decide_eq_true g3]; simp
            have HAT := hidm hat2
            have hgd := g3
            have HCOL := hidm (show w2.heap[wr.heap.size]? = some (.cells #[.string (S x.nm), .int .i64 kk, .bool dd] 81 (0, 0)) from HK2.out)
            clear hat hat2 q0 q1 q2 d1
            go_wp2_with fail
            clear x0 x1 x2 e2
            go_loopw [6] (fun v wv => ∃ q : Nat, q ≤ i ∧ v = .int .i64 q ∧ Hid (Boxed s (some ⟨b1, o1, none⟩) cap w wv) ∧ Hid (wv.heap[wr.heap.size]? = some (.cells #[.string (S x.nm), .int .i64 kk, .bool dd] 81 (0, 0))) ∧ Hid (hasB (s.cols.take q) x.nm = false)) (fun v _ => i - (intOf v).toNat)
            case atStart => exact ⟨0, by omega, rfl, HB2, HCOL, hidm rfl⟩
            case round =>
              clear HB2 HCOL HK2 HBA HKA
              obtain ⟨q, hq, rfl, HBV, HKV, HQ⟩ := hrel
              rcases Nat.lt_or_ge q i with hqi | hqi
              · have f2 : (q : Int) < i := by omega
                have f3 : (q : Int) < n := by omega
                have hqa : q < s.cols.length := by have := HN.out; omega
                obtain ⟨b3, o3, c3, he3, _, r0, _, _⟩ := (H.out.later HBV.out.below).at q hqa
                simp only [Value.slice.injEq, Option.some.injEq, Addr.mk.injEq] at he3
                obtain ⟨⟨rfl, rfl, _⟩, _, rfl⟩ := he3
                obtain ⟨y, hy⟩ : ∃ y, y = s.cols[q] := ⟨_, rfl⟩
                rw [← hy] at r0
                have HY := hidm hy
                clear hy
                obtain ⟨x0, x1, x2⟩ := three HKV.out
                have d1 := HBV.out.c1
                rw [← HN.out] at d1
                by_cases hyx : y.nm = x.nm
                · have HFF := hidm (show F = false from by
                    rw [HF.out]
                    refine right_no hia ?_
                    rw [HAT.out]
                    have : hasB (s.cols.take i) x.nm = true := by
                      unfold hasB
                      exact List.any_eq_true.2 ⟨s.cols[q], List.mem_take_iff_getElem.2 ⟨q, by omega, rfl⟩, by rw [← HY.out]; simpa using hyx⟩
                    rw [this]; rfl)
                  have t1 : (y.nm == x.nm) = true := by simpa using hyx
                  clear hyx
                  go_wp2_with fail
                  go_quiet (fail)
                  go_wp2_with fail
                  go_ret
                  exact ⟨Val.ret_bool HFF.out.symm, below_drewN HBV.out.below _⟩
                · have HQ2 := hidm (show hasB (s.cols.take (q + 1)) x.nm = false from by rw [has_take_succ hqa, HQ.out, ← HY.out, Bool.false_or]; simpa using hyx)
                  have t1 : (y.nm == x.nm) = false := by simpa using hyx
                  clear hyx
                  go_wp2_with fail
                  go_quiet (fail)
                  go_wp2_with fail
                  go_roundw
                  case rel => exact ⟨q + 1, by omega, by go_num, hidm (HBV.out.then (below_drewN (Below.refl _ _) _)), hidm (below_keeps (below_drewN (Below.refl _ _) _) HKV.out), HQ2⟩
                  case measure => simp [intOf]; omega
              · have f2 : ¬ (q : Int) < i := by omega
                obtain rfl : q = i := by omega
                have HP2 := hidm (show ∀ j, j < q + 1 → colAt s j = true from fun j hj => by
                  rcases Nat.lt_or_ge j q with h | h
                  · exact HP.out j h
                  · obtain rfl : j = q := by omega
                    rw [HAT.out, HQ.out]; rfl)
                go_wp2_with fail
                go_roundw
                case rel => exact ⟨q + 1, by omega, by go_num, HBV, HP2⟩
                case measure => simp [intOf]; omega
      · have f1 : ¬ (i : Int) < n := by omega
        obtain rfl : i = n := by omega
        have HFF := hidm (show F = true from by rw [HF.out]; exact right_yes HH.out (fun j hj => HP.out j (by rw [HN.out]; exact hj)))
        go_wp2_with fail
        go_ret
        exact ⟨Val.ret_bool HFF.out.symm, HB.out.below⟩
end Sch
end Go.Proofs.YtopmbhpjdmcabaaGreat
