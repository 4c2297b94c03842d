/- The document's Bytes, ahead, among. Condition: texts below 2^62. -/
import Derived.Test.YtapdhelioecneaaU3
import Derived.Lib.Hide
import Derived.Deep.LoopGhost
import Derived.WalkSmall
import Derived.Laws.Bits64b
namespace Go.Proofs.Ytapdhelioecneaa
open Go.RowKit
namespace Idx
def cmpL (A B : List UInt8) : Int := if Op.bytesLess A B = true then -1 else if A = B then 0 else 1
theorem cmpL_same (c : UInt8) (A B : List UInt8) : cmpL (c :: A) (c :: B) = cmpL A B := by
  unfold cmpL
  have h : Op.bytesLess (c :: A) (c :: B) = Op.bytesLess A B := by simp [Op.bytesLess]
  rw [h]; simp
theorem cmpL_less {c d : UInt8} (h : c < d) (A B : List UInt8) : cmpL (c :: A) (d :: B) = -1 := by
  unfold cmpL
  rw [if_pos (by simp [Op.bytesLess, h])]
theorem cmpL_more {c d : UInt8} (h : d < c) (A B : List UInt8) : cmpL (c :: A) (d :: B) = 1 := by
  unfold cmpL
  have h1 : ¬ c < d := by have := UInt8.lt_iff_toNat_lt.1 h; rw [UInt8.lt_iff_toNat_lt]; omega
  have h2 : ¬ c = d := fun e => by subst e; exact h1 h
  rw [if_neg (by simp [Op.bytesLess, h1, h2]), if_neg (by simp [h2])]
theorem cmpL_nil : cmpL [] [] = 0 := by unfold cmpL; simp [Op.bytesLess]
theorem cmpL_short (d : UInt8) (B : List UInt8) : cmpL [] (d :: B) = -1 := by unfold cmpL; simp [Op.bytesLess]
theorem cmpL_long (c : UInt8) (A : List UInt8) : cmpL (c :: A) [] = 1 := by unfold cmpL; simp [Op.bytesLess]
theorem drop_one (s : ByteArray) (p : Nat) (hp : p < s.size) : s.data.toList.drop p = s[p] :: s.data.toList.drop (p + 1) := by
  rw [List.drop_eq_getElem_cons (by simpa using hp)]; rfl
theorem drop_all (s : ByteArray) : s.data.toList.drop s.size = [] := List.drop_of_length_le (by simp)
set_option maxHeartbeats 2000000 in
theorem bytes_any (a b : ByteArray) (w : World) (ha : a.size < 4611686018427387904) (hb : b.size < 4611686018427387904) :
    Calls Try.prog 57 #[.string a, .string b] w fun e w' => e = .returned (.int .i64 (cmpL a.data.toList b.data.toList)) ∧ Below w.heap.size w w' := by
  obtain ⟨F, hF⟩ : ∃ F, F = cmpL a.data.toList b.data.toList := ⟨_, rfl⟩
  rw [← hF]
  have HF := Lib.hid hF
  clear hF
  go_enter Try.func57, Try.ntmps57
  go_wp2_with fail
  go_loopw [5] (fun ii wr => ∃ i : Nat, ii = .int .i64 i ∧ i ≤ a.size ∧ i ≤ b.size ∧ Hid (F = cmpL (a.data.toList.drop i) (b.data.toList.drop i)) ∧ Hid (Below w.heap.size w wr)) (fun ii _ => a.size - (intOf ii).toNat)
  case atStart => exact ⟨0, rfl, by omega, by omega, HF, Lib.hid (Below.refl _ _)⟩
  case round =>
    clear HF
    obtain ⟨i, rfl, hia, hib, HF, HB⟩ := hrel
    rcases Nat.eq_or_lt_of_le hia with h1 | h1
    · have f1 : ¬ (i : Int) < (a.size : Int) := by omega
      rcases Nat.eq_or_lt_of_le hib with h2 | h2
      · have e : F = 0 := by rw [HF.out]; conv => lhs; arg 1; rw [h1, drop_all]
                             conv => lhs; arg 2; rw [h2, drop_all]
                             exact cmpL_nil
        have f2 : ((a.size : Int) == (b.size : Int)) = true := by simp; omega
        subst e
        clear h1 h2
        go_wp2_with fail
        go_ret
        exact ⟨rfl, HB.out⟩
      · have e : F = -1 := by rw [HF.out]; conv => lhs; arg 1; rw [h1, drop_all]
                              rw [drop_one b i h2]; exact cmpL_short _ _
        have f2 : ((a.size : Int) == (b.size : Int)) = false := by simp; omega
        have f3 : (a.size : Int) < (b.size : Int) := by omega
        subst e
        clear h1 h2
        go_wp2_with fail
        go_ret
        exact ⟨rfl, HB.out⟩
    · have f1 : (i : Int) < (a.size : Int) := by omega
      rcases Nat.eq_or_lt_of_le hib with h2 | h2
      · have e : F = 1 := by rw [HF.out]; conv => lhs; arg 2; rw [h2, drop_all]
                             rw [drop_one a i h1]; exact cmpL_long _ _
        have f2 : ((a.size : Int) == (b.size : Int)) = false := by simp; omega
        have f3 : ¬ (a.size : Int) < (b.size : Int) := by omega
        have f4 : ¬ (i : Int) < (b.size : Int) := by omega
        subst e
        clear h1 h2
        go_wp2_with fail
        go_ret
        exact ⟨rfl, HB.out⟩
      · have f2 : (i : Int) < (b.size : Int) := by omega
        obtain ⟨c, hc⟩ : ∃ c : UInt8, a[i] = c := ⟨_, rfl⟩
        obtain ⟨d, hd⟩ : ∃ d : UInt8, b[i] = d := ⟨_, rfl⟩
        have hF := HF.out
        rw [drop_one a i h1, drop_one b i h2, hc, hd] at hF
        have k1 : ∀ n, (wr.drewN n).heap.size = wr.heap.size := fun _ => rfl
        rcases Nat.lt_trichotomy c.toNat d.toNat with hlt | heq | hgt
        · have e : F = -1 := by rw [hF]; exact cmpL_less (UInt8.lt_iff_toNat_lt.2 hlt) _ _
          have g1 : ((c.toNat : Int) == (d.toNat : Int)) = false := by simp; omega
          have g2 : (c.toNat : Int) < (d.toNat : Int) := by omega
          subst e
          clear hF HF k1
          go_wp2_with fail
          go_quiet (fail)
          go_wp2_with fail
          go_quiet (fail)
          go_wp2_with fail
          go_ret
          exact ⟨rfl, (below_drewN (below_drewN HB.out _) _)⟩
        · have e : c = d := UInt8.toNat_inj.1 heq
          subst e
          have HF2 : Hid (F = cmpL (a.data.toList.drop (i + 1)) (b.data.toList.drop (i + 1))) := Lib.hid (by rw [hF]; exact cmpL_same _ _ _)
          clear hF HF k1 heq
          go_wp2_with fail
          go_quiet (fail)
          go_wp2_with fail
          go_roundw
          case rel => exact ⟨i + 1, by go_num, by omega, by omega, HF2, Lib.hid (below_drewN HB.out _)⟩
          case measure => simp [intOf]; omega
        · have e : F = 1 := by rw [hF]; exact cmpL_more (UInt8.lt_iff_toNat_lt.2 hgt) _ _
          have g1 : ((c.toNat : Int) == (d.toNat : Int)) = false := by simp; omega
          have g2 : ¬ (c.toNat : Int) < (d.toNat : Int) := by omega
          subst e
          clear hF HF k1
          go_wp2_with fail
          go_quiet (fail)
          go_wp2_with fail
          go_quiet (fail)
          go_wp2_with fail
          go_ret
          exact ⟨rfl, (below_drewN (below_drewN HB.out _) _)⟩
theorem bytes_of (A B : List UInt8) (w : World) (ha : A.length ≤ 140737488351232) (hb : B.length ≤ 140737488351232) :
    Calls Try.prog 57 #[.string (S A), .string (S B)] w fun e w' => e = .returned (.int .i64 (cmpL A B)) ∧ Below w.heap.size w w' :=
  bytes_any (S A) (S B) w (by rw [S_size]; omega) (by rw [S_size]; omega)
theorem bytes_is {A B : List UInt8} {c : Int} (h : cmpL A B = c) (w : World) (ha : A.length ≤ 140737488351232) (hb : B.length ≤ 140737488351232) :
    Calls Try.prog 57 #[.string (S A), .string (S B)] w fun e w' => e = .returned (.int .i64 c) ∧ Below w.heap.size w w' := h ▸ bytes_of A B w ha hb
theorem cmpL_neg {A B : List UInt8} : cmpL A B < 0 ↔ Op.bytesLess A B = true := by
  unfold cmpL
  split
  · next h => simp [h]
  · next h => split <;> simp [h]
theorem cmpL_zero {A B : List UInt8} : cmpL A B = 0 ↔ A = B := by
  unfold cmpL
  split
  · next h => constructor
              · intro h9; cases h9
              · intro h9; subst h9; rw [less_irrefl] at h; cases h
  · next h => split <;> simp_all
set_option maxHeartbeats 2000000 in
set_option maxRecDepth 100000 in
theorem rahead_any (x : It) (k : List UInt8) (s : Int) (w : World) (hx : x.k.length ≤ 140737488351232) (hk : k.length ≤ 140737488351232) :
    Calls Try.prog 52 #[.agg #[.string (S x.k), .int .i64 x.s, .int .i64 x.e, .int .i64 x.id], .string (S k), .int .i64 s] w fun e w' => e = .returned (.bool (aheadB x k s)) ∧ Below w.heap.size w w' := by
  have HB0 := hide (below_alloc w (.cells #[.string (S x.k), .int .i64 x.s, .int .i64 x.e, .int .i64 x.id] 36))
  have HX0 := hide (Bx.new w x 36)
  have hlt0 : w.heap.size < (w.alloc (.cells #[.string (S x.k), .int .i64 x.s, .int .i64 x.e, .int .i64 x.id] 36)).heap.size := by simp
  have HLT0 := hide hlt0
  clear hlt0
  obtain ⟨c, hc⟩ : ∃ c, cmpL x.k k = c := ⟨_, rfl⟩
  have C1 := hide (fun u => bytes_is hc u hx hk)
  clear hx hk
  by_cases h1 : c < 0
  · have HE := hide (show aheadB x k s = true from ahead_iff.2 (.inl (cmpL_neg.1 (by rw [hc]; exact h1))))
    rw [HE.out]
    clear hc
    go_enter Try.func52, Try.ntmps52
    go_wp2_with fail
    refine (C1.out _).mono ?_
    rintro e w1 ⟨rfl, hb⟩
    have HB1 := hide (HB0.out.trans (hb.mono HB0.out.size))
    clear hb
    go_wp2_with fail
    go_ret
    exact ⟨rfl, HB1.out⟩
  · by_cases h2 : c = 0
    · have e1 := cmpL_zero.1 (hc.trans h2)
      subst h2
      clear h1
      by_cases h3 : x.s < s
      · have HE := hide (show aheadB x k s = true from ahead_iff.2 (.inr ⟨e1, h3⟩))
        rw [HE.out]
        clear hc e1
        go_enter Try.func52, Try.ntmps52
        go_wp2_with fail
        refine (C1.out _).mono ?_
        rintro e w1 ⟨rfl, hb⟩
        have HB1 := hide (HB0.out.trans (hb.mono HB0.out.size))
        have HX1 := hide (HX0.out.later hb HLT0.out)
        obtain ⟨k0, k1, k2, k3, _⟩ := HX1.out
        clear hb
        go_wp2_with fail
        go_ret
        exact ⟨rfl, HB1.out⟩
      · have HE := hide (show aheadB x k s = false from by
          cases h9 : aheadB x k s with
          | false => rfl
          | true =>
            rcases ahead_iff.1 h9 with h9 | h9
            · rw [e1, less_irrefl] at h9; cases h9
            · exact absurd h9.2 h3)
        rw [HE.out]
        clear hc e1
        go_enter Try.func52, Try.ntmps52
        go_wp2_with fail
        refine (C1.out _).mono ?_
        rintro e w1 ⟨rfl, hb⟩
        have HB1 := hide (HB0.out.trans (hb.mono HB0.out.size))
        have HX1 := hide (HX0.out.later hb HLT0.out)
        obtain ⟨k0, k1, k2, k3, _⟩ := HX1.out
        clear hb
        go_wp2_with fail
        go_ret
        exact ⟨ret_bool (by first | rfl | (simp <;> omega)), HB1.out⟩
    · have HE := hide (show aheadB x k s = false from by
        cases h9 : aheadB x k s with
        | false => rfl
        | true =>
          rcases ahead_iff.1 h9 with h9 | h9
          · exact absurd (by rw [← hc]; exact cmpL_neg.2 h9) h1
          · exact absurd (hc.symm.trans (cmpL_zero.2 h9.1)) h2)
      rw [HE.out]
      have f2 : (c == 0) = false := by simpa using h2
      clear hc
      go_enter Try.func52, Try.ntmps52
      go_wp2_with fail
      refine (C1.out _).mono ?_
      rintro e w1 ⟨rfl, hb⟩
      have HB1 := hide (HB0.out.trans (hb.mono HB0.out.size))
      clear hb
      go_wp2_with fail
      go_ret
      exact ⟨ret_bool (by first | rfl | (simp <;> omega)), HB1.out⟩
theorem rahead_is {x : It} {k : List UInt8} {s : Int} {b : Bool} (h : aheadB x k s = b) (w : World) (hx : x.k.length ≤ 140737488351232) (hk : k.length ≤ 140737488351232) :
    Calls Try.prog 52 #[.agg #[.string (S x.k), .int .i64 x.s, .int .i64 x.e, .int .i64 x.id], .string (S k), .int .i64 s] w fun e w' => e = .returned (.bool b) ∧ Below w.heap.size w w' := h ▸ rahead_any x k s w hx hk
set_option maxHeartbeats 2000000 in
set_option maxRecDepth 100000 in
theorem ramong_any (k lo hi : List UInt8) (w : World) (hk : k.length ≤ 140737488351232) (hl : lo.length ≤ 140737488351232) (hh : hi.length ≤ 140737488351232) :
    Calls Try.prog 43 #[.string (S k), .string (S lo), .string (S hi)] w fun e w' => e = .returned (.bool (amongB k lo hi)) ∧ Below w.heap.size w w' := by
  obtain ⟨c, hc⟩ : ∃ c, cmpL k lo = c := ⟨_, rfl⟩
  obtain ⟨d, hd⟩ : ∃ d, cmpL k hi = d := ⟨_, rfl⟩
  have C1 := hide (fun u => bytes_is hc u hk hl)
  have C2 := hide (fun u => bytes_is hd u hk hh)
  clear hk hl hh
  have HC := hide (cmpL_neg (A := k) (B := lo))
  have HD := hide (cmpL_neg (A := k) (B := hi))
  rw [hc] at HC
  rw [hd] at HD
  clear hc hd
  by_cases h1 : c < 0
  · have HE := hide (show amongB k lo hi = false from by unfold amongB; rw [HC.out.1 h1]; simp)
    rw [HE.out]
    go_enter Try.func43, Try.ntmps43
    go_wp2_with fail
    refine (C1.out _).mono ?_
    rintro e w1 ⟨rfl, hb⟩
    have HB1 := hide hb
    clear hb
    go_wp2_with fail
    go_ret
    exact ⟨ret_bool (by first | rfl | (simp <;> omega)), HB1.out⟩
  · have HLO := hide (show Op.bytesLess k lo = false from by simpa using fun h9 => h1 (HC.out.2 h9))
    have g1 : 0 ≤ c := by omega
    by_cases h2 : hi = []
    · subst h2
      have HE := hide (show amongB k lo [] = true from by unfold amongB; rw [HLO.out]; simp)
      rw [HE.out]
      go_enter Try.func43, Try.ntmps43
      go_wp2_with fail
      refine (C1.out _).mono ?_
      rintro e w1 ⟨rfl, hb⟩
      have HB1 := hide hb
      clear hb
      go_wp2_with fail
      go_ret
      exact ⟨rfl, HB1.out⟩
    · have f2 : (hi == []) = false := by simpa using h2
      have f3 : ¬ hi.toArray = #[] := by simpa using h2
      by_cases h3 : d < 0
      · have HE := hide (show amongB k lo hi = true from by unfold amongB; rw [HLO.out, HD.out.1 h3]; simp)
        rw [HE.out]
        go_enter Try.func43, Try.ntmps43
        go_wp2_with fail
        refine (C1.out _).mono ?_
        rintro e w1 ⟨rfl, hb⟩
        have HB1 := hide hb
        clear hb
        go_wp2_with fail
        refine (C2.out _).mono ?_
        rintro e w2 ⟨rfl, hb⟩
        have HB2 := hide (HB1.out.trans (hb.mono HB1.out.size))
        clear hb
        go_wp2_with fail
        go_ret
        exact ⟨rfl, HB2.out⟩
      · have HE := hide (show amongB k lo hi = false from by
          unfold amongB
          rw [show Op.bytesLess k hi = false from by simpa using fun h9 => h3 (HD.out.2 h9)]
          simp [h2])
        rw [HE.out]
        go_enter Try.func43, Try.ntmps43
        go_wp2_with fail
        refine (C1.out _).mono ?_
        rintro e w1 ⟨rfl, hb⟩
        have HB1 := hide hb
        clear hb
        go_wp2_with fail
        refine (C2.out _).mono ?_
        rintro e w2 ⟨rfl, hb⟩
        have HB2 := hide (HB1.out.trans (hb.mono HB1.out.size))
        clear hb
        go_wp2_with fail
        go_ret
        exact ⟨ret_bool (by first | rfl | (simp <;> omega)), HB2.out⟩
theorem ramong_is {k lo hi : List UInt8} {b : Bool} (h : amongB k lo hi = b) (w : World) (hk : k.length ≤ 140737488351232) (hl : lo.length ≤ 140737488351232) (hh : hi.length ≤ 140737488351232) :
    Calls Try.prog 43 #[.string (S k), .string (S lo), .string (S hi)] w fun e w' => e = .returned (.bool b) ∧ Below w.heap.size w w' := h ▸ ramong_any k lo hi w hk hl hh
end Idx
end Go.Proofs.Ytapdhelioecneaa
