/- Stab, Overlap, All, New. Condition: less than a thousand items. -/
import Derived.Test.YtapdhelioecneaaWt
namespace Go.Proofs.Ytapdhelioecneaa
open Go.RowKit
attribute [local go_sem] Oper.semAt_some
namespace Idx
theorem ask_of {L : List It} {w w' : World} {u : Value} (h : Row4 31 (w.heap.size + 5) L u w') (hb : Below w.heap.size w w') : AskX L w (.returned u) w' :=
  ⟨u, rfl, h.items, fun _ g hg => ⟨by have := (h.lt g hg).1; omega, (h.lt g hg).2⟩, hb⟩
theorem wi_over {L : List It} (ho : Ok L) (lo hi : List UInt8) (a b : Int) : L.filter (wiB lo hi a (b - 1)) = over L lo hi a b ∨ b ≤ a := by
  rcases Int.lt_or_le a b with h | h
  · refine .inl (List.filter_congr fun x hx => ?_)
    have hr := ho.one x hx
    unfold RightI at hr
    unfold wiB overB
    congr 1
    rw [Bool.eq_iff_iff, Bool.and_eq_true, decide_eq_true_iff, decide_eq_true_iff, decide_eq_true_iff]
    omega
  · exact .inr h
theorem over_none {L : List It} (lo hi : List UInt8) {a b : Int} (h : b ≤ a) : over L lo hi a b = [] := by
  unfold over
  rw [List.filter_eq_nil_iff]
  intro x hx h9
  unfold overB at h9
  rw [Bool.and_eq_true, decide_eq_true_iff] at h9
  omega
theorem wi_all {L : List It} (ho : Ok L) : L.filter (wiB [] [] 0 1099511627776) = L := by
  rw [List.filter_eq_self]
  intro x hx
  have hr := ho.one x hx
  unfold RightI at hr
  unfold wiB
  rw [among_all, decide_eq_true (show x.s ≤ 1099511627776 by omega), decide_eq_true (show 0 < x.e by omega)]; rfl
set_option maxHeartbeats 1000000 in
set_option maxRecDepth 100000 in
theorem pstab_any {R : Nat} {wn : Int} {Bs : List Bkm} {v : Value} {w : World} (h : St R wn Bs v w) (ho : Ok (its Bs)) (hkb : Kb (its Bs)) (hl : (its Bs).length ≤ 999) (lo hi : List UInt8) (t : Int) :
    Calls Try.prog 20 #[.pointer (some ⟨R, 0, none⟩), .string (S lo), .string (S hi), .int .i64 t] w fun e w' => AskX (stab (its Bs) lo hi t) w e w' := by
  have CW := hide (within_any h ho.up (fun e he => (ho.one e he).1) hkb hl lo hi t t)
  clear h ho hkb hl
  go_enter Try.func20, Try.ntmps20
  go_wp2_with fail
  refine CW.out.mono ?_
  rintro e w1 ⟨u, rfl, hr, hb⟩
  have HA := hide (show AskX (stab (its Bs) lo hi t) w (.returned u) w1 from ask_of hr hb)
  clear hr hb CW
  go_wp2_with fail
  go_ret
  exact HA.out
set_option maxHeartbeats 1000000 in
set_option maxRecDepth 100000 in
theorem pall_any {R : Nat} {wn : Int} {Bs : List Bkm} {v : Value} {w : World} (h : St R wn Bs v w) (ho : Ok (its Bs)) (hkb : Kb (its Bs)) (hl : (its Bs).length ≤ 999) :
    Calls Try.prog 29 #[.pointer (some ⟨R, 0, none⟩)] w fun e w' => AskX (its Bs) w e w' := by
  have CW := hide (within_any h ho.up (fun e he => (ho.one e he).1) hkb hl [] [] 0 1099511627776)
  have HE := hide (wi_all ho)
  clear h ho hkb hl
  go_enter Try.func29, Try.ntmps29
  go_wp2_with fail
  refine CW.out.mono ?_
  rintro e w1 ⟨u, rfl, hr, hb⟩
  rw [HE.out] at hr
  have HA := hide (show AskX (its Bs) w (.returned u) w1 from ask_of hr hb)
  clear hr hb CW
  go_wp2_with fail
  go_ret
  exact HA.out
set_option maxHeartbeats 1000000 in
set_option maxRecDepth 100000 in
theorem pover_any {R : Nat} {wn : Int} {Bs : List Bkm} {v : Value} {w : World} (h : St R wn Bs v w) (ho : Ok (its Bs)) (hkb : Kb (its Bs)) (hl : (its Bs).length ≤ 999) (lo hi : List UInt8) (a b : Int) (ha : In64 a) (hb : In64 b) :
    Calls Try.prog 22 #[.pointer (some ⟨R, 0, none⟩), .string (S lo), .string (S hi), .agg #[.int .i64 a, .int .i64 b]] w fun e w' => AskX (over (its Bs) lo hi a b) w e w' := by
  rcases wi_over ho lo hi a b with he | hab
  · by_cases hab : b ≤ a
    · have HE := hide (over_none (L := its Bs) lo hi hab)
      have g1 : a ≥ b := hab
      have HB := hide (below_alloc w (.cells #[.int .i64 a, .int .i64 b] 46))
      clear h ho hkb hl he
      go_enter Try.func22, Try.ntmps22
      go_wp2_with fail
      go_ret
      rw [HE.out]
      exact ⟨_, rfl, ⟨none, 0, rfl, by simp, by omega, .inl ⟨rfl, fun _ => rfl⟩⟩, fun h9 => absurd rfl h9, HB.out⟩
    · obtain ⟨w0, hw0⟩ : ∃ w0, w0 = w.alloc (.cells #[.int .i64 a, .int .i64 b] 46) := ⟨_, rfl⟩
      have hb0 : Below w.heap.size w w0 := by rw [hw0]; exact below_alloc _ _
      have HW0 := hide hw0
      have HB0 := hide hb0
      have HS0 := hide (show w.heap.size ≤ w0.heap.size from hb0.size)
      have CW := hide (within_any (h.later hb0 (Nat.le_refl _)) ho.up (fun e he => (ho.one e he).1) hkb hl lo hi a (b - 1))
      have g1 : ¬ a ≥ b := hab
      have hw : IntKind.i64.wrap (b - 1) = b - 1 := by rw [IntKind.wrap_i64]; unfold In64 at ha hb; omega
      have HE := hide he
      clear h ho hkb hl he hab hw0 hb0
      go_enter Try.func22, Try.ntmps22
      go_wp2_with fail
      rw [← HW0.out]
      refine CW.out.mono ?_
      rintro e w1 ⟨u, rfl, hr, hb⟩
      rw [HE.out] at hr
      have HA := hide (show AskX (over (its Bs) lo hi a b) w (.returned u) w1 from ask_of (hr.mono (by have := HS0.out; omega)) (HB0.out.trans (hb.mono HS0.out)))
      clear hr hb CW
      go_wp2_with fail
      go_ret
      exact HA.out
  · have HE := hide (over_none (L := its Bs) lo hi hab)
    have g1 : a ≥ b := hab
    have HB := hide (below_alloc w (.cells #[.int .i64 a, .int .i64 b] 46))
    clear h ho hkb hl
    go_enter Try.func22, Try.ntmps22
    go_wp2_with fail
    go_ret
    rw [HE.out]
    exact ⟨_, rfl, ⟨none, 0, rfl, by simp, by omega, .inl ⟨rfl, fun _ => rfl⟩⟩, fun h9 => absurd rfl h9, HB.out⟩
/-- A new index. -/
theorem st_new (w : World) {n : Int} (hn : 2 ≤ n ∧ n ≤ 100) : PX w.heap.size n (fun k => k = w.heap.size) [] (w.alloc (.cells #[.pointer (some ⟨w.heap.size, 0, none⟩), .int .i64 n, .slice none 0 0] 69)) := by
  have e := heap_alloc_new w (.cells #[.pointer (some ⟨w.heap.size, 0, none⟩), .int .i64 n, .slice none 0 0] 69)
  have c0 := cell_of_row _ _ 0 _ _ (0, 0) e
  have c1 := cell_of_row _ _ 1 _ _ (0, 0) e
  have c2 := cell_of_row _ _ 2 _ _ (0, 0) e
  refine ⟨[], .slice none 0 0, ⟨by rw [c0]; rfl, by rw [c1]; rfl, by rw [c2]; rfl, ?_, hn, World.ownsRow_nil _ _ _ _, fun b hb => (by cases hb), fun b hb => (by cases hb), List.Pairwise.nil, by simp [Value.ownBlock], fun b hb => (by cases hb)⟩, siz_nil n, rfl, ?_, ?_⟩
  · exact frozen_of_row _ _ 2 _ _ e
  · rintro k (h | h | ⟨b, hb, _⟩)
    · exact h
    · simp [Value.ownBlock] at h
    · cases hb
  · rintro k rfl; simp
set_option maxHeartbeats 1000000 in
set_option maxRecDepth 100000 in
theorem new_yes (n : Int) (w : World) (hn : newC n = 0) : Calls Try.prog 10 #[.int .i64 n] w fun e w' => ∃ R F, e = .returned (.tuple #[.pointer (some ⟨R, 0, none⟩), .int .i64 0]) ∧ PX R n F [] w' ∧ (∀ k, F k → w.heap.size ≤ k) ∧ Below w.heap.size w w' := by
  have hb : 2 ≤ n ∧ n ≤ 100 := by unfold newC at hn; split at hn; cases hn; omega
  have g1 : ¬ n < 2 := by omega
  have g2 : ¬ n > 100 := by omega
  have HP := hide (st_new w hb)
  have HB := hide (below_alloc w (.cells #[.pointer (some ⟨w.heap.size, 0, none⟩), .int .i64 n, .slice none 0 0] 69))
  clear hn hb
  go_enter Try.func10, Try.ntmps10
  go_wp2_with fail
  go_ret2
  exact ⟨w.heap.size, rfl, fun k => k = w.heap.size, HP.out, fun k hk => Nat.le_of_eq hk.symm, HB.out⟩
set_option maxHeartbeats 1000000 in
theorem new_no (n : Int) (w : World) (hn : newC n = 1) : Calls Try.prog 10 #[.int .i64 n] w fun e w' => e = .returned (.tuple #[.pointer none, .int .i64 1]) ∧ Below w.heap.size w w' := by
  have HB := hide (Below.refl w.heap.size w)
  have hb : n < 2 ∨ 100 < n := by unfold newC at hn; split at hn; assumption; cases hn
  clear hn
  by_cases g1 : n < 2
  · clear hb
    go_enter Try.func10, Try.ntmps10
    go_wp2_with fail
    go_ret2
    exact ⟨rfl, HB.out⟩
  · have g2 : n > 100 := by omega
    clear hb
    go_enter Try.func10, Try.ntmps10
    go_wp2_with fail
    go_ret2
    exact ⟨rfl, HB.out⟩
end Idx
end Go.Proofs.Ytapdhelioecneaa
