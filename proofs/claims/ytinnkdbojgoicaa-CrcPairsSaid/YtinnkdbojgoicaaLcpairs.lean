/- CrcPairs is proved: for every text and two bytes the law returns true and its arguments read as they did. No other condition. -/
import Derived.Test.YtinnkdbojgoicaaKv
import Derived.Test.YtinnkdbojgoicaaFra
import Derived.Test.YtinnkdbojgoicaaMan
namespace Go.Proofs.Ytinnkdbojgoicaa
open Go.ChangeShapes Go.WideShapes Go.ChangeAt Go.RowKit
open Go.ChangeMaps (open_string shut_string)
namespace LaCrcPairs
open Crc
theorem long_any (s : ByteArray) (a b : Nat) (ht : 1000 < s.size) (w : World) : Calls Try.prog 9 #[.string s, .int .u8 a, .int .u8 b] w fun e w' => e = .returned (.bool true) ∧ Below w.heap.size w w' := by
  have f1 : (1000 : Int) < (s.size : Int) := by omega
  have f2 : 1000 < s.size := ht
  go_enter Try.func9, Try.ntmps9
  go_wp2_with fail
  refine (known_any w).mono ?_
  rintro e w1 ⟨rfl, hb⟩
  have HB1 := hidm hb
  clear hb
  go_wp2_with fail
  go_ret
  exact ⟨rfl, HB1.out⟩
/-- Block B begins with the byte x. -/
def Has (B x : Nat) (u : World) : Prop := B < u.heap.size ∧ u.cell? ⟨B, 0, none⟩ = some (.int .u8 x)
theorem Has.later {B x : Nat} {u u' : World} (h : Has B x u) (hb : Below u.heap.size u u') : Has B x u' := ⟨Nat.lt_of_lt_of_le h.1 hb.size, by rw [hb.cell (p := ⟨B, 0, none⟩) h.1]; exact h.2⟩
/-- What holds while the region is walked: all that was there is there; these blocks begin with these bytes. -/
def Pst (w : World) (L : List (Nat × Nat)) (u : World) : Prop := Below w.heap.size w u ∧ ∀ p ∈ L, Has p.1 p.2 u
theorem Pst.later {w u u' : World} {L : List (Nat × Nat)} (h : Pst w L u) (hb : Below u.heap.size u u') : Pst w L u' := ⟨h.1.trans (hb.mono h.1.size), fun p hp => (h.2 p hp).later hb⟩
theorem Pst.alloc' {w u u' : World} {L : List (Nat × Nat)} (h : Pst w L u) (he : ∃ o, u' = u.alloc o) : Pst w L u' := by
  obtain ⟨o, rfl⟩ := he
  exact h.later ((Below.refl _ _).alloc (Nat.le_refl _) o)
theorem Pst.more {w u : World} {L : List (Nat × Nat)} {B x : Nat} (h : Pst w L u) (hh : Has B x u) : Hid (Pst w ((B, x) :: L) u) :=
  hidm ⟨h.1, fun p hp => by rcases List.mem_cons.1 hp with rfl | hp <;> first | exact hh | exact h.2 _ hp⟩
theorem Pst.less {w u : World} {L : List (Nat × Nat)} {p : Nat × Nat} (h : Pst w (p :: L) u) : Pst w L u := ⟨h.1, fun q hq => h.2 q (List.mem_cons_of_mem _ hq)⟩
theorem Pst.at {w u : World} {L : List (Nat × Nat)} {B x : Nat} (h : Hid (Pst w L u)) (hm : (B, x) ∈ L) : u.cell? ⟨B, 0, none⟩ = some (.int .u8 x) := (h.out.2 (B, x) hm).2
/-- A text of one byte, out of a block that has it. -/
theorem str_at (x : Nat) (hx : x < 256) (m : ByteArray) (hm : m = S [UInt8.ofNat x]) (B : Nat) (W : World) (h : W.cell? ⟨B, 0, none⟩ = some (.int .u8 x)) :
    (convert 22 9 (.slice (some ⟨B, 0, none⟩) 1 1)).run Try.prog W = .ok (.string m) W := by
  subst hm
  refine run_convert_bytes_back (P := Try.prog) W 22 9 5 ⟨B, 0, none⟩ 1 [UInt8.ofNat x] Try.underlying22 Try.underlying5 Try.underlying9 ?_
  intro j hj
  obtain rfl : j = 0 := by simpa using hj
  show World.cell? _ ⟨B, 0, none⟩ = _
  rw [h]
  simp; omega
set_option maxHeartbeats 4000000 in
set_option maxRecDepth 100000 in
theorem short_any (s : ByteArray) (a b : Nat) (ha8 : a < 256) (hb8 : b < 256) (hs : s.size ≤ 1000) (w : World) : Calls Try.prog 9 #[.string s, .int .u8 a, .int .u8 b] w fun e w' => e = .returned (.bool true) ∧ Below w.heap.size w w' := by
  have f1 : ¬ (1000 : Int) < (s.size : Int) := by omega
  obtain ⟨ma, hma⟩ : ∃ ma, ma = S [UInt8.ofNat a] := ⟨_, rfl⟩
  obtain ⟨mb, hmb⟩ : ∃ mb, mb = S [UInt8.ofNat b] := ⟨_, rfl⟩
  have hla : ma.size = 1 := by rw [hma, S_size]; rfl
  have hlb : mb.size = 1 := by rw [hmb, S_size]; rfl
  have EA := str_at a ha8 ma hma
  have EB := str_at b hb8 mb hmb
  have la : (s ++ ma).data.toList = s.data.toList ++ [UInt8.ofNat a] := by rw [hma, ByteArray.data_append, Array.toList_append]
  have lb : (s ++ mb).data.toList = s.data.toList ++ [UInt8.ofNat b] := by rw [hmb, ByteArray.data_append, Array.toList_append]
  obtain ⟨x, hx⟩ : ∃ x, x = more 0 (s ++ ma).data.toList := ⟨_, rfl⟩
  obtain ⟨y, hy⟩ : ∃ y, y = more 0 (s ++ mb).data.toList := ⟨_, rfl⟩
  have c1 := fun w => of_any (s ++ ma) (by rw [ByteArray.size_append]; omega) w
  have c2 := fun w => of_any (s ++ mb) (by rw [ByteArray.size_append]; omega) w
  rw [← hx] at c1
  rw [← hy] at c2
  obtain ⟨p, hp⟩ : ∃ p, p = S (put (s ++ ma).data.toList) := ⟨_, rfl⟩
  obtain ⟨q, hq⟩ : ∃ q, q = S (put (s ++ mb).data.toList) := ⟨_, rfl⟩
  have cp := fun w => put_any (s ++ ma) (by rw [ByteArray.size_append]; omega) w
  have cq := fun w => put_any (s ++ mb) (by rw [ByteArray.size_append]; omega) w
  rw [← hp] at cp
  rw [← hq] at cq
  have hkn := fun w => known_any w
  have hA1 : ¬ 9223372036854775807 < s.size + ma.size := by omega
  have hA2 : ¬ 9223372036854775807 < s.size + mb.size := by omega
  have hcd : UInt8.ofNat a = UInt8.ofNat b ↔ a = b := by
    constructor
    · intro h
      have := congrArg UInt8.toNat h
      rw [UInt8.toNat_ofNat', UInt8.toNat_ofNat'] at this
      omega
    · intro h; rw [h]
  obtain ⟨t, ht⟩ : ∃ t, t = decide (a = b) := ⟨_, rfl⟩
  have g1 : ((x : Int) == (y : Int)) = t := by
    rw [ht, Bool.eq_iff_iff, beq_iff_eq, decide_eq_true_iff, ← hcd, ← more_last 0 s.data.toList, hx, hy, la, lb]; omega
  have g2 : ((a : Int) == (b : Int)) = t := by
    rw [ht, Bool.eq_iff_iff, beq_iff_eq, decide_eq_true_iff]; omega
  have g3 : (p.toList == q.toList) = t := by
    rw [ht, Bool.eq_iff_iff, beq_S, beq_iff_eq, decide_eq_true_iff, ← hcd, ← put_last s.data.toList, hp, hq, la, lb]
  have g4 : (t == t) = true := by simp
  clear hma hmb hx hy hp hq la lb hcd ht hla hlb
  go_enter Try.func9, Try.ntmps9
  go_wp2_with fail
  refine (c1 _).mono ?_
  rintro e w1 ⟨rfl, hb⟩
  have HB1 := hidm (((Below.refl w.heap.size w).alloc (Nat.le_refl _) _).trans (hb.mono (by simp)))
  clear hb
  go_wp2_with fail
  refine (c2 _).mono ?_
  rintro e w2 ⟨rfl, hb⟩
  have HB2 := hidm (HB1.out.trans (((Below.refl w1.heap.size w1).alloc (Nat.le_refl _) _).trans (hb.mono (by simp)) |>.mono HB1.out.size))
  clear hb c1 c2
  go_wp2_with fail
  refine wp_region_held_drew (S := fun u => Hid (Pst w2 [] u)) (by kernel_rfl) ?_ (fun hHeld => ?_)
  · exact hidm ⟨(Below.refl _ _).drew, fun p hp => by cases hp⟩
  refine Man.take1 (i := 0) (v := ?_) rfl (by kernel_rfl) (by kernel_rfl) (by kernel_rfl) (fun _ _ _ h => h) (by rfl) ?_ (by assumption) ?_
  rotate_left
  · (intro u hSu; (try dsimp only at hSu); go_simp; (try with_reducible rfl))
  (try simp only [Act.put, List.setIfInBounds_toArray, List.set_cons_zero, List.set_cons_succ])
  refine Man.take1 (i := 1) (v := ?_) rfl (by kernel_rfl) (by kernel_rfl) (by kernel_rfl) (fun _ _ _ h => h) (by rfl) ?_ (by assumption) ?_
  rotate_left
  · (intro u hSu; (try dsimp only at hSu); go_simp; (try with_reducible rfl))
  (try simp only [Act.put, List.setIfInBounds_toArray, List.set_cons_zero, List.set_cons_succ])
  refine Man.take1 (i := 2) (v := ?_) rfl (by kernel_rfl) (by kernel_rfl) (by kernel_rfl) (fun _ _ _ h => h) (by rfl) ?_ (by assumption) ?_
  rotate_left
  · (intro u hSu; (try dsimp only at hSu); go_simp; (try with_reducible rfl))
  (try simp only [Act.put, List.setIfInBounds_toArray, List.set_cons_zero, List.set_cons_succ])
  refine Man.take1 (i := 3) (v := ?_) rfl (by kernel_rfl) (by kernel_rfl) (by kernel_rfl) (fun _ _ _ h => h) (by rfl) ?_ (by assumption) ?_
  rotate_left
  · (intro u hSu; (try dsimp only at hSu); go_simp; (try with_reducible rfl))
  (try simp only [Act.put, List.setIfInBounds_toArray, List.set_cons_zero, List.set_cons_succ])
  refine Man.take1 (i := 4) (v := ?_) rfl (by kernel_rfl) (by kernel_rfl) (by kernel_rfl) (fun _ _ _ h => h) (by rfl) ?_ (by assumption) ?_
  rotate_left
  · (intro u hSu; (try dsimp only at hSu); go_simp; (try with_reducible rfl))
  (try simp only [Act.put, List.setIfInBounds_toArray, List.set_cons_zero, List.set_cons_succ])
  refine Man.take1 (i := 5) (v := ?_) rfl (by kernel_rfl) (by kernel_rfl) (by kernel_rfl) (fun _ _ _ h => h) (by rfl) ?_ (by assumption) ?_
  rotate_left
  · (intro u hSu; (try dsimp only at hSu); go_simp; (try with_reducible rfl))
  (try simp only [Act.put, List.setIfInBounds_toArray, List.set_cons_zero, List.set_cons_succ])
  refine Man.take1 (i := 6) (v := ?_) rfl (by kernel_rfl) (by kernel_rfl) (by kernel_rfl) (fun _ _ _ h => h) (by rfl) ?_ (by assumption) ?_
  rotate_left
  · (intro u hSu; (try dsimp only at hSu); go_simp; (try with_reducible rfl))
  (try simp only [Act.put, List.setIfInBounds_toArray, List.set_cons_zero, List.set_cons_succ])
  refine Man.take1 (i := 7) (v := ?_) rfl (by kernel_rfl) (by kernel_rfl) (by kernel_rfl) (fun _ _ _ h => h) (by rfl) ?_ (by assumption) ?_
  rotate_left
  · (intro u hSu; (try dsimp only at hSu); go_simp; (try with_reducible rfl))
  (try simp only [Act.put, List.setIfInBounds_toArray, List.set_cons_zero, List.set_cons_succ])
  refine Man.take1 (i := 8) (v := ?_) rfl (by kernel_rfl) (by kernel_rfl) (by kernel_rfl) (fun _ _ _ h => h) (by rfl) ?_ (by assumption) ?_
  rotate_left
  · (intro u hSu; (try dsimp only at hSu); go_simp; (try with_reducible rfl))
  (try simp only [Act.put, List.setIfInBounds_toArray, List.set_cons_zero, List.set_cons_succ])
  refine Man.take1 (i := 9) (v := ?_) rfl (by kernel_rfl) (by kernel_rfl) (by kernel_rfl) (fun _ _ _ h => h) (by rfl) ?_ (by assumption) ?_
  rotate_left
  · (intro u hSu; (try dsimp only at hSu); go_simp; (try with_reducible rfl))
  (try simp only [Act.put, List.setIfInBounds_toArray, List.set_cons_zero, List.set_cons_succ])
  refine Man.take1 (i := 14) (v := ?_) rfl (by kernel_rfl) (by kernel_rfl) (by kernel_rfl) (fun _ _ _ h => h) (by rfl) ?_ (by assumption) ?_
  rotate_left
  · (intro u hSu; (try dsimp only at hSu); go_simp; (try with_reducible rfl))
  (try simp only [Act.put, List.setIfInBounds_toArray, List.set_cons_zero, List.set_cons_succ])
  refine Man.take1 (i := 15) (v := ?_) rfl (by kernel_rfl) (by kernel_rfl) (by kernel_rfl) (fun _ _ _ h => h) (by rfl) ?_ (by assumption) ?_
  rotate_left
  · (intro u hSu; (try dsimp only at hSu); go_simp; (try with_reducible rfl))
  (try simp only [Act.put, List.setIfInBounds_toArray, List.set_cons_zero, List.set_cons_succ])
  refine Man.take1 (i := 21) (v := ?_) rfl (by kernel_rfl) (by kernel_rfl) (by kernel_rfl) (fun _ _ _ h => h) (by rfl) ?_ (by assumption) ?_
  rotate_left
  · (intro u hSu; (try dsimp only at hSu); go_simp; (try with_reducible rfl))
  (try simp only [Act.put, List.setIfInBounds_toArray, List.set_cons_zero, List.set_cons_succ])
  refine Man.take1 (i := 22) (v := ?_) rfl (by kernel_rfl) (by kernel_rfl) (by kernel_rfl) (fun _ _ _ h => h) (by rfl) ?_ (by assumption) ?_
  rotate_left
  · (intro u hSu; (try dsimp only at hSu); go_simp; (try with_reducible rfl))
  (try simp only [Act.put, List.setIfInBounds_toArray, List.set_cons_zero, List.set_cons_succ])
  refine Man.take1 (i := 23) (v := ?_) rfl (by kernel_rfl) (by kernel_rfl) (by kernel_rfl) (fun _ _ _ h => h) (by rfl) ?_ (by assumption) ?_
  rotate_left
  · (intro u hSu; (try dsimp only at hSu); go_simp; (try with_reducible rfl))
  (try simp only [Act.put, List.setIfInBounds_toArray, List.set_cons_zero, List.set_cons_succ])
  refine Man.two (i := 10) (j := 16) rfl rfl (by kernel_rfl) (fun K hK => ?_) (fun K hK => ?_)
  · go_simp
    refine hK.out _ _ (hidm (Pst.alloc' hHeld.out (by first | exact ⟨_, rfl⟩ | exact ⟨_, _, rfl⟩))) (fun hNew => ?_)
    clear hHeld hK K
    (try simp only [Act.put, List.setIfInBounds_toArray, List.set_cons_zero, List.set_cons_succ])
    have hHeld := Pst.more hNew.out (B := w2.heap.size) (x := a) (by refine ⟨by simp, by simp [go_sem]⟩)
    clear hNew
    refine Man.grow (S' := fun u => Hid (Pst w2 [(w2.heap.size, a)] u)) (fun u h => hidm (Pst.less h.out)) _ _ _ _ ?_
    refine Man.take1 (i := 11) (v := ?_) rfl (by kernel_rfl) (by kernel_rfl) (by kernel_rfl) (fun _ _ _ h => h) (by rfl) ?_ (by assumption) ?_
    rotate_left
    · (intro u hSu; have hx := EA _ _ (Pst.at hSu (B := w2.heap.size) (by simp)); clear hSu; go_simp; (try with_reducible rfl))
    (try simp only [Act.put, List.setIfInBounds_toArray, List.set_cons_zero, List.set_cons_succ])
    refine Man.take1 (i := 12) (v := ?_) rfl (by kernel_rfl) (by kernel_rfl) (by kernel_rfl) (fun _ _ _ h => h) (by rfl) ?_ (by assumption) ?_
    rotate_left
    · (intro u hSu; (try dsimp only at hSu); go_simp; (try with_reducible rfl))
    (try simp only [Act.put, List.setIfInBounds_toArray, List.set_cons_zero, List.set_cons_succ])
    refine Man.two (i := 13) (j := 16) rfl rfl (by kernel_rfl) (fun K hK => ?_) (fun K hK => ?_)
    · go_simp
      (go_at_call 34; (with_reducible refine (cp _).mono ?_); rintro e wA ⟨rfl, hb⟩)
      refine hK.out _ _ ?_ (fun hNew => ?_)
      · exact hidm (Pst.later hHeld.out hb)
      clear hHeld hK K hb
      have hHeld := hNew
      clear hNew
      (try simp only [Act.put, List.setIfInBounds_toArray, List.set_cons_zero, List.set_cons_succ])
      refine Man.one (i := 16) rfl (by kernel_rfl) (fun K hK => ?_)
      go_simp
      refine hK.out _ _ (hidm (Pst.alloc' hHeld.out (by first | exact ⟨_, rfl⟩ | exact ⟨_, _, rfl⟩))) (fun hNew => ?_)
      clear hHeld hK K
      (try simp only [Act.put, List.setIfInBounds_toArray, List.set_cons_zero, List.set_cons_succ])
      have hHeld := Pst.more hNew.out (B := wA.heap.size) (x := b) (by refine ⟨by simp, by simp [go_sem]⟩)
      clear hNew
      refine Man.grow (S' := fun u => Hid (Pst w2 [(wA.heap.size, b), (w2.heap.size, a)] u)) (fun u h => hidm (Pst.less h.out)) _ _ _ _ ?_
      refine Man.take1 (i := 17) (v := ?_) rfl (by kernel_rfl) (by kernel_rfl) (by kernel_rfl) (fun _ _ _ h => h) (by rfl) ?_ (by assumption) ?_
      rotate_left
      · (intro u hSu; have hx := EB _ _ (Pst.at hSu (B := wA.heap.size) (by simp)); clear hSu; go_simp; (try with_reducible rfl))
      (try simp only [Act.put, List.setIfInBounds_toArray, List.set_cons_zero, List.set_cons_succ])
      refine Man.take1 (i := 18) (v := ?_) rfl (by kernel_rfl) (by kernel_rfl) (by kernel_rfl) (fun _ _ _ h => h) (by rfl) ?_ (by assumption) ?_
      rotate_left
      · (intro u hSu; (try dsimp only at hSu); go_simp; (try with_reducible rfl))
      (try simp only [Act.put, List.setIfInBounds_toArray, List.set_cons_zero, List.set_cons_succ])
      refine Man.one (i := 19) rfl (by kernel_rfl) (fun K hK => ?_)
      go_simp
      (go_at_call 34; (with_reducible refine (cq _).mono ?_); rintro e wB ⟨rfl, hb⟩)
      refine hK.out _ _ ?_ (fun hNew => ?_)
      · exact hidm (Pst.later hHeld.out hb)
      clear hHeld hK K hb
      have hHeld := hNew
      clear hNew
      (try simp only [Act.put, List.setIfInBounds_toArray, List.set_cons_zero, List.set_cons_succ])
      refine Man.take1 (i := 20) (v := ?_) rfl (by kernel_rfl) (by kernel_rfl) (by kernel_rfl) (fun _ _ _ h => h) (by rfl) ?_ (by assumption) ?_
      rotate_left
      · (intro u hSu; (try dsimp only at hSu); go_simp; (try with_reducible rfl))
      (try simp only [Act.put, List.setIfInBounds_toArray, List.set_cons_zero, List.set_cons_succ])
      refine Man.take1 (i := 24) (v := ?_) rfl (by kernel_rfl) (by kernel_rfl) (by kernel_rfl) (fun _ _ _ h => h) (by rfl) ?_ (by assumption) ?_
      rotate_left
      · (intro u hSu; (try dsimp only at hSu); go_simp; (try with_reducible rfl))
      (try simp only [Act.put, List.setIfInBounds_toArray, List.set_cons_zero, List.set_cons_succ])
      refine Man.take1 (i := 25) (v := ?_) rfl (by kernel_rfl) (by kernel_rfl) (by kernel_rfl) (fun _ _ _ h => h) (by rfl) ?_ (by assumption) ?_
      rotate_left
      · (intro u hSu; (try dsimp only at hSu); go_simp; (try with_reducible rfl))
      (try simp only [Act.put, List.setIfInBounds_toArray, List.set_cons_zero, List.set_cons_succ])
      refine Man.take1 (i := 26) (v := ?_) rfl (by kernel_rfl) (by kernel_rfl) (by kernel_rfl) (fun _ _ _ h => h) (by rfl) ?_ (by assumption) ?_
      rotate_left
      · (intro u hSu; (try dsimp only at hSu); go_simp; (try with_reducible rfl))
      (try simp only [Act.put, List.setIfInBounds_toArray, List.set_cons_zero, List.set_cons_succ])
      refine Man.one (i := 27) rfl (by kernel_rfl) (fun K hK => ?_)
      go_simp
      (go_at_call 27; (with_reducible refine (hkn _).mono ?_); rintro e wK ⟨rfl, hb⟩)
      refine hK.out _ _ ?_ (fun hNew => ?_)
      · exact hidm (Pst.later hHeld.out hb)
      clear hHeld hK K hb
      have hHeld := hNew
      clear hNew
      (try simp only [Act.put, List.setIfInBounds_toArray, List.set_cons_zero, List.set_cons_succ])
      refine Man.take1 (i := 28) (v := ?_) rfl (by kernel_rfl) (by kernel_rfl) (by kernel_rfl) (fun _ _ _ h => h) (by rfl) ?_ (by assumption) ?_
      rotate_left
      · (intro u hSu; (try dsimp only at hSu); go_simp; (try with_reducible rfl))
      (try simp only [Act.put, List.setIfInBounds_toArray, List.set_cons_zero, List.set_cons_succ])
      refine Man.take1 (i := 29) (v := ?_) rfl (by kernel_rfl) (by kernel_rfl) (by kernel_rfl) (fun _ _ _ h => h) (by rfl) ?_ (by assumption) ?_
      rotate_left
      · (intro u hSu; (try dsimp only at hSu); go_simp; (try with_reducible rfl))
      (try simp only [Act.put, List.setIfInBounds_toArray, List.set_cons_zero, List.set_cons_succ])
      refine wpAnyH_done (by kernel_rfl) ?_ _
      have HS := hidm hHeld.out.1
      clear hHeld
      go_wp2_with fail
      go_ret
      exact ⟨rfl, HB2.out.trans (HS.out.mono HB2.out.size)⟩
    · go_simp
      refine hK.out _ _ (hidm (Pst.alloc' hHeld.out (by first | exact ⟨_, rfl⟩ | exact ⟨_, _, rfl⟩))) (fun hNew => ?_)
      clear hHeld hK K
      (try simp only [Act.put, List.setIfInBounds_toArray, List.set_cons_zero, List.set_cons_succ])
      have hHeld := Pst.more hNew.out (B := (w2.heap.size + 1)) (x := b) (by refine ⟨by simp, by simp [go_sem]⟩)
      clear hNew
      refine Man.grow (S' := fun u => Hid (Pst w2 [((w2.heap.size + 1), b), (w2.heap.size, a)] u)) (fun u h => hidm (Pst.less h.out)) _ _ _ _ ?_
      refine Man.take1 (i := 17) (v := ?_) rfl (by kernel_rfl) (by kernel_rfl) (by kernel_rfl) (fun _ _ _ h => h) (by rfl) ?_ (by assumption) ?_
      rotate_left
      · (intro u hSu; have hx := EB _ _ (Pst.at hSu (B := (w2.heap.size + 1)) (by simp)); clear hSu; go_simp; (try with_reducible rfl))
      (try simp only [Act.put, List.setIfInBounds_toArray, List.set_cons_zero, List.set_cons_succ])
      refine Man.take1 (i := 18) (v := ?_) rfl (by kernel_rfl) (by kernel_rfl) (by kernel_rfl) (fun _ _ _ h => h) (by rfl) ?_ (by assumption) ?_
      rotate_left
      · (intro u hSu; (try dsimp only at hSu); go_simp; (try with_reducible rfl))
      (try simp only [Act.put, List.setIfInBounds_toArray, List.set_cons_zero, List.set_cons_succ])
      refine Man.one (i := 13) rfl (by kernel_rfl) (fun K hK => ?_)
      go_simp
      (go_at_call 34; (with_reducible refine (cp _).mono ?_); rintro e wA ⟨rfl, hb⟩)
      refine hK.out _ _ ?_ (fun hNew => ?_)
      · exact hidm (Pst.later hHeld.out hb)
      clear hHeld hK K hb
      have hHeld := hNew
      clear hNew
      (try simp only [Act.put, List.setIfInBounds_toArray, List.set_cons_zero, List.set_cons_succ])
      refine Man.one (i := 19) rfl (by kernel_rfl) (fun K hK => ?_)
      go_simp
      (go_at_call 34; (with_reducible refine (cq _).mono ?_); rintro e wB ⟨rfl, hb⟩)
      refine hK.out _ _ ?_ (fun hNew => ?_)
      · exact hidm (Pst.later hHeld.out hb)
      clear hHeld hK K hb
      have hHeld := hNew
      clear hNew
      (try simp only [Act.put, List.setIfInBounds_toArray, List.set_cons_zero, List.set_cons_succ])
      refine Man.take1 (i := 20) (v := ?_) rfl (by kernel_rfl) (by kernel_rfl) (by kernel_rfl) (fun _ _ _ h => h) (by rfl) ?_ (by assumption) ?_
      rotate_left
      · (intro u hSu; (try dsimp only at hSu); go_simp; (try with_reducible rfl))
      (try simp only [Act.put, List.setIfInBounds_toArray, List.set_cons_zero, List.set_cons_succ])
      refine Man.take1 (i := 24) (v := ?_) rfl (by kernel_rfl) (by kernel_rfl) (by kernel_rfl) (fun _ _ _ h => h) (by rfl) ?_ (by assumption) ?_
      rotate_left
      · (intro u hSu; (try dsimp only at hSu); go_simp; (try with_reducible rfl))
      (try simp only [Act.put, List.setIfInBounds_toArray, List.set_cons_zero, List.set_cons_succ])
      refine Man.take1 (i := 25) (v := ?_) rfl (by kernel_rfl) (by kernel_rfl) (by kernel_rfl) (fun _ _ _ h => h) (by rfl) ?_ (by assumption) ?_
      rotate_left
      · (intro u hSu; (try dsimp only at hSu); go_simp; (try with_reducible rfl))
      (try simp only [Act.put, List.setIfInBounds_toArray, List.set_cons_zero, List.set_cons_succ])
      refine Man.take1 (i := 26) (v := ?_) rfl (by kernel_rfl) (by kernel_rfl) (by kernel_rfl) (fun _ _ _ h => h) (by rfl) ?_ (by assumption) ?_
      rotate_left
      · (intro u hSu; (try dsimp only at hSu); go_simp; (try with_reducible rfl))
      (try simp only [Act.put, List.setIfInBounds_toArray, List.set_cons_zero, List.set_cons_succ])
      refine Man.one (i := 27) rfl (by kernel_rfl) (fun K hK => ?_)
      go_simp
      (go_at_call 27; (with_reducible refine (hkn _).mono ?_); rintro e wK ⟨rfl, hb⟩)
      refine hK.out _ _ ?_ (fun hNew => ?_)
      · exact hidm (Pst.later hHeld.out hb)
      clear hHeld hK K hb
      have hHeld := hNew
      clear hNew
      (try simp only [Act.put, List.setIfInBounds_toArray, List.set_cons_zero, List.set_cons_succ])
      refine Man.take1 (i := 28) (v := ?_) rfl (by kernel_rfl) (by kernel_rfl) (by kernel_rfl) (fun _ _ _ h => h) (by rfl) ?_ (by assumption) ?_
      rotate_left
      · (intro u hSu; (try dsimp only at hSu); go_simp; (try with_reducible rfl))
      (try simp only [Act.put, List.setIfInBounds_toArray, List.set_cons_zero, List.set_cons_succ])
      refine Man.take1 (i := 29) (v := ?_) rfl (by kernel_rfl) (by kernel_rfl) (by kernel_rfl) (fun _ _ _ h => h) (by rfl) ?_ (by assumption) ?_
      rotate_left
      · (intro u hSu; (try dsimp only at hSu); go_simp; (try with_reducible rfl))
      (try simp only [Act.put, List.setIfInBounds_toArray, List.set_cons_zero, List.set_cons_succ])
      refine wpAnyH_done (by kernel_rfl) ?_ _
      have HS := hidm hHeld.out.1
      clear hHeld
      go_wp2_with fail
      go_ret
      exact ⟨rfl, HB2.out.trans (HS.out.mono HB2.out.size)⟩
  · go_simp
    refine hK.out _ _ (hidm (Pst.alloc' hHeld.out (by first | exact ⟨_, rfl⟩ | exact ⟨_, _, rfl⟩))) (fun hNew => ?_)
    clear hHeld hK K
    (try simp only [Act.put, List.setIfInBounds_toArray, List.set_cons_zero, List.set_cons_succ])
    have hHeld := Pst.more hNew.out (B := w2.heap.size) (x := b) (by refine ⟨by simp, by simp [go_sem]⟩)
    clear hNew
    refine Man.grow (S' := fun u => Hid (Pst w2 [(w2.heap.size, b)] u)) (fun u h => hidm (Pst.less h.out)) _ _ _ _ ?_
    refine Man.take1 (i := 17) (v := ?_) rfl (by kernel_rfl) (by kernel_rfl) (by kernel_rfl) (fun _ _ _ h => h) (by rfl) ?_ (by assumption) ?_
    rotate_left
    · (intro u hSu; have hx := EB _ _ (Pst.at hSu (B := w2.heap.size) (by simp)); clear hSu; go_simp; (try with_reducible rfl))
    (try simp only [Act.put, List.setIfInBounds_toArray, List.set_cons_zero, List.set_cons_succ])
    refine Man.take1 (i := 18) (v := ?_) rfl (by kernel_rfl) (by kernel_rfl) (by kernel_rfl) (fun _ _ _ h => h) (by rfl) ?_ (by assumption) ?_
    rotate_left
    · (intro u hSu; (try dsimp only at hSu); go_simp; (try with_reducible rfl))
    (try simp only [Act.put, List.setIfInBounds_toArray, List.set_cons_zero, List.set_cons_succ])
    refine Man.one (i := 10) rfl (by kernel_rfl) (fun K hK => ?_)
    go_simp
    refine hK.out _ _ (hidm (Pst.alloc' hHeld.out (by first | exact ⟨_, rfl⟩ | exact ⟨_, _, rfl⟩))) (fun hNew => ?_)
    clear hHeld hK K
    (try simp only [Act.put, List.setIfInBounds_toArray, List.set_cons_zero, List.set_cons_succ])
    have hHeld := Pst.more hNew.out (B := (w2.heap.size + 1)) (x := a) (by refine ⟨by simp, by simp [go_sem]⟩)
    clear hNew
    refine Man.grow (S' := fun u => Hid (Pst w2 [((w2.heap.size + 1), a), (w2.heap.size, b)] u)) (fun u h => hidm (Pst.less h.out)) _ _ _ _ ?_
    refine Man.take1 (i := 11) (v := ?_) rfl (by kernel_rfl) (by kernel_rfl) (by kernel_rfl) (fun _ _ _ h => h) (by rfl) ?_ (by assumption) ?_
    rotate_left
    · (intro u hSu; have hx := EA _ _ (Pst.at hSu (B := (w2.heap.size + 1)) (by simp)); clear hSu; go_simp; (try with_reducible rfl))
    (try simp only [Act.put, List.setIfInBounds_toArray, List.set_cons_zero, List.set_cons_succ])
    refine Man.take1 (i := 12) (v := ?_) rfl (by kernel_rfl) (by kernel_rfl) (by kernel_rfl) (fun _ _ _ h => h) (by rfl) ?_ (by assumption) ?_
    rotate_left
    · (intro u hSu; (try dsimp only at hSu); go_simp; (try with_reducible rfl))
    (try simp only [Act.put, List.setIfInBounds_toArray, List.set_cons_zero, List.set_cons_succ])
    refine Man.one (i := 13) rfl (by kernel_rfl) (fun K hK => ?_)
    go_simp
    (go_at_call 34; (with_reducible refine (cp _).mono ?_); rintro e wA ⟨rfl, hb⟩)
    refine hK.out _ _ ?_ (fun hNew => ?_)
    · exact hidm (Pst.later hHeld.out hb)
    clear hHeld hK K hb
    have hHeld := hNew
    clear hNew
    (try simp only [Act.put, List.setIfInBounds_toArray, List.set_cons_zero, List.set_cons_succ])
    refine Man.one (i := 19) rfl (by kernel_rfl) (fun K hK => ?_)
    go_simp
    (go_at_call 34; (with_reducible refine (cq _).mono ?_); rintro e wB ⟨rfl, hb⟩)
    refine hK.out _ _ ?_ (fun hNew => ?_)
    · exact hidm (Pst.later hHeld.out hb)
    clear hHeld hK K hb
    have hHeld := hNew
    clear hNew
    (try simp only [Act.put, List.setIfInBounds_toArray, List.set_cons_zero, List.set_cons_succ])
    refine Man.take1 (i := 20) (v := ?_) rfl (by kernel_rfl) (by kernel_rfl) (by kernel_rfl) (fun _ _ _ h => h) (by rfl) ?_ (by assumption) ?_
    rotate_left
    · (intro u hSu; (try dsimp only at hSu); go_simp; (try with_reducible rfl))
    (try simp only [Act.put, List.setIfInBounds_toArray, List.set_cons_zero, List.set_cons_succ])
    refine Man.take1 (i := 24) (v := ?_) rfl (by kernel_rfl) (by kernel_rfl) (by kernel_rfl) (fun _ _ _ h => h) (by rfl) ?_ (by assumption) ?_
    rotate_left
    · (intro u hSu; (try dsimp only at hSu); go_simp; (try with_reducible rfl))
    (try simp only [Act.put, List.setIfInBounds_toArray, List.set_cons_zero, List.set_cons_succ])
    refine Man.take1 (i := 25) (v := ?_) rfl (by kernel_rfl) (by kernel_rfl) (by kernel_rfl) (fun _ _ _ h => h) (by rfl) ?_ (by assumption) ?_
    rotate_left
    · (intro u hSu; (try dsimp only at hSu); go_simp; (try with_reducible rfl))
    (try simp only [Act.put, List.setIfInBounds_toArray, List.set_cons_zero, List.set_cons_succ])
    refine Man.take1 (i := 26) (v := ?_) rfl (by kernel_rfl) (by kernel_rfl) (by kernel_rfl) (fun _ _ _ h => h) (by rfl) ?_ (by assumption) ?_
    rotate_left
    · (intro u hSu; (try dsimp only at hSu); go_simp; (try with_reducible rfl))
    (try simp only [Act.put, List.setIfInBounds_toArray, List.set_cons_zero, List.set_cons_succ])
    refine Man.one (i := 27) rfl (by kernel_rfl) (fun K hK => ?_)
    go_simp
    (go_at_call 27; (with_reducible refine (hkn _).mono ?_); rintro e wK ⟨rfl, hb⟩)
    refine hK.out _ _ ?_ (fun hNew => ?_)
    · exact hidm (Pst.later hHeld.out hb)
    clear hHeld hK K hb
    have hHeld := hNew
    clear hNew
    (try simp only [Act.put, List.setIfInBounds_toArray, List.set_cons_zero, List.set_cons_succ])
    refine Man.take1 (i := 28) (v := ?_) rfl (by kernel_rfl) (by kernel_rfl) (by kernel_rfl) (fun _ _ _ h => h) (by rfl) ?_ (by assumption) ?_
    rotate_left
    · (intro u hSu; (try dsimp only at hSu); go_simp; (try with_reducible rfl))
    (try simp only [Act.put, List.setIfInBounds_toArray, List.set_cons_zero, List.set_cons_succ])
    refine Man.take1 (i := 29) (v := ?_) rfl (by kernel_rfl) (by kernel_rfl) (by kernel_rfl) (fun _ _ _ h => h) (by rfl) ?_ (by assumption) ?_
    rotate_left
    · (intro u hSu; (try dsimp only at hSu); go_simp; (try with_reducible rfl))
    (try simp only [Act.put, List.setIfInBounds_toArray, List.set_cons_zero, List.set_cons_succ])
    refine wpAnyH_done (by kernel_rfl) ?_ _
    have HS := hidm hHeld.out.1
    clear hHeld
    go_wp2_with fail
    go_ret
    exact ⟨rfl, HB2.out.trans (HS.out.mono HB2.out.size)⟩
theorem law_any (s : ByteArray) (a b : Nat) (ha : a < 256) (hb : b < 256) (w : World) : Calls Try.prog 9 #[.string s, .int .u8 a, .int .u8 b] w fun e w' => e = .returned (.bool true) ∧ Below w.heap.size w w' := by
  rcases Nat.lt_or_ge 1000 s.size with h | h
  · exact long_any s a b h w
  · exact short_any s a b ha hb h w
set_option maxRecDepth 100000 in
theorem contract (H : Type) (enc : TypeId × Value → H) (W : World) (base : Nat) (args : Array Value) (ds gs : List (DataW H)) (before : List MemPlace)
    (hval : ∀ (j : Nat) t v, Try.f9.params[j]? = some t → args[j]? = some v → Value.okWide Try.prog W .any base t v)
    (hW : DataW.Whole enc Try.prog Try.f9.params.toList Rows.crcPairsSpec.vars false W args.toList ds gs before) :
    Calls Try.prog 9 args W fun e W' => ∃ v, e = .returned v ∧ Rows.crcPairsSpec.post enc Try.prog Try.f9 false true false false W args v W' := by
  have hW' := hW
  obtain ⟨p, q, hA0, hV, rfl, hfz, hnd⟩ := hW
  have hA : DataW.TrodAll enc Try.prog W 0 (fun _ => true) true Try.f9.params.toList args.toList ds p := hA0
  rw [Try.params9] at hA hval
  obtain ⟨v0, vs0, d0, ds0, p0, q0, hargs, rfl, rfl, h0, r0⟩ := trodAll_cons hA
  obtain ⟨v1, vs1, d1, ds1, p1, q1, rfl, rfl, rfl, h1, r1⟩ := trodAll_cons r0
  obtain ⟨v2, vs2, d2, ds2, p2, q2, rfl, rfl, rfl, h2, r2⟩ := trodAll_cons r1
  obtain ⟨rfl, rfl, rfl⟩ := trodAll_nil r2
  obtain rfl : args = #[v0, v1, v2] := by cases args; simp_all
  obtain ⟨rfl, rfl⟩ := trodVars_none hV
  obtain ⟨t, rfl, rfl, rfl, wt⟩ := open_string Try.underlying9 (hval 0 9 v0 rfl rfl) h0
  obtain ⟨x, rfl, rfl, rfl, wx⟩ := open_int Try.underlying5 (hval 1 5 v1 rfl rfl) h1
  obtain ⟨z, rfl, rfl, rfl, wz⟩ := open_int Try.underlying5 (hval 2 5 v2 rfl rfl) h2
  clear hA0
  simp only [List.append_nil] at hW'
  have bx := bounds_u8 wx
  obtain ⟨x, rfl⟩ := Int.eq_ofNat_of_zero_le bx.1
  have bz := bounds_u8 wz
  obtain ⟨z, rfl⟩ := Int.eq_ofNat_of_zero_le bz.1
  have walk := law_any t x z (by omega) (by omega) W
  refine walk.mono fun e W' ⟨he, hg⟩ => ?_
  subst he
  exact ⟨_, rfl, Fr.post_made (pa := []) (pv := []) hW' (fun _ _ _ => trodAll_cons_mk (shut_bool Try.underlying4 _) trodAll_mk0) (fun _ _ => trodAll_cons_mk (shut_string Try.underlying9 wt) (trodAll_cons_mk (shut_int Try.underlying5 wx) (trodAll_cons_mk (shut_int Try.underlying5 wz) trodAll_mk0))) (fun _ _ => rfl) rfl hg (ok_one (by kernel_rfl) rfl (okWide_bool_mk Try.underlying4 _))⟩
set_option maxRecDepth 100000 in
theorem lifted (os : Os) (started : os.Started) (H : Type) (enc : TypeId × Value → H) :
    ReturnsInHanded {} Try.checked os 9 .any (Rows.crcPairsSpec.pre6 enc Try.prog Try.f9 Rows.crcPairsRow.domain false) (Rows.crcPairsSpec.post enc Try.prog Try.f9 false true false false) := by
  refine returnsInHanded_of_change (C := Try.checked) Fr.own started (by kernel_rfl) Try.func9
    (ChangeSpec.witness6 (enc := enc) (C := Try.checked) false ⟨#[], #[.string ⟨#[]⟩, .int .u8 0, .int .u8 0], []⟩ 8 (by kernel_rfl) (by kernel_rfl) (by kernel_rfl) (by kernel_rfl)) ?_
  intro W base args ds gs before hval hW _ _
  exact contract H enc W base args ds gs before hval hW
theorem said : Rows.CrcPairsSaid :=
  OpenClaim.holds_of_wide 9 Try.f9 rfl rfl rfl rfl rfl rfl rfl ⟨rfl, rfl, rfl, rfl, rfl⟩ rfl rfl rfl rfl rfl (by kernel_rfl) Try.func9 (by kernel_rfl)
    (of_decide_eq_true (by kernel_rfl)) (by unfold Func.isWrapper; first | (rw [if_pos (by decide +kernel)]; kernel_rfl) | (rw [if_neg (by decide +kernel)]; exact ⟨rfl, rfl⟩))
    (fun os started H enc _ => lifted os started H enc)
end LaCrcPairs
end Go.Proofs.Ytinnkdbojgoicaa
