/- The document's own Parse (layer 1), whatever guess answers so long as a right value's text is guessed. Condition: guess does so (hg). -/
import Derived.Test.YtppdebhcaodcnaaDoorTh
namespace Go.Proofs.YtppdebhcaodcnaaDoor
open Go.RowKit
namespace Ref
/-- What guess comes to. -/
def Guess (s : ByteArray) (w : World) (e : Ending) (w' : World) : Prop := ∃ (k n : Int) (b : Nat) (t : ByteArray), e = .returned (.agg #[.int .i64 k, .int .i64 n, .int .u64 b, .string t]) ∧ ((-9223372036854775808 ≤ n ∧ n ≤ 9223372036854775807) ∧ b < 18446744073709551616 ∧
  ∀ v : Rd.V, Rd.right v = true → (-9223372036854775808 ≤ v.n ∧ v.n ≤ 9223372036854775807) → v.b < 18446744073709551616 → Rd.text v = s.data.toList → v = ⟨k, n, b, t.data.toList⟩) ∧ Below w.heap.size w w'
theorem eta (s : ByteArray) : (⟨s.data.toList.toArray⟩ : ByteArray) = s := by
  rw [Array.toArray_toList]
theorem parse_eq (s : ByteArray) (k n : Int) (b : Nat) (t : ByteArray) (hne : s.data.toList ≠ []) (hn : -9223372036854775808 ≤ n ∧ n ≤ 9223372036854775807) (hb : b < 18446744073709551616)
    (hv : ∀ v : Rd.V, Rd.right v = true → (-9223372036854775808 ≤ v.n ∧ v.n ≤ 9223372036854775807) → v.b < 18446744073709551616 → Rd.text v = s.data.toList → v = ⟨k, n, b, t.data.toList⟩) :
    Rd.parse s.data.toList = if Val.showL k n b t = s.data.toList then some ⟨k, n, b, t.data.toList⟩ else none := by
  have ht : Rd.text ⟨k, n, b, t.data.toList⟩ = Val.showL k n b t := by
    show Val.showL k n b ⟨t.data.toList.toArray⟩ = _
    rw [eta]
  by_cases h : Val.showL k n b t = s.data.toList
  · rw [if_pos h, ← h, ← ht]
    have hr : Rd.right ⟨k, n, b, t.data.toList⟩ = true := by
      cases q : Val.rightB k n b t
      · exfalso; apply hne; rw [← h]; unfold Val.showL; rw [if_pos q]
      · show Val.rightB k n b ⟨t.data.toList.toArray⟩ = true
        rw [eta]; exact q
    exact Rd.parse_text hr hn.1 hn.2 hb
  · rw [if_neg h]
    cases hp : Rd.parse s.data.toList with
    | none => rfl
    | some v =>
      obtain ⟨h1, h2, h3⟩ := Rd.parse_sound hp
      obtain ⟨hm, hb2⟩ := Rd.rd_bd h1
      have e := hv v h2 hm hb2 h3
      subst e
      exact absurd (by rw [← ht]; exact h3) h
/-- What Parse comes to. -/
def Parses (s : ByteArray) (w : World) (e : Ending) (w' : World) : Prop := (match Rd.parse s.data.toList with
  | none => e = .returned (.tuple #[.agg #[.int .i64 0, .int .i64 0, .int .u64 0, .string ⟨#[]⟩], .int .i64 7])
  | some v => e = .returned (.tuple #[.agg #[.int .i64 v.k, .int .i64 v.n, .int .u64 v.b, .string ⟨v.s.toArray⟩], .int .i64 0])) ∧ Below w.heap.size w w'
set_option maxHeartbeats 4000000 in
set_option maxRecDepth 100000 in
theorem parse_empty (w : World) : Calls Tryd.prog 13 #[.string ⟨#[]⟩] w fun e w' => e = .returned (.tuple #[.agg #[.int .i64 0, .int .i64 0, .int .u64 0, .string ⟨#[]⟩], .int .i64 7]) ∧ Below w.heap.size w w' := by
  go_enter Tryd.func13, Tryd.ntmps13
  go_wp2_with fail
  refine bodyPost_ret (v := .tuple #[.agg #[.int .i64 0, .int .i64 0, .int .u64 0, .string ⟨#[]⟩], .int .i64 7]) (by simp [results, Tryd.results13, go_sem]) rfl ?_
  exact ⟨rfl, by first | exact (Below.refl _ _).alloc (Nat.le_refl _) _ | exact put4_below _ _ _ _ _ (Nat.le_refl _) ((Below.refl _ _).alloc (Nat.le_refl _) _)⟩
set_option maxHeartbeats 4000000 in
set_option maxRecDepth 100000 in
theorem parse_of (s : ByteArray) (w : World) (hg : ∀ u, Calls Tryd.prog 38 #[.string s] u (Guess s u)) (hne : s.data.toList ≠ []) : Calls Tryd.prog 13 #[.string s] w (Parses s w) := by
  have gs : (s.toList == []) = false := by rw [ByteArray.toList_eq]; simpa using hne
  have HNE := Lib.hid hne
  have HA := Lib.hid (Vb.new w 0 0 0 ⟨#[]⟩)
  have HB := Lib.hid ((Below.refl w.heap.size w).alloc (Nat.le_refl _) (.cells #[.int .i64 0, .int .i64 0, .int .u64 0, .string ⟨#[]⟩] 25))
  clear hne
  go_enter Tryd.func13, Tryd.ntmps13
  go_wp2_with fail
  refine (hg _).mono ?_
  rintro e w1 ⟨k, n, b, t, rfl, ⟨hn, hb, hv⟩, hbw⟩
  have HP := Lib.hid (parse_eq s k n b t HNE.out hn hb hv)
  have HA1 := Lib.hid ((HA.out.later hbw).past (.cells #[.int .i64 k, .int .i64 n, .int .u64 b, .string t] 25))
  have HB1 := Lib.hid ((HB.out.trans (hbw.mono (by simp))).alloc (by have := hbw.size; simp at this; omega) (.cells #[.int .i64 k, .int .i64 n, .int .u64 b, .string t] 25))
  have HV1 := Lib.hid (Vb.new w1 k n b t)
  have Z1 : w.heap.size < w1.heap.size := by have := hbw.size; simp at this; omega
  have hsh := fun u => show_any k n b t hb hn.1 hn.2 u
  obtain ⟨T, hT⟩ : ∃ T, T = Tx (Val.showL k n b t) := ⟨_, rfl⟩
  rw [← hT] at hsh
  have HT := Lib.hid hT
  clear hbw HA HB hT hn hb hv hg gs
  go_wp2_with fail
  refine (hsh _).mono ?_
  rintro e w2 ⟨rfl, hbn⟩
  have HA2 := Lib.hid (HA1.out.later hbn)
  have HV2 := Lib.hid (HV1.out.later hbn)
  have HB2 := Lib.hid (HB1.out.trans (hbn.mono (by simp; omega)))
  clear hbn hsh HA1 HB1 HV1
  have a0 := HA2.out.c0
  have a1 := HA2.out.c1
  have a2 := HA2.out.c2
  have a3 := HA2.out.c3
  have az := HA2.out.z
  have q0 := HV2.out.c0
  have q1 := HV2.out.c1
  have q2 := HV2.out.c2
  have q3 := HV2.out.c3
  by_cases hc : T.toList = s.toList
  · have gt : (T.toList == s.toList) = true := by simp [hc]
    have HC : Hid (Val.showL k n b t = s.data.toList) := Lib.hid (by
      rw [ByteArray.toList_eq, ByteArray.toList_eq, HT.out] at hc
      simpa using hc)
    have HQ := Lib.hid (put4_vb (k := k) (n := n) (x := (b : Nat)) (t := t) HA2.out)
    clear hc
    go_wp2_with fail
    have p0 := HQ.out.c0
    have p1 := HQ.out.c1
    have p2 := HQ.out.c2
    have p3 := HQ.out.c3
    show bodyPost _ _ _ _ _ (put4 w2 w.heap.size (.int .i64 k) (.int .i64 n) (.int .u64 (b : Nat)) (.string t))
    refine bodyPost_ret (v := .tuple #[.agg #[.int .i64 k, .int .i64 n, .int .u64 (b : Nat), .string t], .int .i64 0]) (by simp [results, Tryd.results13, go_sem, p0, p1, p2, p3]) rfl ?_
    refine ⟨?_, put4_below _ _ _ _ _ (Nat.le_refl _) HB2.out⟩
    rw [HP.out, if_pos HC.out]
  · have gt : (T.toList == s.toList) = false := by simp [hc]
    have HC : Hid (¬ Val.showL k n b t = s.data.toList) := Lib.hid (fun x => hc (by
      rw [ByteArray.toList_eq, ByteArray.toList_eq, HT.out]
      simpa using x))
    have HQ := Lib.hid (put4_vb (k := 0) (n := 0) (x := 0) (t := ⟨#[]⟩) HA2.out)
    clear hc
    go_wp2_with fail
    have p0 := HQ.out.c0
    have p1 := HQ.out.c1
    have p2 := HQ.out.c2
    have p3 := HQ.out.c3
    show bodyPost _ _ _ _ _ (put4 w2 w.heap.size (.int .i64 0) (.int .i64 0) (.int .u64 0) (.string ⟨#[]⟩))
    refine bodyPost_ret (v := .tuple #[.agg #[.int .i64 0, .int .i64 0, .int .u64 0, .string ⟨#[]⟩], .int .i64 7]) (by simp [results, Tryd.results13, go_sem, p0, p1, p2, p3]) rfl ?_
    refine ⟨?_, put4_below _ _ _ _ _ (Nat.le_refl _) HB2.out⟩
    rw [HP.out, if_neg HC.out]
end Ref
end Go.Proofs.YtppdebhcaodcnaaDoor
