/- Parse of package key. Conditions: the text has at most a million bytes; bytealg's MaxLen holds some number. -/
import Derived.Test.YtppdebhcaodcnaaDoorYk
namespace Go.Proofs.YtppdebhcaodcnaaDoor
open Go.RowKit Cod
namespace Ky
/-- What Parse comes to. -/
def PKey (s : ByteArray) (w : World) (e : Ending) (w' : World) : Prop := (∃ us v, Good us ∧ body us = s.data.toList ∧ e = .returned (.tuple #[v, .int .i64 0]) ∧ Own w.heap.size us v w' ∧ Below w.heap.size w w')
def PNone (s : ByteArray) (w : World) (e : Ending) (w' : World) : Prop := (∀ us, Good us → body us ≠ s.data.toList) ∧ e = .returned (.tuple #[.slice none 0 0, .int .i64 7]) ∧ Below w.heap.size w w'
def POut (s : ByteArray) (w : World) (e : Ending) (w' : World) : Prop := PKey s w e w' ∨ PNone s w e w'
theorem ofB_good {vs : List V} {s : List UInt8} (h : ofB vs = s) (hi : ∀ x ∈ vs, x.inn) (hs : s = [] → vs = []) : Good vs ∧ body vs = s := by
  unfold ofB at h
  by_cases hk : isK vs = true
  · rw [if_pos hk] at h; exact ⟨⟨hk, hi⟩, h⟩
  · rw [if_neg hk] at h
    have := hs h.symm
    subst this
    exact absurd rfl hk
set_option maxRecDepth 100000 in
set_option maxHeartbeats 4000000 in
theorem parse_any (s : ByteArray) (hs : s.size ≤ 1000000) (w : World) (hm : ML w) :
    Calls Tryd.prog 23 #[.string s] w (POut s w) := by
  have HM := Lib.hid hm
  have hrd := read_any s hs w hm
  clear hm
  go_enter Tryd.func23, Tryd.ntmps23
  go_wp2_with fail
  refine hrd.mono ?_
  rintro e w1 ⟨vs, v, ok, rfl, ⟨ho, hi, h8, hz, hc⟩, hb⟩
  have HO := Lib.hid ho
  have HI := Lib.hid hi
  have HC := Lib.hid hc
  have HB := Lib.hid hb
  have HZ := Lib.hid hz
  have hof := of_any vs v hi (by omega) w1 (RowAt.of_owns ho rfl) (HM.out.later hb)
  obtain ⟨ao, n', cap, rfl⟩ : ∃ ao n' cap, v = .slice ao n' cap := by
    rcases ho.2 with ⟨hv, _⟩ | ⟨g, cap, cur, hv, _⟩
    · exact ⟨_, _, _, hv⟩
    · exact ⟨_, _, _, hv⟩
  clear hi hc hb ho hz hrd
  rcases ok with _ | _
  · have HN : Hid (∀ us, Good us → body us ≠ s.data.toList) := Lib.hid (fun us h1 h2 => by have := (HC.out us h1 h2).1; cases this)
    clear hof
    go_wp2_with fail
    go_ret2
    exact .inr ⟨HN.out, rfl, HB.out⟩
  · obtain ⟨T, hT⟩ : ∃ T, T = S (ofB vs) := ⟨_, rfl⟩
    rw [← hT] at hof
    have HT := Lib.hid hT
    clear hT
    by_cases he : ofB vs = s.data.toList
    · have g : (T.toList == s.toList) = true := by rw [ByteArray.toList_eq, ByteArray.toList_eq, HT.out]; simpa using he
      have HG := Lib.hid (ofB_good he HI.out (fun q => HZ.out (by have : s.data.toList.length = s.size := by simp
                                                                  rw [q] at this; simpa using this.symm)))
      clear he
      go_wp2_with fail
      refine hof.mono ?_
      rintro e w2 ⟨rfl, hb2⟩
      have HB2 := Lib.hid (HB.out.trans (hb2.mono HB.out.size))
      have HO2 := Lib.hid (owns_later HO.out hb2)
      clear hb2 hof
      go_wp2_with fail
      go_ret2
      exact .inl ⟨vs, _, HG.out.1, HG.out.2, rfl, HO2.out, HB2.out⟩
    · have g : (T.toList == s.toList) = false := by rw [ByteArray.toList_eq, ByteArray.toList_eq, HT.out]; simpa using he
      have HN : Hid (∀ us, Good us → body us ≠ s.data.toList) := Lib.hid (fun us h1 h2 => by
        have := (HC.out us h1 h2).2
        subst this
        apply he
        unfold ofB
        rw [if_pos h1.1, h2])
      clear he
      go_wp2_with fail
      refine hof.mono ?_
      rintro e w2 ⟨rfl, hb2⟩
      have HB2 := Lib.hid (HB.out.trans (hb2.mono HB.out.size))
      clear hb2 hof
      go_wp2_with fail
      go_ret2
      exact .inr ⟨HN.out, rfl, HB2.out⟩
end Ky
end Go.Proofs.YtppdebhcaodcnaaDoor
