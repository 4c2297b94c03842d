/- Write, Flush, Read, Crash of a disk whatever comes in; rows of texts. Conditions: as each says. -/
import Derived.Test.YtkbadjlehmaneaaDn
import Derived.Test.YtkbadjlehmaneaaDo
namespace Go.Proofs.Ytkbadjlehmaneaa
open Go.RowKit
namespace Dsk
def PD.wcode (d : PD) (k : Int) (s : ByteArray) : Int := if k < 0 ∨ (d.n : Int) ≤ k then 2 else if 128 < s.size then 19 else if d.burnt then 6 else 0
def PD.wstep (d : PD) (k : Int) (s : ByteArray) : PD := if d.wcode k s = 0 then (d.write k.toNat s.data.toList).burn else d
def PD.fcode (d : PD) : Int := if d.burnt then 6 else 0
def PD.fstep (d : PD) : PD := if d.burnt then d else d.flush.burn
def PD.rcode (d : PD) (k : Int) : Int := if k < 0 ∨ (d.n : Int) ≤ k then 2 else 0
def PD.rtext (d : PD) (k : Int) : ByteArray := if k < 0 ∨ (d.n : Int) ≤ k then ⟨#[]⟩ else S (d.f k)
section
variable {W : World} {Q : Nat → Prop} {D : Nat} {d : PD} {w : World}
theorem Mine.flen (h : Mine W Q D d w) (k : Int) : (d.f k).length = 128 := by
  obtain ⟨⟨T, ⟨M, ao, cap, hT⟩, _⟩, _, _⟩ := h
  exact hT.map.1 k
theorem Mine.refl_keep (h : Mine W Q D d w) {w' : World} (hb : Below w.heap.size w w') : Mine W Q D d w' ∧ KeepQ Q w w' := ⟨h.later hb, h.kept hb⟩
theorem m_write_any (k : Int) (s : ByteArray) (h : Mine W Q D d w) (hc : d.cs.length < 1000000) (hw : d.wr < 1000000) :
    Calls Try.prog 11 #[.pointer (some ⟨D, 0, none⟩), .int .i64 k, .string s] w fun e w' => e = .returned (.int .i64 (d.wcode k s)) ∧ Mine W Q D (d.wstep k s) w' ∧ KeepQ Q w w' := by
  by_cases h1 : k < 0 ∨ (d.n : Int) ≤ k
  · have hcode : d.wcode k s = 2 := by unfold PD.wcode; rw [if_pos h1]
    have hst : d.wstep k s = d := by unfold PD.wstep; rw [hcode]; rfl
    rw [hcode, hst]
    exact (m_write_off k s h h1).mono fun _ _ ⟨he, hb⟩ => ⟨he, h.refl_keep hb⟩
  · obtain ⟨q, hq⟩ : ∃ q : Nat, k = (q : Int) := ⟨k.toNat, by omega⟩
    subst hq
    have hqn : q < d.n := by omega
    by_cases h2 : 128 < s.size
    · have hcode : d.wcode q s = 19 := by unfold PD.wcode; rw [if_neg h1, if_pos h2]
      have hst : d.wstep q s = d := by unfold PD.wstep; rw [hcode]; rfl
      rw [hcode, hst]
      exact (m_write_big q s h2 h hqn).mono fun _ _ ⟨he, hb⟩ => ⟨he, h.refl_keep hb⟩
    · rcases hb : d.burnt with _ | _
      · have hcode : d.wcode q s = 0 := by unfold PD.wcode; rw [if_neg h1, if_neg h2, hb]; rfl
        have hst : d.wstep q s = (d.write q s.data.toList).burn := by unfold PD.wstep; rw [hcode]; simp
        rw [hcode, hst]
        exact m_write q s (by omega) h hqn hb hc hw
      · have hcode : d.wcode q s = 6 := by unfold PD.wcode; rw [if_neg h1, if_neg h2, hb]; rfl
        have hst : d.wstep q s = d := by unfold PD.wstep; rw [hcode]; rfl
        rw [hcode, hst]
        exact (m_write_burnt q s (by omega) h hqn hb).mono fun _ _ ⟨he, hb⟩ => ⟨he, h.refl_keep hb⟩
theorem m_flush_any (h : Mine W Q D d w) (hf : d.fl < 1000000) :
    Calls Try.prog 15 #[.pointer (some ⟨D, 0, none⟩)] w fun e w' => e = .returned (.int .i64 d.fcode) ∧ Mine W Q D d.fstep w' ∧ KeepQ Q w w' := by
  rcases hb : d.burnt with _ | _
  · have hcode : d.fcode = 0 := by unfold PD.fcode; rw [hb]; rfl
    have hst : d.fstep = d.flush.burn := by unfold PD.fstep; rw [hb]; rfl
    rw [hcode, hst]
    exact m_flush h hb hf
  · have hcode : d.fcode = 6 := by unfold PD.fcode; rw [hb]; rfl
    have hst : d.fstep = d := by unfold PD.fstep; rw [hb]; rfl
    rw [hcode, hst]
    exact (m_flush_burnt h hb).mono fun _ _ ⟨he, hb⟩ => ⟨he, h.refl_keep hb⟩
theorem m_read_any (k : Int) (h : Mine W Q D d w) :
    Calls Try.prog 13 #[.pointer (some ⟨D, 0, none⟩), .int .i64 k] w fun e w' => e = .returned (.tuple #[.string (d.rtext k), .int .i64 (d.rcode k)]) ∧ Below w.heap.size w w' := by
  unfold PD.rtext PD.rcode
  by_cases h1 : k < 0 ∨ (d.n : Int) ≤ k
  · rw [if_pos h1, if_pos h1]
    exact m_read_off k h h1
  · obtain ⟨q, hq⟩ : ∃ q : Nat, k = (q : Int) := ⟨k.toNat, by omega⟩
    subst hq
    rw [if_neg h1, if_neg h1]
    exact m_read q h (by omega)
end
/-! ### Rows of texts -/
def strs (l : List (List UInt8)) : List Value := l.map fun b => .string (S b)
theorem strs_snoc (l : List (List UInt8)) (b : List UInt8) : strs (l ++ [b]) = strs l ++ [.string (S b)] := by simp [strs]
def StrsAt (base : Nat) (l : List (List UInt8)) (v : Value) (w : World) : Prop := w.ownsRow base 9 1 v l.length (strs l)
theorem StrsAt.form {base : Nat} {l : List (List UInt8)} {v : Value} {w : World} (h : StrsAt base l v w) : ∃ ao cap, v = .slice ao l.length cap ∧ l.length ≤ cap ∧ cap ≤ 9223372036854775807 := by
  rcases h.2 with ⟨h1, h2⟩ | ⟨g, c, cur, hv, _, _, hnc, hcm, _⟩
  · exact ⟨none, 0, by rw [h1, h2], by omega, by omega⟩
  · exact ⟨_, c, hv, hnc, by unfold maxLen at hcm; omega⟩
theorem StrsAt.at {base : Nat} {l : List (List UInt8)} {v : Value} {w : World} (h : StrsAt base l v w) (i : Nat) (hi : i < l.length) : ∃ g cap, v = .slice (some ⟨g, 0, none⟩) l.length cap ∧ base ≤ g ∧ g < w.heap.size ∧ w.cell? ⟨g, i, none⟩ = some (.string (S l[i])) := by
  rcases h.2 with ⟨_, h2⟩ | ⟨g, c, cur, hv, hg, hh, hnc, hcm, hsz, htk⟩
  · omega
  · refine ⟨g, c, hv, hg, lt_of_block hh, ?_⟩
    rw [cell_of_row _ _ _ _ _ (0, 0) hh]
    have h1 : (strs l)[i]? = some (.string (S l[i])) := by unfold strs; simp [hi]
    rw [← htk, List.getElem?_take_of_lt (by omega)] at h1
    simpa using h1
theorem StrsAt.later {base : Nat} {l : List (List UInt8)} {v : Value} {w w' : World} (h : StrsAt base l v w) (hb : Below w.heap.size w w') : StrsAt base l v w' := owns_later h hb
theorem infoS : (Try.prog.info? 9).map (fun i => (i.zero, i.size, i.bytes)) = some (some (.string ⟨#[]⟩), 1, 16) := by kernel_rfl
end Dsk
end Go.Proofs.Ytkbadjlehmaneaa
