/- The contract of Show. Conditions: the listed variables read as the rows list them; the numbers fit their kinds. -/
import Derived.Test.YtppdebhcaodcnaaDoorValC
import Derived.Test.YtppdebhcaodcnaaDoorValD
import Derived.WalkSmall
namespace Go.Proofs.YtppdebhcaodcnaaDoor
open Go.RowKit Go.Sort
namespace Val
/-- What the listed variables read as, as far as a walk wants it. -/
structure Env (w : World) : Prop where
  pow : Lib.TabIs Tryd.prog w "internal/strconv.uint64pow10" .u64 Lib.pow10Tab
  syn : ∃ tp p, w.var? Tryd.prog "strconv.ErrSyntax" = some #[.iface tp p]
  rng : ∃ tp p, w.var? Tryd.prog "strconv.ErrRange" = some #[.iface tp p]
theorem var_kept {W W' : World} {n : String} {cs : Array Value} (h : Below W.heap.size W W') (hv : W.var? Tryd.prog n = some cs) : W'.var? Tryd.prog n = some cs := by
  cases hg : Tryd.prog.globalNamed n with
  | none => simp [World.var?, hg] at hv
  | some g =>
    refine var?_below h hg ?_ hv
    unfold World.var? at hv
    rw [hg] at hv
    rcases Nat.lt_or_ge g W.heap.size with h' | h'
    · exact h'
    · simp [Array.getElem?_eq_none h'] at hv
theorem Env.below {w w' : World} (h : Env w) (hb : Below w.heap.size w w') : Env w' :=
  ⟨var_kept hb h.pow, by obtain ⟨tp, p, hv⟩ := h.syn; exact ⟨tp, p, var_kept hb hv⟩, by obtain ⟨tp, p, hv⟩ := h.rng; exact ⟨tp, p, var_kept hb hv⟩⟩
theorem below_grow (w : World) (k : Nat) (os : Array Obj) : Below w.heap.size w (grow (w.drewN k) os) := by
  refine below_drewN (a := w) (w := w) (Below.refl _ w) k |>.trans ⟨rfl, rfl, rfl, by simp [grow], fun i hi => ?_⟩
  show (w.heap ++ os)[i]? = w.heap[i]?
  rw [Array.getElem?_append_left hi]
theorem itoa_any (n : Int) (h0 : -9223372036854775808 ≤ n) (h1 : n ≤ 9223372036854775807) (w : World) (he : Env w) :
    Calls Tryd.prog 55 #[.int .i64 n] w fun e w' => e = .returned (.string ⟨(Lib.itoa n).toArray⟩) ∧ Below w.heap.size w w' := by
  refine (Tryd.strconv_Itoa n h0 h1 w he.pow).mono ?_
  rintro e w' ⟨rfl, k, os, rfl⟩
  exact ⟨rfl, below_grow w k os⟩
/-- A value's text, as bytes. -/
def showL (k n : Int) (b : Nat) (s : ByteArray) : List UInt8 :=
  if rightB k n b s = false then []
  else if k = 0 then [110, 117, 108, 108]
  else if k = 1 then Lib.formatBool (n == 1)
  else if k = 2 then Lib.itoa n
  else if k = 3 then Txt.showBits b
  else if k = 4 then Txt.showBytes s.data.toList
  else Txt.showText s.data.toList
theorem right_kind {k n : Int} {b : Nat} {s : ByteArray} (h : rightB k n b s = true) : k = 0 ∨ k = 1 ∨ k = 2 ∨ k = 3 ∨ k = 4 ∨ k = 5 := by
  unfold rightB at h
  split at h
  · omega
  · split at h
    · omega
    · split at h
      · omega
      · split at h
        · omega
        · split at h
          · omega
          · cases h
theorem right_size {k n : Int} {b : Nat} {s : ByteArray} (h : rightB k n b s = true) (hk : k = 4 ∨ k = 5) : s.size ≤ 4096 := by
  unfold rightB at h
  rw [if_neg (by omega), if_neg (by omega), if_neg (by omega), if_neg (by omega), if_pos hk] at h
  simp only [Bool.and_eq_true, decide_eq_true_eq] at h
  omega
set_option maxRecDepth 100000 in
set_option maxHeartbeats 1000000 in
theorem show_any (k n : Int) (b : Nat) (s : ByteArray) (w : World) (he : Env w) (h0 : -9223372036854775808 ≤ n) (h1 : n ≤ 9223372036854775807) (hb : b < 18446744073709551616) :
    Calls Tryd.prog 30 #[.agg #[.int .i64 k, .int .i64 n, .int .u64 b, .string s]] w fun e w' => e = .returned (.string ⟨(showL k n b s).toArray⟩) ∧ Below w.heap.size w w' := by
  cases hr : rightB k n b s
  · have e : showL k n b s = [] := by unfold showL; rw [if_pos hr]
    rw [e]; clear e he h0 h1 hb
    go_enter Tryd.func30, Tryd.ntmps30
    go_wp2_with (go_at_call 34; refine (right_any _ _ _ _ _).mono ?_; rintro e w' ⟨rfl, hb⟩)
    go_ret
    exact ⟨rfl, ((Below.refl _ _).alloc (Nat.le_refl _) _).trans (hb.mono (by simp))⟩
  · have hK := right_kind hr
    have hS := right_size hr
    have E : Hid (showL k n b s = if k = 0 then [110, 117, 108, 108] else if k = 1 then Lib.formatBool (n == 1) else if k = 2 then Lib.itoa n else if k = 3 then Txt.showBits b else if k = 4 then Txt.showBytes s.data.toList else Txt.showText s.data.toList) := by
      show showL k n b s = _
      unfold showL; rw [if_neg (by simp [hr])]
    have HE := Lib.hid he
    have H0 := Lib.hid h0
    have H1 := Lib.hid h1
    have HB := Lib.hid hb
    clear he h0 h1 hb
    rcases hK with rfl | rfl | rfl | rfl | rfl | rfl
    all_goals
      go_enter Tryd.func30, Tryd.ntmps30
      go_wp2_with fail
      refine (right_any _ _ _ _ _).mono ?_
      rintro e w1 ⟨rfl, hb⟩
      have hz : w.heap.size < w1.heap.size := by have := hb.size; simp at this; omega
      have hb0 : Below w.heap.size w w1 := ((Below.refl _ _).alloc (Nat.le_refl _) _).trans (hb.mono (by simp))
      obtain ⟨hc, hf⟩ := bcell hb
      have he1 : Env w1 := HE.out.below hb0
      have HE1 := Lib.hid he1
      clear he1
      go_wp2_with fail
    · go_ret
      exact ⟨by rw [E.out]; rfl, hb0⟩
    · refine (Tryd.strconv_FormatBool _ _).mono ?_
      rintro e w2 ⟨rfl, rfl⟩
      go_wp2_with fail
      go_ret
      exact ⟨by rw [E.out]; rfl, hb0⟩
    · refine (itoa_any n H0.out H1.out _ HE1.out).mono ?_
      rintro e w2 ⟨rfl, hb2⟩
      go_wp2_with fail
      go_ret
      exact ⟨by rw [E.out]; rfl, hb0.trans (hb2.mono (by omega))⟩
    · refine (showBits_any b _ (by have := HB.out; omega)).mono ?_
      rintro e w2 ⟨rfl, hb2⟩
      go_wp2_with fail
      go_ret
      exact ⟨by rw [E.out]; rfl, hb0.trans (hb2.mono (by omega))⟩
    · refine (showBytes_any s _ (by have := hS (by simp); omega)).mono ?_
      rintro e w2 ⟨rfl, hb2⟩
      go_wp2_with fail
      go_ret
      exact ⟨by rw [E.out]; rfl, hb0.trans (hb2.mono (by omega))⟩
    · refine (showText_any s _ (by have := hS (by simp); omega)).mono ?_
      rintro e w2 ⟨rfl, hb2⟩
      go_wp2_with fail
      go_ret
      exact ⟨by rw [E.out]; rfl, hb0.trans (hb2.mono (by omega))⟩
end Val
end Go.Proofs.YtppdebhcaodcnaaDoor
