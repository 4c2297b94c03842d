/- schema.isLetter, isDigit, Name, and the document's Name. Condition: a text is at most 2^48 bytes. -/
/- Columns in memory: a slice of api.Columns as a list; isColumn, needs, needBit. Condition: a name is at most 2^48 bytes. -/
/- Some column of a slice, by a function: slices.IndexFunc, ContainsFunc; hasName; slices.Equal of columns; schema.Same. Condition: a slice has at most 2^48 columns. -/
/- slices.Equal of columns; schema.Same. Condition: at most a million columns. -/
import Derived.Test.YtopmbhpjdmcabaaGreatJa
import Derived.Test.YtopmbhpjdmcabaaGreatCa
import Derived.Test.YtopmbhpjdmcabaaGreatValA
import Derived.Laws.RangeString
import Derived.Laws.RangeAny
import Derived.Laws.Strings
namespace Go.Proofs.YtopmbhpjdmcabaaGreat
open Go.RowKit
namespace Sch
open Cod
def ltrI (c : Int) : Bool := decide (97 ≤ c) && decide (c ≤ 122) || c == 95
def dgtI (c : Int) : Bool := decide (48 ≤ c) && decide (c ≤ 57)
theorem ltrI_nat (c : UInt8) : ltrI (c.toNat : Int) = ltr c := by
  unfold ltrI ltr
  rw [Bool.eq_iff_iff]
  simp only [Bool.or_eq_true, Bool.and_eq_true, decide_eq_true_eq, beq_iff_eq]
  omega
theorem dgtI_nat (c : UInt8) : dgtI (c.toNat : Int) = dgt c := by
  unfold dgtI dgt
  rw [Bool.eq_iff_iff]
  simp only [Bool.and_eq_true, decide_eq_true_eq]
  omega
theorem ltrI_high {c : Int} (h : 128 ≤ c) : ltrI c = false ∧ dgtI c = false := by
  unfold ltrI dgtI
  constructor
  · rw [Bool.eq_false_iff]; simp only [ne_eq, Bool.or_eq_true, Bool.and_eq_true, decide_eq_true_eq, beq_iff_eq]; omega
  · rw [Bool.eq_false_iff]; simp only [ne_eq, Bool.and_eq_true, decide_eq_true_eq]; omega
theorem ltr_high {c : UInt8} (h : 128 ≤ c.toNat) : ltr c = false ∧ dgt c = false := by
  have := ltrI_high (c := (c.toNat : Int)) (by omega)
  rwa [ltrI_nat, dgtI_nat] at this
theorem isletter_any (c : Int) (w : World) : Calls Tryz.prog 80 #[.int .i32 c] w fun e w' => e = .returned (.bool (ltrI c)) ∧ w = w' := by
  go_enter Tryz.func80, Tryz.ntmps80
  go_wp2_with fail
  all_goals
    go_ret
    refine ⟨Val.ret_bool ?_, rfl⟩
    simp_all [ltrI]
    try omega
theorem isdigit_any (c : Int) (w : World) : Calls Tryz.prog 81 #[.int .i32 c] w fun e w' => e = .returned (.bool (dgtI c)) ∧ w = w' := by
  go_enter Tryz.func81, Tryz.ntmps81
  go_wp2_with fail
  all_goals
    go_ret
    refine ⟨Val.ret_bool ?_, rfl⟩
    simp_all [dgtI]
    try omega
theorem isletter_is {c : Int} {b : Bool} (h : ltrI c = b) (w : World) : Calls Tryz.prog 80 #[.int .i32 c] w fun e w' => e = .returned (.bool b) ∧ w = w' := h ▸ isletter_any c w
theorem isdigit_is {c : Int} {b : Bool} (h : dgtI c = b) (w : World) : Calls Tryz.prog 81 #[.int .i32 c] w fun e w' => e = .returned (.bool b) ∧ w = w' := h ▸ isdigit_any c w
theorem byte_at (s : ByteArray) (i : Nat) (h : i < s.size) : s.data.toList[i]'(by simpa using h) = s[i]'h := rfl
set_option maxHeartbeats 1000000 in
set_option maxRecDepth 100000 in
theorem name_any (s : ByteArray) (hs : s.size ≤ 281474976710656) (w : World) :
    Calls Tryz.prog 55 #[.string s] w fun e w' => e = .returned (.bool (nameB s.data.toList)) ∧ Below w.heap.size w w' := by
  have hsz : s.data.toList.length = s.size := Array.length_toList
  obtain ⟨F, hF⟩ : ∃ F, F = nameB s.data.toList := ⟨_, rfl⟩
  rw [← hF]
  have HF := hidm hF
  have HZ := hidm hsz
  clear hF hsz
  go_enter Tryz.func55, Tryz.ntmps55
  go_wp2_with fail
  go_loopw [] (fun w' => ∃ pos : Nat, Hid (w' = w.iter s pos) ∧ Hid (∀ j, j < pos → nmAt s.data.toList j = true)) (fun w' => s.size - w'.iterPos w.heap.size)
  case atStart => exact ⟨0, hidm rfl, hidm (fun j hj => by omega)⟩
  case round =>
    obtain ⟨pos, HW, HP⟩ := hrel
    obtain rfl := HW.out
    clear HW
    by_cases hp : pos < s.size
    · have hpl : pos < s.data.toList.length := by rw [HZ.out]; exact hp
      have hb := byte_at s pos hp
      have hat := nmAt_at hpl
      rw [hb] at hat
      rcases hm : nmAt s.data.toList pos with _ | _
      · -- no letter: false
        have hF : F = false := by rw [HF.out]; exact name_no hpl hm
        rw [hm] at hat
        have hat' := hat.symm
        rw [Bool.or_eq_false_iff, Bool.and_eq_false_iff] at hat'
        obtain ⟨r, q, hr, hl, hd⟩ : ∃ (r : Int) (q : Nat), (∀ ty, (Instr.next (.pointer (some ⟨w.heap.size, 0, none⟩)) true ty).run Tryz.prog (w.iter s pos) = .ok (.tuple #[.bool true, .int .i64 pos, .int .i32 r]) (w.iter s q)) ∧ ltrI r = false ∧ ((pos != 0) = false ∨ dgtI r = false) := by
          rcases Nat.lt_or_ge (s[pos]'hp).toNat 128 with ha | ha
          · exact ⟨_, _, fun ty => run_next_ascii w s pos ty hp ha, by rw [ltrI_nat]; exact hat'.1, by rw [dgtI_nat]; exact hat'.2⟩
          · have hh := (decode_high s pos hp ha).1
            exact ⟨_, _, fun ty => run_next_any w s pos ty hp, (ltrI_high (by omega)).1, .inr (ltrI_high (by omega)).2⟩
        have HL := hidm hl
        have HD := hidm hd
        have HFF := hidm hF
        clear hat hat' hm hb hl hd hF
        rcases Nat.eq_zero_or_pos pos with h0 | h0
        · subst h0
          go_wp2_with (first | (go_at_call 80; refine (isletter_is HL.out _).mono ?_; rintro e w1 ⟨rfl, rfl⟩))
          go_ret
          exact ⟨Val.ret_bool HFF.out.symm, (Below.refl _ _).alloc (Nat.le_refl _) _⟩
        · have h0' : ((pos : Int) == 0) = false := by simp; omega
          have hd2 : dgtI r = false := by
            rcases HD.out with h | h
            · simp at h; omega
            · exact h
          have HD2 := hidm hd2
          clear hd2
          go_wp2_with (first | (go_at_call 80; refine (isletter_is HL.out _).mono ?_; rintro e w1 ⟨rfl, rfl⟩) | (go_at_call 81; refine (isdigit_is HD2.out _).mono ?_; rintro e w1 ⟨rfl, rfl⟩))
          go_ret
          exact ⟨Val.ret_bool HFF.out.symm, (Below.refl _ _).alloc (Nat.le_refl _) _⟩
      · have ha : (s[pos]'hp).toNat < 128 := by
          rcases Nat.lt_or_ge (s[pos]'hp).toNat 128 with ha | ha
          · exact ha
          · have := ltr_high ha
            rw [hm, this.1, this.2] at hat
            simp at hat
        have hnx := fun ty => run_next_ascii (P := Tryz.prog) w s pos ty hp ha
        have HP2 := hidm (show ∀ j, j < pos + 1 → nmAt s.data.toList j = true from fun j hj => by
          rcases Nat.lt_or_ge j pos with h | h
          · exact HP.out j h
          · obtain rfl : j = pos := by omega
            exact hm)
        rw [hm] at hat
        rcases hl : ltrI ((s[pos]'hp).toNat : Int) with _ | _
        · have hl2 := hl
          rw [ltrI_nat] at hl2
          rw [hl2, Bool.false_or] at hat
          have hat' := hat.symm
          rw [Bool.and_eq_true] at hat'
          have h0' : ((pos : Int) == 0) = false := by have := hat'.1; simp at this; simp; omega
          have HD2 := hidm (show dgtI ((s[pos]'hp).toNat : Int) = true from by rw [dgtI_nat]; exact hat'.2)
          have HL := hidm hl
          clear hat hat' hm hb hl hl2 HP
          go_wp2_with (first | (go_at_call 80; refine (isletter_is HL.out _).mono ?_; rintro e w1 ⟨rfl, rfl⟩) | (go_at_call 81; refine (isdigit_is HD2.out _).mono ?_; rintro e w1 ⟨rfl, rfl⟩))
          go_roundw
          case rel => exact ⟨pos + 1, hidm rfl, HP2⟩
          case measure => simp; omega
        · have HL := hidm hl
          clear hat hm hb hl HP
          go_wp2_with (first | (go_at_call 80; refine (isletter_is HL.out _).mono ?_; rintro e w1 ⟨rfl, rfl⟩))
          go_roundw
          case rel => exact ⟨pos + 1, hidm rfl, HP2⟩
          case measure => simp; omega
    · have hnx := fun ty => run_next_end (P := Tryz.prog) w s pos ty hp
      have hF : F = (decide (1 ≤ s.size) && decide (s.size ≤ 32)) := by
        rw [HF.out, name_end (fun j hj => HP.out j (by rw [HZ.out] at hj; omega)), HZ.out]
      have HFF := hidm hF
      clear hF HP
      rcases Nat.eq_zero_or_pos s.size with h0 | h0
      · have hE : s = ⟨#[]⟩ := by
          apply ByteArray.ext; exact Array.size_eq_zero_iff.1 h0
        have hF2 : F = false := by rw [HFF.out, h0]; rfl
        have HF2 := hidm hF2
        clear HFF hF2 HF
        subst hE
        go_wp2_with fail
        go_ret
        exact ⟨Val.ret_bool HF2.out.symm, (Below.refl _ _).alloc (Nat.le_refl _) _⟩
      · have hne : s.toList ≠ [] := by
          rw [ByteArray.toList_eq]; intro h; have h2 := congrArg List.length h; rw [show s.data.toList.length = s.size from Array.length_toList, List.length_nil] at h2; omega
        have HF2 := hidm (show F = decide (s.size ≤ 32) from by rw [HFF.out, decide_eq_true (show 1 ≤ s.size from h0), Bool.true_and])
        go_wp2_with fail
        all_goals
          go_ret
          refine ⟨Val.ret_bool ?_, (Below.refl _ _).alloc (Nat.le_refl _) _⟩
          rw [HF2.out]
          have he : s.toList.isEmpty = false := by rw [List.isEmpty_eq_false_iff]; exact hne
          rw [he, Bool.not_false, Bool.true_and]
          exact decide_eq_decide.2 (by omega)
end Sch
end Go.Proofs.YtopmbhpjdmcabaaGreat
namespace Go.Proofs.YtopmbhpjdmcabaaGreat
open Go.RowKit
namespace Sch
open Cod
theorem cell_later {w w' : World} {a : Addr} {v : Value} (h : Below w.heap.size w w') (hc : w.cell? a = some v) : w'.cell? a = some v := by
  rw [h.cell (World.block_lt_of_cell? w _ hc)]; exact hc
def C.agg (c : C) : Value := .agg #[.string (S c.nm), .int .i64 c.k, .bool c.nd]
def C.cells (c : C) : List Value := [.string (S c.nm), .int .i64 c.k, .bool c.nd]
def cflat (l : List C) : List Value := l.flatMap C.cells
theorem cflat_len (l : List C) : (cflat l).length = l.length * 3 := by
  induction l with
  | nil => rfl
  | cons v l ih => simp only [cflat, List.flatMap_cons, List.length_append] at ih ⊢; rw [ih]; simp [C.cells]; omega
theorem cflat_app (l m : List C) : cflat (l ++ m) = cflat l ++ cflat m := by simp [cflat]
theorem cflat_snoc (l : List C) (v : C) : cflat (l ++ [v]) = cflat l ++ v.cells := by simp [cflat]
theorem cflat_at (vs : List C) : ∀ (j : Nat) (h : j < vs.length) (f : Nat), f < 3 → (cflat vs)[j * 3 + f]? = (vs[j]).cells[f]? := by
  induction vs with
  | nil => intro j h; cases h
  | cons v vs ih =>
    intro j h f hf
    have e : cflat (v :: vs) = v.cells ++ cflat vs := rfl
    have el : v.cells.length = 3 := rfl
    cases j with
    | zero => rw [e, List.getElem?_append_left (by rw [el]; omega)]; simp
    | succ j =>
      rw [e, List.getElem?_append_right (by rw [el]; omega), el, show (j + 1) * 3 + f - 3 = j * 3 + f by omega]
      exact ih j (by simpa using h) f hf
/-- The slice sl holds these columns. -/
def ColsAt (cs : List C) (sl : Value) (w : World) : Prop := ∃ ao cap, sl = .slice ao cs.length cap ∧ cs.length ≤ cap ∧ cap ≤ 9223372036854775807 ∧ (cs ≠ [] → ∃ b off, ao = some ⟨b, off, none⟩ ∧ b < w.heap.size ∧ ∀ j, j < cs.length * 3 → w.cell? ⟨b, off + j, none⟩ = (cflat cs)[j]?)
theorem ColsAt.later {vs : List C} {sl : Value} {w w' : World} (h : ColsAt vs sl w) (hb : Below w.heap.size w w') : ColsAt vs sl w' := by
  obtain ⟨ao, cap, h1, hc, hm, h2⟩ := h
  refine ⟨ao, cap, h1, hc, hm, fun hne => ?_⟩
  obtain ⟨b, off, h3, h4, h5⟩ := h2 hne
  exact ⟨b, off, h3, Nat.lt_of_lt_of_le h4 hb.size, fun j hj => by rw [hb.cell (p := ⟨b, off + j, none⟩) h4]; exact h5 j hj⟩
/-- The cells of the column that stands at place i. -/
theorem ColsAt.at {vs : List C} {sl : Value} {w : World} (h : ColsAt vs sl w) (i : Nat) (hi : i < vs.length) : ∃ b off cap, sl = .slice (some ⟨b, off, none⟩) vs.length cap ∧ b < w.heap.size ∧
    w.cell? ⟨b, off + i * 3, none⟩ = some (.string (S vs[i].nm)) ∧ w.cell? ⟨b, off + i * 3 + 1, none⟩ = some (.int .i64 vs[i].k) ∧ w.cell? ⟨b, off + i * 3 + 2, none⟩ = some (.bool vs[i].nd) := by
  obtain ⟨ao, cap, h1, _, _, h2⟩ := h
  obtain ⟨b, off, rfl, h4, h5⟩ := h2 (fun e => by rw [e] at hi; cases hi)
  refine ⟨b, off, cap, h1, h4, ?_, ?_, ?_⟩
  · have := h5 (i * 3 + 0) (by omega); rw [cflat_at vs i hi 0 (by omega)] at this; exact this
  · have := h5 (i * 3 + 1) (by omega); rw [cflat_at vs i hi 1 (by omega)] at this; exact this
  · have := h5 (i * 3 + 2) (by omega); rw [cflat_at vs i hi 2 (by omega)] at this; exact this
theorem ColsAt.form {vs : List C} {sl : Value} {w : World} (h : ColsAt vs sl w) : ∃ ao cap, sl = .slice ao vs.length cap ∧ vs.length ≤ cap ∧ cap ≤ 9223372036854775807 := by
  obtain ⟨ao, cap, h1, hc, hm, _⟩ := h
  exact ⟨ao, cap, h1, hc, hm⟩
theorem ColsAt.nil (w : World) : ColsAt [] (.slice none 0 0) w := ⟨none, 0, rfl, Nat.le_refl _, by omega, fun h => absurd rfl h⟩
/-- The first columns alone. -/
theorem ColsAt.take {vs : List C} {ao : Option Addr} {cap : Nat} {w : World} (h : ColsAt vs (.slice ao vs.length cap) w) (k : Nat) (hk : k ≤ vs.length) : ColsAt (vs.take k) (.slice ao k cap) w := by
  obtain ⟨ao', cap', h1, hc, hm, h2⟩ := h
  simp only [Value.slice.injEq, true_and] at h1
  obtain ⟨rfl, rfl⟩ := h1
  have hl : (vs.take k).length = k := by rw [List.length_take]; omega
  refine ⟨ao, cap, by rw [hl], by rw [hl]; omega, hm, fun hne => ?_⟩
  obtain ⟨b, off, h3, h4, h5⟩ := h2 (fun e => hne (by rw [e]; simp))
  refine ⟨b, off, h3, h4, fun j hj => ?_⟩
  rw [hl] at hj
  rw [h5 j (by omega)]
  have e : cflat vs = cflat (vs.take k) ++ cflat (vs.drop k) := by rw [← cflat_app, List.take_append_drop]
  rw [e, List.getElem?_append_left (by rw [cflat_len, hl]; exact hj)]
/-- The columns from one on. -/
theorem ColsAt.drop {vs : List C} {ao : Option Addr} {cap : Nat} {w : World} (h : ColsAt vs (.slice ao vs.length cap) w) (k : Nat) (hk : k ≤ vs.length) : ColsAt (vs.drop k) (.slice (if cap = k then ao else ao.map (·.add (k * 3))) (vs.length - k) (cap - k)) w := by
  obtain ⟨ao', cap', h1, hc, hm, h2⟩ := h
  simp only [Value.slice.injEq, true_and] at h1
  obtain ⟨rfl, rfl⟩ := h1
  have hl : (vs.drop k).length = vs.length - k := List.length_drop
  refine ⟨_, _, by rw [hl], by rw [hl]; omega, by omega, fun hne => ?_⟩
  have hkl : k < vs.length := by
    rcases Nat.lt_or_ge k vs.length with hx | hx
    · exact hx
    · exact absurd (List.drop_eq_nil_of_le hx) hne
  obtain ⟨b, off, h3, h4, h5⟩ := h2 (fun e => by rw [e] at hkl; cases hkl)
  subst h3
  refine ⟨b, off + k * 3, ?_, h4, fun j hj => ?_⟩
  · rw [if_neg (by omega)]
    simp only [Option.map_some, Option.some.injEq]
    unfold Addr.add
    split
    · rename_i h0; rw [h0]; rfl
    · rfl
  · rw [hl] at hj
    rw [Nat.add_assoc, h5 (k * 3 + j) (by omega)]
    have e : cflat vs = cflat (vs.take k) ++ cflat (vs.drop k) := by rw [← cflat_app, List.take_append_drop]
    have hl2 : (cflat (vs.take k)).length = k * 3 := by rw [cflat_len, List.length_take]; congr 1; omega
    rw [e, List.getElem?_append_right (by omega), hl2, Nat.add_sub_cancel_left]
theorem name_is {s : ByteArray} {b : Bool} (h : nameB s.data.toList = b) (hs : s.size ≤ 281474976710656) (w : World) :
    Calls Tryz.prog 55 #[.string s] w fun e w' => e = .returned (.bool b) ∧ Below w.heap.size w w' := h ▸ name_any s hs w
theorem iscolumn_any (c : C) (hc : c.nm.length ≤ 281474976710656) (w : World) :
    Calls Tryz.prog 59 #[.agg #[.string (S c.nm), .int .i64 c.k, .bool c.nd]] w fun e w' => e = .returned (.bool (colIs c)) ∧ Below w.heap.size w w' := by
  obtain ⟨nm, k, nd⟩ := c
  have hn : (S nm).size ≤ 281474976710656 := by rw [S_size]; exact hc
  clear hc
  rcases hb : nameB nm with _ | _
  · have N := fun w => name_is (s := S nm) (b := false) hb hn w
    have e : colIs ⟨nm, k, nd⟩ = false := by unfold colIs; rw [hb]; rfl
    rw [e]
    clear e hb hn
    go_enter Tryz.func59, Tryz.ntmps59
    go_wp2_with (first | (go_at_call 55; refine (N _).mono ?_; rintro e w1 ⟨rfl, hb1⟩; obtain ⟨hc1, hf1⟩ := Val.bcell hb1))
    have HB := hidm (((Below.refl _ _).alloc (Nat.le_refl w.heap.size) _).trans (hb1.mono (by simp)))
    clear hb1 hc1 hf1 N
    go_wp2_with fail
    go_ret
    exact ⟨rfl, HB.out⟩
  · have N := fun w => name_is (s := S nm) (b := true) hb hn w
    have e : colIs ⟨nm, k, nd⟩ = (decide (1 ≤ k) && decide (k ≤ 5)) := by unfold colIs; rw [hb]; rfl
    rw [e]
    clear e hb hn
    go_enter Tryz.func59, Tryz.ntmps59
    go_wp2_with (first | (go_at_call 55; refine (N _).mono ?_; rintro e w1 ⟨rfl, hb1⟩; obtain ⟨hc1, hf1⟩ := Val.bcell hb1))
    all_goals
      go_ret
      refine ⟨Val.ret_bool ?_, ?_⟩
      · simp_all
        try omega
      · exact ((Below.refl _ _).alloc (Nat.le_refl w.heap.size) _).trans (hb1.mono (by simp))
theorem needbit_any (c : C) (w : World) :
    Calls Tryz.prog 112 #[.agg #[.string (S c.nm), .int .i64 c.k, .bool c.nd]] w fun e w' => e = .returned (.int .u64 (bitB c : Nat)) ∧ Below w.heap.size w w' := by
  obtain ⟨nm, k, nd⟩ := c
  cases nd
  all_goals
    go_enter Tryz.func112, Tryz.ntmps112
    go_wp2_with fail
    go_ret
    exact ⟨rfl, (Below.refl _ _).alloc (Nat.le_refl _) _⟩
theorem thename_any (c : C) (n : List UInt8) (b : Nat) (w : World) (hn : w.cell? ⟨b, 0, none⟩ = some (.string (S n))) :
    Calls Tryz.prog 87 #[.agg #[.string (S c.nm), .int .i64 c.k, .bool c.nd], .pointer (some ⟨b, 0, none⟩)] w fun e w' => e = .returned (.bool (decide (c.nm = n))) ∧ Below w.heap.size w w' := by
  have hlt := World.block_lt_of_cell? w _ hn
  have hn2 : ∀ o : Obj, (w.alloc o).cell? ⟨b, 0, none⟩ = some (.string (S n)) := fun o => by
    rw [World.cell?_alloc_lt w o _ hlt]; exact hn
  go_enter Tryz.func87, Tryz.ntmps87
  go_wp2_with fail
  go_ret
  refine ⟨Val.ret_bool ?_, (Below.refl _ _).alloc (Nat.le_refl _) _⟩
  rw [Bool.eq_iff_iff]
  simp
end Sch
end Go.Proofs.YtopmbhpjdmcabaaGreat
namespace Go.Proofs.YtopmbhpjdmcabaaGreat
open Go.RowKit
namespace Sch
open Cod
def IdxP (b : Bool) (w : World) (e : Ending) (w' : World) : Prop := ∃ r : Int, e = .returned (.int .i64 r) ∧ decide (0 ≤ r) = b ∧ Below w.heap.size w w'
theorem any_take_succ {cs : List C} {p : C → Bool} {i : Nat} (hi : i < cs.length) : (cs.take (i + 1)).any p = ((cs.take i).any p || p cs[i]) := by
  rw [List.take_succ_eq_append_getElem hi, List.any_append]; simp
theorem any_at {cs : List C} {p : C → Bool} {i : Nat} (hi : i < cs.length) (h : p cs[i] = true) : cs.any p = true := List.any_eq_true.2 ⟨_, List.getElem_mem hi, h⟩
theorem thename_is {c : C} {n : List UInt8} {b : Bool} (h : decide (c.nm = n) = b) (a : Nat) (w : World) (hn : w.cell? ⟨a, 0, none⟩ = some (.string (S n))) :
    Calls Tryz.prog 87 #[.agg #[.string (S c.nm), .int .i64 c.k, .bool c.nd], .pointer (some ⟨a, 0, none⟩)] w fun e w' => e = .returned (.bool b) ∧ Below w.heap.size w w' := h ▸ thename_any c n a w hn
set_option maxHeartbeats 1000000 in
set_option maxRecDepth 100000 in
theorem idx_nm (n0 : List UInt8) (a : Nat) (cs : List C) (sl : Value) (w : World) (h : ColsAt cs sl w) (ha : w.cell? ⟨a, 0, none⟩ = some (.string (S n0))) :
    Calls Tryz.prog 110 #[sl, .func (.func 87) #[] #[.pointer (some ⟨a, 0, none⟩)]] w fun e w' => IdxP (cs.any (fun d => decide (d.nm = n0))) w e w' := by
  obtain ⟨ao, cap, rfl, hcl, hcm⟩ := h.form
  have H := hidm h
  clear h
  obtain ⟨n, hn⟩ : ∃ n, n = cs.length := ⟨_, rfl⟩
  obtain ⟨F, hF⟩ : ∃ F, F = cs.any (fun d => decide (d.nm = n0)) := ⟨_, rfl⟩
  rw [← hF]
  rw [← hn] at hcl ⊢
  have HN := hidm hn
  have HF := hidm hF
  clear hn hF
  go_enter Tryz.func110, Tryz.ntmps110
  go_wp2_with fail
  go_loopw [8] (fun v wr => ∃ i : Nat, i ≤ n ∧ v = .int .i64 i ∧ Hid (Below w.heap.size w wr) ∧ Hid ((cs.take i).any (fun d => decide (d.nm = n0)) = false)) (fun v _ => n - (intOf v).toNat)
  case atStart => exact ⟨0, by omega, rfl, hidm (Below.refl _ _), hidm (by simp)⟩
  case round =>
    obtain ⟨i, hi, rfl, HB, HP⟩ := hrel
    rcases Nat.lt_or_ge i n with hlt | hge
    · have hia : i < cs.length := by have := HN.out; omega
      obtain ⟨b1, o1, c1, he1, _, q0, q1, q2⟩ := (H.out.later HB.out).at i hia
      simp only [Value.slice.injEq] at he1
      obtain ⟨rfl, _, rfl⟩ := he1
      obtain ⟨x, hx⟩ : ∃ x, x = cs[i] := ⟨_, rfl⟩
      rw [← hx] at q0 q1 q2
      have HX := hidm hx
      clear hx
      have HA := hidm (cell_later HB.out ha)
      rcases hp : (fun d => decide (d.nm = n0)) x with _ | _
      · have HP2 := hidm (show (cs.take (i + 1)).any (fun d => decide (d.nm = n0)) = false from by rw [any_take_succ hia, HP.out, ← HX.out, Bool.false_or]; exact hp)
        have HC := hidm hp
        clear hp
        go_wp2_with (go_at_call 87; refine (thename_is HC.out a _ HA.out).mono ?_; rintro e w1 ⟨rfl, hb1⟩)
        have HB2 := hidm (HB.out.trans (hb1.mono HB.out.size))
        clear hb1
        go_wp2_with fail
        go_roundw
        case rel => exact ⟨i + 1, by omega, by go_num, HB2, HP2⟩
        case measure => simp [intOf]; omega
      · have HFt := hidm (show F = true from by rw [HF.out]; exact any_at hia (by rw [← HX.out]; exact hp))
        have HC := hidm hp
        clear hp
        go_wp2_with (go_at_call 87; refine (thename_is HC.out a _ HA.out).mono ?_; rintro e w1 ⟨rfl, hb1⟩)
        have HB2 := hidm (HB.out.trans (hb1.mono HB.out.size))
        clear hb1
        go_wp2_with fail
        go_ret
        exact ⟨_, rfl, by rw [HFt.out]; simp, HB2.out⟩
    · obtain rfl : i = n := by omega
      have HFf := hidm (show F = false from by rw [HF.out]; have := HP.out; rwa [HN.out, List.take_length] at this)
      go_wp2_with fail
      go_ret
      exact ⟨_, rfl, by rw [HFf.out]; rfl, HB.out⟩
theorem some_nm (n0 : List UInt8) (a : Nat) (cs : List C) (sl : Value) (w : World) (h : ColsAt cs sl w) (ha : w.cell? ⟨a, 0, none⟩ = some (.string (S n0))) :
    Calls Tryz.prog 86 #[sl, .func (.func 87) #[] #[.pointer (some ⟨a, 0, none⟩)]] w fun e w' => e = .returned (.bool (cs.any (fun d => decide (d.nm = n0)))) ∧ Below w.heap.size w w' := by
  have I := idx_nm n0 a cs sl w h ha
  obtain ⟨F, hF⟩ : ∃ F, F = cs.any (fun d => decide (d.nm = n0)) := ⟨_, rfl⟩
  rw [← hF] at I ⊢
  obtain ⟨ao, cap, rfl, _, _⟩ := h.form
  clear hF h
  go_enter Tryz.func86, Tryz.ntmps86
  go_wp2_with fail
  refine I.mono ?_
  rintro e w1 ⟨r, rfl, hr, hb⟩
  have HB := hidm hb
  have HR := hidm hr
  clear hb hr I
  go_wp2_with fail
  go_ret
  exact ⟨Val.ret_bool (by rw [← HR.out]), HB.out⟩
theorem hasname_any (cs : List C) (sl : Value) (n : List UInt8) (w : World) (h : ColsAt cs sl w) :
    Calls Tryz.prog 60 #[sl, .string (S n)] w fun e w' => e = .returned (.bool (hasB cs n)) ∧ Below w.heap.size w w' := by
  have hb0 : Below w.heap.size w (w.alloc (.cells #[.string (S n)] 9)) := (Below.refl _ _).alloc (Nat.le_refl _) _
  have I := some_nm n w.heap.size cs sl (w.alloc (.cells #[.string (S n)] 9)) (h.later hb0) (by simp [go_sem])
  have HB0 := hidm hb0
  obtain ⟨F, hF⟩ : ∃ F, F = hasB cs n := ⟨_, rfl⟩
  rw [show (cs.any fun d => decide (d.nm = n)) = F from hF.symm] at I
  rw [← hF]
  obtain ⟨ao, cap, rfl, _, _⟩ := h.form
  clear hF h hb0
  go_enter Tryz.func60, Tryz.ntmps60
  go_wp2_with fail
  refine I.mono ?_
  rintro e w1 ⟨rfl, hb⟩
  have HB := hidm (HB0.out.trans (hb.mono (by simp)))
  clear hb I
  go_wp2_with fail
  go_ret
  exact ⟨rfl, HB.out⟩
end Sch
end Go.Proofs.YtopmbhpjdmcabaaGreat
namespace Go.Proofs.YtopmbhpjdmcabaaGreat
open Go.RowKit
namespace Sch
open Cod
def eqC (s : ByteArray) (k : Int) (d : Bool) (s' : ByteArray) (k' : Int) (d' : Bool) : Bool := s.toList == s'.toList && (k == k' && d == d')
set_option maxHeartbeats 1000000 in
theorem run_neC (s : ByteArray) (k : Int) (d : Bool) (s' : ByteArray) (k' : Int) (d' : Bool) (w : World) :
    (binOp .neq 81 (.agg #[.string s, .int .i64 k, .bool d]) (.agg #[.string s', .int .i64 k', .bool d'])).run Tryz.prog w = .ok (.bool (!eqC s k d s' k' d')) w := by
  unfold eqC
  by_cases hs : s.toList = s'.toList <;> by_cases hk : k = k' <;> by_cases hd : d = d' <;> go_simp
attribute [go_sem ↓] run_neC
def C.same (a b : C) : Bool := eqC (S a.nm) a.k a.nd (S b.nm) b.k b.nd
theorem C.same_iff (a b : C) : a.same b = true ↔ a = b := by
  obtain ⟨n, k, d⟩ := a
  obtain ⟨n', k', d'⟩ := b
  unfold C.same eqC
  simp only [Bool.and_eq_true, beq_iff_eq, ByteArray.toList_eq, C.mk.injEq]
set_option maxHeartbeats 4000000 in
set_option maxRecDepth 100000 in
theorem equal_any (xs ys : List C) (sa sb : Value) (ha : xs.length ≤ 1000000) (hb : ys.length ≤ 1000000) (w : World) (h1 : ColsAt xs sa w) (h2 : ColsAt ys sb w) :
    Calls Tryz.prog 85 #[sa, sb] w fun e w' => e = .returned (.bool (decide (xs = ys))) ∧ Below w.heap.size w w' := by
  obtain ⟨ao, acap, rfl, hra⟩ := h1
  obtain ⟨bo, bcap, rfl, hrb⟩ := h2
  have HA : Hid (ColsAt xs (.slice ao xs.length acap) w) := hidm ⟨ao, acap, rfl, hra⟩
  have HB : Hid (ColsAt ys (.slice bo ys.length bcap) w) := hidm ⟨bo, bcap, rfl, hrb⟩
  clear hra hrb
  obtain ⟨n, hn⟩ : ∃ n, n = xs.length := ⟨_, rfl⟩
  obtain ⟨m, hm⟩ : ∃ m, m = ys.length := ⟨_, rfl⟩
  obtain ⟨F, hF⟩ : ∃ F, F = decide (xs = ys) := ⟨_, rfl⟩
  rw [← hn, ← hm, ← hF]
  have HN := hidm hn
  have HM := hidm hm
  have HF := hidm hF
  have hn' : n ≤ 1000000 := by omega
  have hm' : m ≤ 1000000 := by omega
  clear hn hm hF
  by_cases hnm : n = m
  · have HNM := hidm hnm
    have f0 : ((n : Int) != (m : Int)) = false := by simp; omega
    clear hnm
    go_enter Tryz.func85, Tryz.ntmps85
    go_wp2_with fail
    go_loopw [13] (fun ii wr => ∃ i : Nat, ii = .int .i64 i ∧ i ≤ n ∧ Hid (xs.take i = ys.take i) ∧ Hid (Below w.heap.size w wr)) (fun ii _ => (n - (intOf ii).toNat))
    case atStart => exact ⟨0, rfl, by omega, hidm rfl, hidm (Below.refl _ _)⟩
    case round =>
      obtain ⟨i, rfl, hi, HT, HBr⟩ := hrel
      rcases Nat.eq_or_lt_of_le hi with hie | hie
      · have f1 : ¬ (i : Int) < n := by omega
        have HE := hidm hie
        clear hie
        go_wp2_with fail
        go_ret
        refine ⟨congrArg (fun q => Ending.returned (.bool q)) ?_, HBr.out⟩
        rw [HF.out]
        have h := HT.out
        rw [List.take_of_length_le (by have := HE.out; have := HN.out; omega), List.take_of_length_le (by have := HE.out; have := HM.out; have := HNM.out; omega)] at h
        simp [h]
      · have f1 : (i : Int) < n := by omega
        have f2 : (i : Int) < m := by have := HNM.out; omega
        have hia : i < xs.length := by have := HN.out; omega
        have hib : i < ys.length := by have := HM.out; have := HNM.out; omega
        obtain ⟨b1, o1, c1, he1, _, q0, q1, q2⟩ := (HA.out.later HBr.out).at i hia
        obtain ⟨b2, o2, c2, he2, _, r0, r1, r2⟩ := (HB.out.later HBr.out).at i hib
        simp only [Value.slice.injEq, true_and] at he1 he2
        obtain ⟨rfl, rfl⟩ := he1
        obtain ⟨rfl, rfl⟩ := he2
        obtain ⟨x, hx⟩ : ∃ x, x = xs[i] := ⟨_, rfl⟩
        obtain ⟨y, hy⟩ : ∃ y, y = ys[i] := ⟨_, rfl⟩
        rw [← hx] at q0 q1 q2
        rw [← hy] at r0 r1 r2
        have HX := hidm hx
        have HY := hidm hy
        have f3 : (i : Int) < (n : Int) := f1
        clear hx hy
        have heq : eqC (S x.nm) x.k x.nd (S y.nm) y.k y.nd = x.same y := rfl
        rcases hsame : x.same y with _ | _
        · have f4 : eqC (S x.nm) x.k x.nd (S y.nm) y.k y.nd = false := heq.trans hsame
          clear heq
          go_wp2_with fail
          go_quiet (fail)
          go_wp2_with fail
          go_ret
          refine ⟨congrArg (fun q => Ending.returned (.bool q)) ?_, below_drewN HBr.out _⟩
          rw [HF.out]
          symm
          rw [decide_eq_false_iff_not]
          intro he
          have : x = y := by rw [HX.out, HY.out]; subst he; rfl
          rw [(C.same_iff x y).2 this] at hsame
          cases hsame
        · have f4 : eqC (S x.nm) x.k x.nd (S y.nm) y.k y.nd = true := heq.trans hsame
          have hxy := (C.same_iff x y).1 hsame
          have HT2 : Hid (xs.take (i + 1) = ys.take (i + 1)) := by
            refine hidm ?_
            rw [List.take_succ_eq_append_getElem hia, List.take_succ_eq_append_getElem hib, HT.out, ← HX.out, ← HY.out, hxy]
          have HXY := hidm hxy
          clear heq hxy
          go_wp2_with fail
          go_quiet (fail)
          go_wp2_with fail
          go_roundw
          case rel => exact ⟨i + 1, by go_num, by omega, HT2, hidm (below_drewN HBr.out _)⟩
          case measure => simp [intOf]; omega
  · have HNM := hidm hnm
    have f0 : ((n : Int) != (m : Int)) = true := by simp; omega
    clear hnm
    go_enter Tryz.func85, Tryz.ntmps85
    go_wp2_with fail
    go_ret
    refine ⟨congrArg (fun q => Ending.returned (.bool q)) ?_, Below.refl _ _⟩
    rw [HF.out]
    symm
    rw [decide_eq_false_iff_not]
    intro he
    have h1 := HN.out
    rw [he, ← HM.out] at h1
    exact HNM.out h1
theorem same_cases (a b : T) : (a.nm = b.nm → a.keys = b.keys → decide (a.cols = b.cols) = sameB a b) ∧ ((a.nm ≠ b.nm ∨ a.keys ≠ b.keys) → sameB a b = false) := by
  obtain ⟨n, c, k⟩ := a
  obtain ⟨n', c', k'⟩ := b
  unfold sameB
  constructor
  · intro h1 h2; simp only at h1 h2; subst h1 h2; simp [T.mk.injEq]
  · intro h; rw [decide_eq_false_iff_not]; intro he; cases he; simp at h
set_option maxHeartbeats 1000000 in
set_option maxRecDepth 100000 in
theorem same_any (a b : T) (sa sb : Value) (ha : a.cols.length ≤ 1000000) (hb : b.cols.length ≤ 1000000) (w : World) (h1 : ColsAt a.cols sa w) (h2 : ColsAt b.cols sb w) :
    Calls Tryz.prog 58 #[.agg #[.string (S a.nm), sa, .int .i64 a.keys], .agg #[.string (S b.nm), sb, .int .i64 b.keys]] w fun e w' => e = .returned (.bool (sameB a b)) ∧ Below w.heap.size w w' := by
  obtain ⟨ao, acap, rfl, _, _⟩ := h1.form
  obtain ⟨bo, bcap, rfl, _, _⟩ := h2.form
  have hb0 : Below w.heap.size w ((w.alloc (.cells #[.string (S a.nm), .slice ao a.cols.length acap, .int .i64 a.keys] 30)).alloc (.cells #[.string (S b.nm), .slice bo b.cols.length bcap, .int .i64 b.keys] 30)) := ((Below.refl _ _).alloc (Nat.le_refl _) _).alloc (by simp) _
  have E := equal_any a.cols b.cols (.slice ao a.cols.length acap) (.slice bo b.cols.length bcap) ha hb _ (h1.later hb0) (h2.later hb0)
  have HB0 := hidm hb0
  obtain ⟨F, hF⟩ : ∃ F, F = sameB a b := ⟨_, rfl⟩
  have hc := same_cases a b
  rw [← hF] at hc ⊢
  clear hF h1 h2 hb0 ha hb
  obtain ⟨an, ac, ak⟩ := a
  obtain ⟨bn, bc, bk⟩ := b
  by_cases hn : an = bn
  · subst hn
    by_cases hk : ak = bk
    · subst hk
      have hF := hidm (hc.1 rfl rfl)
      rw [hF.out] at E
      clear hc hF
      go_enter Tryz.func58, Tryz.ntmps58
      go_wp2_with fail
      refine E.mono ?_
      rintro e w1 ⟨rfl, hb⟩
      have HB := hidm (HB0.out.trans (hb.mono (by simp; omega)))
      clear hb E
      go_wp2_with fail
      go_ret
      exact ⟨rfl, HB.out⟩
    · have hF := hidm (hc.2 (.inr hk))
      have f2 : (ak == bk) = false := by simpa using hk
      clear hk hc E
      go_enter Tryz.func58, Tryz.ntmps58
      go_wp2_with fail
      go_ret
      exact ⟨Val.ret_bool hF.out.symm, HB0.out⟩
  · have hF := hidm (hc.2 (.inl hn))
    have f1 : (an == bn) = false := by simpa using hn
    clear hn hc E
    go_enter Tryz.func58, Tryz.ntmps58
    go_wp2_with fail
    go_ret
    exact ⟨Val.ret_bool hF.out.symm, HB0.out⟩
end Sch
end Go.Proofs.YtopmbhpjdmcabaaGreat
