/- The contracts of read and Parse. Conditions: the text takes at most 2^45 bytes; the listed variables read as the rows list them. -/
import Derived.Test.YtppdebhcaodcnaaDoorRg
namespace Go.Proofs.YtppdebhcaodcnaaDoor
open Go.RowKit
namespace Rd
/-- A value's four fields. -/
structure V where
  k : Int
  n : Int
  b : Nat
  s : List UInt8
def inside (l : List UInt8) : List UInt8 := (l.drop 1).take (l.length - 1 - 1)
def rd (l : List UInt8) : Option V :=
  if l = [110, 117, 108, 108] then some ⟨0, 0, 0, []⟩
  else if l = [102, 97, 108, 115, 101] then some ⟨1, 0, 0, []⟩
  else if l = [116, 114, 117, 101] then some ⟨1, 1, 0, []⟩
  else match l with
    | [] => none
    | c :: r =>
      if c = 102 then (match puAll 18446744073709551615 r with | some (some v) => some ⟨3, 0, v, []⟩ | _ => none)
      else if c = 120 then (match rdBytes r with | some bs => some ⟨4, 0, 0, bs⟩ | none => none)
      else if c = 34 ∧ 1 < (c :: r).length ∧ (c :: r).getLast? = some 34 then (match rdText (c :: r).length (inside (c :: r)) with | some bs => some ⟨5, 0, 0, bs⟩ | none => none)
      else match Lib.atoiAll (c :: r) with | .ok v => some ⟨2, v, 0, []⟩ | _ => none
theorem beq_list (s : ByteArray) (l : List UInt8) : (s.toList == l) = decide (s.data.toList = l) := by
  rw [ByteArray.toList_eq]
  by_cases h : s.data.toList = l
  · rw [h]; simp
  · simp [h]
theorem pre_one (c a : UInt8) (r : List UInt8) : Lib.hasPrefix (c :: r) [a] = decide (c = a) := by
  unfold Lib.hasPrefix
  simp [List.isPrefixOf]
  by_cases h : c = a
  · simp [h]
  · simp [h]; exact fun e => h e.symm
theorem eq34 (c : UInt8) : ((c.toNat : Int) == 34) = decide (c = 34) := by
  have h : (c = 34) ↔ (c.toNat : Int) = 34 := Val.toNat_eq (k := 34) (by omega)
  by_cases g : c = 34
  · have := h.1 g; simp [g]
  · have : ¬ (c.toNat : Int) = 34 := fun e => g (h.2 e)
    simp [g, this]
theorem last_of (s : ByteArray) (h1 : 1 < s.size) : s.data.toList.getLast? = some (s[s.size - 1]'(by omega)) := by
  have hl : s.data.toList.length = s.size := by simp
  rw [List.getLast?_eq_getElem?, hl, List.getElem?_eq_getElem (by omega)]
  rfl
/-- What a reading comes to. -/
def ReadOk (v : V) (w : World) (e : Ending) (w' : World) : Prop := e = .returned (.tuple #[.agg #[.int .i64 v.k, .int .i64 v.n, .int .u64 v.b, .string ⟨v.s.toArray⟩], .bool true]) ∧ Below w.heap.size w w'
def ReadTo (o : Option V) (w : World) (e : Ending) (w' : World) : Prop := match o with
  | some v => ReadOk v w e w'
  | none => ReadErr w e w'
theorem read_any (s : ByteArray) (hmax : s.size ≤ 35184372088832) (w : World) (he : Val.Env w) :
    Calls Tryd.prog 37 #[.string s] w (ReadTo (rd s.data.toList) w) := by
  have hl : s.data.toList.length = s.size := by simp
  have e1 := beq_list s [110, 117, 108, 108]
  have e2 := beq_list s [102, 97, 108, 115, 101]
  have e3 := beq_list s [116, 114, 117, 101]
  by_cases g1 : s.data.toList = [110, 117, 108, 108]
  · rw [rd.eq_def, if_pos g1]
    exact read_null s w hmax (by rw [e1]; exact decide_eq_true g1)
  · rw [rd.eq_def, if_neg g1]
    rw [decide_eq_false g1] at e1
    by_cases g2 : s.data.toList = [102, 97, 108, 115, 101]
    · rw [if_pos g2]
      exact read_false s w hmax e1 (by rw [e2]; exact decide_eq_true g2)
    · rw [if_neg g2]
      rw [decide_eq_false g2] at e2
      by_cases g3 : s.data.toList = [116, 114, 117, 101]
      · rw [if_pos g3]
        exact read_true s w hmax e1 e2 (by rw [e3]; exact decide_eq_true g3)
      · rw [if_neg g3]
        rw [decide_eq_false g3] at e3
        rcases hs : s.data.toList with _ | ⟨c, r⟩
        · rw [hs] at hl
          exact read_i0_err s w hmax e1 e2 e3 (by rw [hs]; rfl) (by rw [hs]; rfl) (by simp at hl; omega) (by rw [hs]; intro v h; cases h) he
        · obtain ⟨h0, hc, hsz⟩ := list_of s hs
          have hd : s.data.toList.drop 1 = r := by rw [hs]; rfl
          simp only
          by_cases c1 : c = 102
          · rw [if_pos c1]
            have p1 : Lib.hasPrefix s.data.toList [102] = true := by rw [hs, pre_one]; exact decide_eq_true c1
            rcases hp : puAll 18446744073709551615 r with _ | _ | v
            · exact read_f_err s w hmax e1 e2 e3 p1 (by omega) (by rw [hd, hp]; intro v h; cases h) he
            · exact read_f_err s w hmax e1 e2 e3 p1 (by omega) (by rw [hd, hp]; intro v h; cases h) he
            · exact read_f s w hmax e1 e2 e3 p1 (by omega) v (by rw [hd, hp])
          · rw [if_neg c1]
            have p1 : Lib.hasPrefix s.data.toList [102] = false := by rw [hs, pre_one]; exact decide_eq_false c1
            by_cases c2 : c = 120
            · rw [if_pos c2]
              have p2 : Lib.hasPrefix s.data.toList [120] = true := by rw [hs, pre_one]; exact decide_eq_true c2
              rcases hp : rdBytes r with _ | bs
              · exact read_x_err s w hmax e1 e2 e3 p1 p2 (by omega) (by rw [hd, hp]) he
              · exact read_x s w hmax e1 e2 e3 p1 p2 (by omega) bs (by rw [hd, hp])
            · rw [if_neg c2]
              have p2 : Lib.hasPrefix s.data.toList [120] = false := by rw [hs, pre_one]; exact decide_eq_false c2
              by_cases c3 : c = 34 ∧ 1 < (c :: r).length ∧ (c :: r).getLast? = some 34
              · rw [if_pos c3]
                have h1 : 1 < s.size := by have := c3.2.1; rw [← hs, hl] at this; exact this
                have q34 : ((s[0].toNat : Int) == 34) = true := by rw [hc, eq34]; exact decide_eq_true c3.1
                have r34 : ((s[s.size - 1].toNat : Int) == 34) = true := by
                  rw [eq34]
                  have := c3.2.2
                  rw [← hs, last_of s h1] at this
                  exact decide_eq_true (Option.some.inj this)
                have hin : inside (c :: r) = (s.data.toList.drop 1).take (s.size - 1 - 1) := by unfold inside; rw [← hs, hl]
                rw [hin]
                rcases hp : rdText (c :: r).length ((s.data.toList.drop 1).take (s.size - 1 - 1)) with _ | bs
                · exact read_t_err s w hmax e1 e2 e3 p1 p2 h1 q34 r34 _ hp (by rw [← hs]; simp; omega) he
                · exact read_t s w hmax e1 e2 e3 p1 p2 h1 q34 r34 _ bs hp
              · rw [if_neg c3, ← hs]
                have key : (s.size ≤ 1) ∨ (1 < s.size ∧ ((s[0].toNat : Int) == 34) = false) ∨ (∃ h : 1 < s.size, ((s[0].toNat : Int) == 34) = true ∧ ((s[s.size - 1].toNat : Int) == 34) = false) := by
                  rcases Nat.lt_or_ge 1 s.size with h1 | h1
                  · by_cases c4 : c = 34
                    · refine Or.inr (Or.inr ⟨h1, by rw [hc, eq34]; exact decide_eq_true c4, ?_⟩)
                      rw [eq34]
                      refine decide_eq_false (fun e => c3 ⟨c4, by rw [← hs, hl]; exact h1, ?_⟩)
                      rw [← hs, last_of s h1, e]
                    · exact Or.inr (Or.inl ⟨h1, by rw [hc, eq34]; exact decide_eq_false c4⟩)
                  · exact Or.inl h1
                have go : ∀ o : Lib.NumEnd Int, Lib.atoiAll s.data.toList = o → (∀ v, o ≠ .ok v) → Calls Tryd.prog 37 #[.string s] w (ReadErr w) := by
                  intro o ho hno
                  have hno' : ∀ v, Lib.atoiAll s.data.toList ≠ .ok v := fun v e => hno v (ho.symm.trans e)
                  rcases key with h1 | ⟨h1, q34⟩ | ⟨h1, q34, r34⟩
                  · exact read_i0_err s w hmax e1 e2 e3 p1 p2 h1 hno' he
                  · exact read_i1_err s w hmax e1 e2 e3 p1 p2 h1 q34 hno' he
                  · exact read_i2_err s w hmax e1 e2 e3 p1 p2 h1 q34 r34 hno' he
                rcases ha : Lib.atoiAll s.data.toList with v | _ | _
                · rcases key with h1 | ⟨h1, q34⟩ | ⟨h1, q34, r34⟩
                  · exact read_i0 s w hmax e1 e2 e3 p1 p2 h1 v ha
                  · exact read_i1 s w hmax e1 e2 e3 p1 p2 h1 q34 v ha
                  · exact read_i2 s w hmax e1 e2 e3 p1 p2 h1 q34 r34 v ha
                · exact go _ ha (fun v h => by cases h)
                · exact go _ ha (fun v h => by cases h)
end Rd
end Go.Proofs.YtppdebhcaodcnaaDoor
