/- The contract of Parse. Conditions: the text takes at most 2^45 bytes; the listed variables read as the rows list them. -/
import Derived.Test.YtppdebhcaodcnaaDoorRh
namespace Go.Proofs.YtppdebhcaodcnaaDoor
open Go.RowKit
namespace Rd
theorem below_block {w w' : World} {k : Nat} {o : Obj} (hb : Below w.heap.size w w') (h : w.heap[k]? = some o) : w'.heap[k]? = some o := by
  rw [hb.block k (Array.getElem?_eq_some_iff.1 h).1]; exact h
theorem new_block (w : World) (cs : Array Value) (T : TypeId) : (w.alloc (.cells cs T)).heap[w.heap.size]? = some (.cells cs T (0, 0)) := by
  show (w.heap.push _)[w.heap.size]? = _
  simp
def right (v : V) : Bool := Val.rightB v.k v.n v.b ⟨v.s.toArray⟩
def text (v : V) : List UInt8 := Val.showL v.k v.n v.b ⟨v.s.toArray⟩
/-- What Parse finds. -/
def parse (l : List UInt8) : Option V := match rd l with
  | none => none
  | some v => if right v = true ∧ text v = l then some v else none
def ParseTo (o : Option V) (w : World) (e : Ending) (w' : World) : Prop := match o with
  | some v => e = .returned (.tuple #[.agg #[.int .i64 v.k, .int .i64 v.n, .int .u64 v.b, .string ⟨v.s.toArray⟩], .int .i64 0]) ∧ Below w.heap.size w w'
  | none => e = .returned (.tuple #[.agg #[.int .i64 0, .int .i64 0, .int .u64 0, .string ⟨#[]⟩], .int .i64 7]) ∧ Below w.heap.size w w'
set_option maxHeartbeats 2000000 in
set_option maxRecDepth 100000 in
theorem parse_bad (s : ByteArray) (hmax : s.size ≤ 35184372088832) (w : World) (he : Val.Env w) (h : rd s.data.toList = none) :
    Calls Tryd.prog 12 #[.string s] w (ParseTo none w) := by
  have HR : Hid (rd s.data.toList = none) := h
  have HE := Lib.hid (he.below ((Below.refl w.heap.size w).alloc (Nat.le_refl _) (.cells #[.int .i64 0, .int .i64 0, .int .u64 0, .string ⟨#[]⟩] 25)))
  clear h he
  go_enter Tryd.func12, Tryd.ntmps12
  go_wp2_with fail
  refine (read_any s hmax _ HE.out).mono ?_
  rw [HR.out]
  rintro e w1 ⟨k, n, b, t, rfl, hb⟩
  obtain ⟨hblk, hB, hz⟩ := res_cells hb
  clear hb
  have c0 : w1.cell? ⟨w.heap.size, 0, none⟩ = some (.int .i64 0) := by rw [Lib.cell_of_heap hblk]; rfl
  have c1 : w1.cell? ⟨w.heap.size, 1, none⟩ = some (.int .i64 0) := by rw [Lib.cell_of_heap hblk]; rfl
  have c2 : w1.cell? ⟨w.heap.size, 2, none⟩ = some (.int .u64 0) := by rw [Lib.cell_of_heap hblk]; rfl
  have c3 : w1.cell? ⟨w.heap.size, 3, none⟩ = some (.string ⟨#[]⟩) := by rw [Lib.cell_of_heap hblk]; rfl
  have f0 : ∀ j, w1.frozen? ⟨w.heap.size, j, none⟩ = false := fun j => Lib.frozen_of_heap hblk j
  have hP := put4_cells w1 w.heap.size (.int .i64 0) (.int .i64 0) (.int .u64 0) (.string ⟨#[]⟩) hblk
  have HP : Hid (((put4 w1 w.heap.size (.int .i64 0) (.int .i64 0) (.int .u64 0) (.string ⟨#[]⟩)).alloc (.cells #[.int .i64 k, .int .i64 n, .int .u64 b, .string t] 25)).heap[w.heap.size]? = some (.cells #[.int .i64 0, .int .i64 0, .int .u64 0, .string ⟨#[]⟩] 25 (0, 0))) :=
    Lib.hid (below_block ((Below.refl _ _).alloc (Nat.le_refl _) _) hP)
  clear hblk hP
  go_wp2_with fail
  have q0 : (((put4 w1 w.heap.size (.int .i64 0) (.int .i64 0) (.int .u64 0) (.string ⟨#[]⟩)).alloc (.cells #[.int .i64 k, .int .i64 n, .int .u64 b, .string t] 25))).cell? ⟨w.heap.size, 0, none⟩ = some (.int .i64 0) := by rw [Lib.cell_of_heap HP.out]; rfl
  have q1 : (((put4 w1 w.heap.size (.int .i64 0) (.int .i64 0) (.int .u64 0) (.string ⟨#[]⟩)).alloc (.cells #[.int .i64 k, .int .i64 n, .int .u64 b, .string t] 25))).cell? ⟨w.heap.size, 1, none⟩ = some (.int .i64 0) := by rw [Lib.cell_of_heap HP.out]; rfl
  have q2 : (((put4 w1 w.heap.size (.int .i64 0) (.int .i64 0) (.int .u64 0) (.string ⟨#[]⟩)).alloc (.cells #[.int .i64 k, .int .i64 n, .int .u64 b, .string t] 25))).cell? ⟨w.heap.size, 2, none⟩ = some (.int .u64 0) := by rw [Lib.cell_of_heap HP.out]; rfl
  have q3 : (((put4 w1 w.heap.size (.int .i64 0) (.int .i64 0) (.int .u64 0) (.string ⟨#[]⟩)).alloc (.cells #[.int .i64 k, .int .i64 n, .int .u64 b, .string t] 25))).cell? ⟨w.heap.size, 3, none⟩ = some (.string ⟨#[]⟩) := by rw [Lib.cell_of_heap HP.out]; rfl
  show bodyPost _ _ _ _ _ ((put4 w1 w.heap.size (.int .i64 0) (.int .i64 0) (.int .u64 0) (.string ⟨#[]⟩)).alloc (.cells #[.int .i64 k, .int .i64 n, .int .u64 b, .string t] 25))
  exact bodyPost_ret (v := .tuple #[.agg #[.int .i64 0, .int .i64 0, .int .u64 0, .string ⟨#[]⟩], .int .i64 7]) (by simp [results, Tryd.results12, go_sem, q0, q1, q2, q3]) rfl ⟨rfl, (put4_below _ _ _ _ _ hB).alloc (by simp [put4]; omega) _⟩
set_option maxHeartbeats 2000000 in
set_option maxRecDepth 100000 in
theorem parse_wrong (s : ByteArray) (hmax : s.size ≤ 35184372088832) (w : World) (he : Val.Env w) (v : V) (h : rd s.data.toList = some v) (hr : right v = false) :
    Calls Tryd.prog 12 #[.string s] w (ParseTo none w) := by
  have HR : Hid (rd s.data.toList = some v) := h
  have he0 := he.below ((Below.refl w.heap.size w).alloc (Nat.le_refl _) (.cells #[.int .i64 0, .int .i64 0, .int .u64 0, .string ⟨#[]⟩] 25))
  have HE := Lib.hid he0
  have hr' : Val.rightB v.k v.n v.b ⟨v.s.toArray⟩ = false := hr
  clear hr
  clear h he he0
  go_enter Tryd.func12, Tryd.ntmps12
  go_wp2_with fail
  refine (read_any s hmax _ HE.out).mono ?_
  rw [HR.out]
  rintro e w1 ⟨rfl, hb⟩
  obtain ⟨hblk, hB, hz⟩ := res_cells hb
  have HE1 := Lib.hid (HE.out.below hb)
  clear hb
  have HK : Hid (w1.heap[w.heap.size]? = some (.cells #[.int .i64 0, .int .i64 0, .int .u64 0, .string ⟨#[]⟩] 25 (0, 0))) := hblk
  clear hblk
  go_wp2_with fail
  refine (Val.right_any _ _ _ _ _).mono ?_
  rintro e w3 ⟨rfl, hb3⟩
  have hK3 : w3.heap[w.heap.size]? = some (.cells #[.int .i64 0, .int .i64 0, .int .u64 0, .string ⟨#[]⟩] 25 (0, 0)) := below_block hb3 (below_block ((Below.refl _ _).alloc (Nat.le_refl _) _) HK.out)
  have hV3 : w3.heap[w1.heap.size]? = some (.cells #[.int .i64 v.k, .int .i64 v.n, .int .u64 v.b, .string ⟨v.s.toArray⟩] 25 (0, 0)) := below_block hb3 (new_block w1 _ _)
  have hz3 : w1.heap.size < w3.heap.size := by have := hb3.size; simp at this; omega
  have hB3 : Below w.heap.size w w3 := (hB.alloc (by omega) _).trans (hb3.mono (by simp; omega))
  have HE3 := Lib.hid ((HE1.out.below ((Below.refl w1.heap.size w1).alloc (Nat.le_refl _) (.cells #[.int .i64 v.k, .int .i64 v.n, .int .u64 v.b, .string ⟨v.s.toArray⟩] 25))).below hb3)
  clear hb3
  have c0 : w3.cell? ⟨w.heap.size, 0, none⟩ = some (.int .i64 0) := by rw [Lib.cell_of_heap hK3]; rfl
  have c1 : w3.cell? ⟨w.heap.size, 1, none⟩ = some (.int .i64 0) := by rw [Lib.cell_of_heap hK3]; rfl
  have c2 : w3.cell? ⟨w.heap.size, 2, none⟩ = some (.int .u64 0) := by rw [Lib.cell_of_heap hK3]; rfl
  have c3 : w3.cell? ⟨w.heap.size, 3, none⟩ = some (.string ⟨#[]⟩) := by rw [Lib.cell_of_heap hK3]; rfl
  have f0 : ∀ j, w3.frozen? ⟨w.heap.size, j, none⟩ = false := fun j => Lib.frozen_of_heap hK3 j
  have HP := Lib.hid (put4_cells w3 w.heap.size (.int .i64 0) (.int .i64 0) (.int .u64 0) (.string ⟨#[]⟩) hK3)
  clear hK3 hV3
  go_wp2_with fail
  have q0 : (put4 w3 w.heap.size (.int .i64 0) (.int .i64 0) (.int .u64 0) (.string ⟨#[]⟩)).cell? ⟨w.heap.size, 0, none⟩ = some (.int .i64 0) := by rw [Lib.cell_of_heap HP.out]; rfl
  have q1 : (put4 w3 w.heap.size (.int .i64 0) (.int .i64 0) (.int .u64 0) (.string ⟨#[]⟩)).cell? ⟨w.heap.size, 1, none⟩ = some (.int .i64 0) := by rw [Lib.cell_of_heap HP.out]; rfl
  have q2 : (put4 w3 w.heap.size (.int .i64 0) (.int .i64 0) (.int .u64 0) (.string ⟨#[]⟩)).cell? ⟨w.heap.size, 2, none⟩ = some (.int .u64 0) := by rw [Lib.cell_of_heap HP.out]; rfl
  have q3 : (put4 w3 w.heap.size (.int .i64 0) (.int .i64 0) (.int .u64 0) (.string ⟨#[]⟩)).cell? ⟨w.heap.size, 3, none⟩ = some (.string ⟨#[]⟩) := by rw [Lib.cell_of_heap HP.out]; rfl
  show bodyPost _ _ _ _ _ (put4 w3 w.heap.size (.int .i64 0) (.int .i64 0) (.int .u64 0) (.string ⟨#[]⟩))
  exact bodyPost_ret (v := .tuple #[.agg #[.int .i64 0, .int .i64 0, .int .u64 0, .string ⟨#[]⟩], .int .i64 7]) (by simp [results, Tryd.results12, go_sem, q0, q1, q2, q3]) rfl ⟨rfl, put4_below _ _ _ _ _ hB3⟩
set_option maxHeartbeats 2000000 in
set_option maxRecDepth 100000 in
theorem parse_other (s : ByteArray) (hmax : s.size ≤ 35184372088832) (w : World) (he : Val.Env w) (v : V) (h : rd s.data.toList = some v) (hr : right v = true) (hn0 : -9223372036854775808 ≤ v.n) (hn1 : v.n ≤ 9223372036854775807) (hvb : v.b < 18446744073709551616) (ht : text v ≠ s.data.toList) :
    Calls Tryd.prog 12 #[.string s] w (ParseTo none w) := by
  have HR : Hid (rd s.data.toList = some v) := h
  have he0 := he.below ((Below.refl w.heap.size w).alloc (Nat.le_refl _) (.cells #[.int .i64 0, .int .i64 0, .int .u64 0, .string ⟨#[]⟩] 25))
  have HE := Lib.hid he0
  have hr' : Val.rightB v.k v.n v.b ⟨v.s.toArray⟩ = true := hr
  have N0 := Lib.hid hn0
  have N1 := Lib.hid hn1
  have NB := Lib.hid hvb
  have HT := Lib.hid ht
  clear hr hn0 hn1 hvb ht
  clear h he he0
  go_enter Tryd.func12, Tryd.ntmps12
  go_wp2_with fail
  refine (read_any s hmax _ HE.out).mono ?_
  rw [HR.out]
  rintro e w1 ⟨rfl, hb⟩
  obtain ⟨hblk, hB, hz⟩ := res_cells hb
  have HE1 := Lib.hid (HE.out.below hb)
  clear hb
  have HK : Hid (w1.heap[w.heap.size]? = some (.cells #[.int .i64 0, .int .i64 0, .int .u64 0, .string ⟨#[]⟩] 25 (0, 0))) := hblk
  clear hblk
  go_wp2_with fail
  refine (Val.right_any _ _ _ _ _).mono ?_
  rintro e w3 ⟨rfl, hb3⟩
  have hK3 : w3.heap[w.heap.size]? = some (.cells #[.int .i64 0, .int .i64 0, .int .u64 0, .string ⟨#[]⟩] 25 (0, 0)) := below_block hb3 (below_block ((Below.refl _ _).alloc (Nat.le_refl _) _) HK.out)
  have hV3 : w3.heap[w1.heap.size]? = some (.cells #[.int .i64 v.k, .int .i64 v.n, .int .u64 v.b, .string ⟨v.s.toArray⟩] 25 (0, 0)) := below_block hb3 (new_block w1 _ _)
  have hz3 : w1.heap.size < w3.heap.size := by have := hb3.size; simp at this; omega
  have hB3 : Below w.heap.size w w3 := (hB.alloc (by omega) _).trans (hb3.mono (by simp; omega))
  have HE3 := Lib.hid ((HE1.out.below ((Below.refl w1.heap.size w1).alloc (Nat.le_refl _) (.cells #[.int .i64 v.k, .int .i64 v.n, .int .u64 v.b, .string ⟨v.s.toArray⟩] 25))).below hb3)
  clear hb3
  have d0 : w3.cell? ⟨w1.heap.size, 0, none⟩ = some (.int .i64 v.k) := by rw [Lib.cell_of_heap hV3]; rfl
  have d1 : w3.cell? ⟨w1.heap.size, 1, none⟩ = some (.int .i64 v.n) := by rw [Lib.cell_of_heap hV3]; rfl
  have d2 : w3.cell? ⟨w1.heap.size, 2, none⟩ = some (.int .u64 v.b) := by rw [Lib.cell_of_heap hV3]; rfl
  have d3 : w3.cell? ⟨w1.heap.size, 3, none⟩ = some (.string ⟨v.s.toArray⟩) := by rw [Lib.cell_of_heap hV3]; rfl
  have HK3 := Lib.hid hK3
  have HV3 := Lib.hid hV3
  clear hK3 hV3
  go_wp2_with fail
  refine (Val.show_any _ _ _ _ _ HE3.out N0.out N1.out NB.out).mono ?_
  rintro e w4 ⟨rfl, hb4⟩
  have hK4 := below_block hb4 HK3.out
  have hV4 := below_block hb4 HV3.out
  have hB4 := hB3.trans (hb4.mono (by omega))
  have ht : ((⟨(Val.showL v.k v.n v.b ⟨v.s.toArray⟩).toArray⟩ : ByteArray).toList == s.toList) = false := by
    rw [ByteArray.toList_eq, ByteArray.toList_eq]
    simpa [text] using HT.out
  generalize (⟨(Val.showL v.k v.n v.b ⟨v.s.toArray⟩).toArray⟩ : ByteArray) = ts at ht ⊢
  clear hb4 d0 d1 d2 d3
  have d0 : w4.cell? ⟨w1.heap.size, 0, none⟩ = some (.int .i64 v.k) := by rw [Lib.cell_of_heap hV4]; rfl
  have d1 : w4.cell? ⟨w1.heap.size, 1, none⟩ = some (.int .i64 v.n) := by rw [Lib.cell_of_heap hV4]; rfl
  have d2 : w4.cell? ⟨w1.heap.size, 2, none⟩ = some (.int .u64 v.b) := by rw [Lib.cell_of_heap hV4]; rfl
  have d3 : w4.cell? ⟨w1.heap.size, 3, none⟩ = some (.string ⟨v.s.toArray⟩) := by rw [Lib.cell_of_heap hV4]; rfl
  have c0 : w4.cell? ⟨w.heap.size, 0, none⟩ = some (.int .i64 0) := by rw [Lib.cell_of_heap hK4]; rfl
  have c1 : w4.cell? ⟨w.heap.size, 1, none⟩ = some (.int .i64 0) := by rw [Lib.cell_of_heap hK4]; rfl
  have c2 : w4.cell? ⟨w.heap.size, 2, none⟩ = some (.int .u64 0) := by rw [Lib.cell_of_heap hK4]; rfl
  have c3 : w4.cell? ⟨w.heap.size, 3, none⟩ = some (.string ⟨#[]⟩) := by rw [Lib.cell_of_heap hK4]; rfl
  have f0 : ∀ j, w4.frozen? ⟨w.heap.size, j, none⟩ = false := fun j => Lib.frozen_of_heap hK4 j
  have HP := Lib.hid (put4_cells w4 w.heap.size (.int .i64 0) (.int .i64 0) (.int .u64 0) (.string ⟨#[]⟩) hK4)
  clear hK4 hV4
  go_wp2_with fail
  have q0 : (put4 w4 w.heap.size (.int .i64 0) (.int .i64 0) (.int .u64 0) (.string ⟨#[]⟩)).cell? ⟨w.heap.size, 0, none⟩ = some (.int .i64 0) := by rw [Lib.cell_of_heap HP.out]; rfl
  have q1 : (put4 w4 w.heap.size (.int .i64 0) (.int .i64 0) (.int .u64 0) (.string ⟨#[]⟩)).cell? ⟨w.heap.size, 1, none⟩ = some (.int .i64 0) := by rw [Lib.cell_of_heap HP.out]; rfl
  have q2 : (put4 w4 w.heap.size (.int .i64 0) (.int .i64 0) (.int .u64 0) (.string ⟨#[]⟩)).cell? ⟨w.heap.size, 2, none⟩ = some (.int .u64 0) := by rw [Lib.cell_of_heap HP.out]; rfl
  have q3 : (put4 w4 w.heap.size (.int .i64 0) (.int .i64 0) (.int .u64 0) (.string ⟨#[]⟩)).cell? ⟨w.heap.size, 3, none⟩ = some (.string ⟨#[]⟩) := by rw [Lib.cell_of_heap HP.out]; rfl
  show bodyPost _ _ _ _ _ (put4 w4 w.heap.size (.int .i64 0) (.int .i64 0) (.int .u64 0) (.string ⟨#[]⟩))
  exact bodyPost_ret (v := .tuple #[.agg #[.int .i64 0, .int .i64 0, .int .u64 0, .string ⟨#[]⟩], .int .i64 7]) (by simp [results, Tryd.results12, go_sem, q0, q1, q2, q3]) rfl ⟨rfl, put4_below _ _ _ _ _ hB4⟩
set_option maxHeartbeats 2000000 in
set_option maxRecDepth 100000 in
theorem parse_good (s : ByteArray) (hmax : s.size ≤ 35184372088832) (w : World) (he : Val.Env w) (v : V) (h : rd s.data.toList = some v) (hr : right v = true) (hn0 : -9223372036854775808 ≤ v.n) (hn1 : v.n ≤ 9223372036854775807) (hvb : v.b < 18446744073709551616) (ht : text v = s.data.toList) :
    Calls Tryd.prog 12 #[.string s] w (ParseTo (some v) w) := by
  have HR : Hid (rd s.data.toList = some v) := h
  have he0 := he.below ((Below.refl w.heap.size w).alloc (Nat.le_refl _) (.cells #[.int .i64 0, .int .i64 0, .int .u64 0, .string ⟨#[]⟩] 25))
  have HE := Lib.hid he0
  have hr' : Val.rightB v.k v.n v.b ⟨v.s.toArray⟩ = true := hr
  have N0 := Lib.hid hn0
  have N1 := Lib.hid hn1
  have NB := Lib.hid hvb
  have HT := Lib.hid ht
  clear hr hn0 hn1 hvb ht
  clear h he he0
  go_enter Tryd.func12, Tryd.ntmps12
  go_wp2_with fail
  refine (read_any s hmax _ HE.out).mono ?_
  rw [HR.out]
  rintro e w1 ⟨rfl, hb⟩
  obtain ⟨hblk, hB, hz⟩ := res_cells hb
  have HE1 := Lib.hid (HE.out.below hb)
  clear hb
  have HK : Hid (w1.heap[w.heap.size]? = some (.cells #[.int .i64 0, .int .i64 0, .int .u64 0, .string ⟨#[]⟩] 25 (0, 0))) := hblk
  clear hblk
  go_wp2_with fail
  refine (Val.right_any _ _ _ _ _).mono ?_
  rintro e w3 ⟨rfl, hb3⟩
  have hK3 : w3.heap[w.heap.size]? = some (.cells #[.int .i64 0, .int .i64 0, .int .u64 0, .string ⟨#[]⟩] 25 (0, 0)) := below_block hb3 (below_block ((Below.refl _ _).alloc (Nat.le_refl _) _) HK.out)
  have hV3 : w3.heap[w1.heap.size]? = some (.cells #[.int .i64 v.k, .int .i64 v.n, .int .u64 v.b, .string ⟨v.s.toArray⟩] 25 (0, 0)) := below_block hb3 (new_block w1 _ _)
  have hz3 : w1.heap.size < w3.heap.size := by have := hb3.size; simp at this; omega
  have hB3 : Below w.heap.size w w3 := (hB.alloc (by omega) _).trans (hb3.mono (by simp; omega))
  have HE3 := Lib.hid ((HE1.out.below ((Below.refl w1.heap.size w1).alloc (Nat.le_refl _) (.cells #[.int .i64 v.k, .int .i64 v.n, .int .u64 v.b, .string ⟨v.s.toArray⟩] 25))).below hb3)
  clear hb3
  have d0 : w3.cell? ⟨w1.heap.size, 0, none⟩ = some (.int .i64 v.k) := by rw [Lib.cell_of_heap hV3]; rfl
  have d1 : w3.cell? ⟨w1.heap.size, 1, none⟩ = some (.int .i64 v.n) := by rw [Lib.cell_of_heap hV3]; rfl
  have d2 : w3.cell? ⟨w1.heap.size, 2, none⟩ = some (.int .u64 v.b) := by rw [Lib.cell_of_heap hV3]; rfl
  have d3 : w3.cell? ⟨w1.heap.size, 3, none⟩ = some (.string ⟨v.s.toArray⟩) := by rw [Lib.cell_of_heap hV3]; rfl
  have HK3 := Lib.hid hK3
  have HV3 := Lib.hid hV3
  clear hK3 hV3
  go_wp2_with fail
  refine (Val.show_any _ _ _ _ _ HE3.out N0.out N1.out NB.out).mono ?_
  rintro e w4 ⟨rfl, hb4⟩
  have hK4 := below_block hb4 HK3.out
  have hV4 := below_block hb4 HV3.out
  have hB4 := hB3.trans (hb4.mono (by omega))
  have ht : ((⟨(Val.showL v.k v.n v.b ⟨v.s.toArray⟩).toArray⟩ : ByteArray).toList == s.toList) = true := by
    rw [ByteArray.toList_eq, ByteArray.toList_eq]
    simpa [text] using HT.out
  generalize (⟨(Val.showL v.k v.n v.b ⟨v.s.toArray⟩).toArray⟩ : ByteArray) = ts at ht ⊢
  clear hb4 d0 d1 d2 d3
  have d0 : w4.cell? ⟨w1.heap.size, 0, none⟩ = some (.int .i64 v.k) := by rw [Lib.cell_of_heap hV4]; rfl
  have d1 : w4.cell? ⟨w1.heap.size, 1, none⟩ = some (.int .i64 v.n) := by rw [Lib.cell_of_heap hV4]; rfl
  have d2 : w4.cell? ⟨w1.heap.size, 2, none⟩ = some (.int .u64 v.b) := by rw [Lib.cell_of_heap hV4]; rfl
  have d3 : w4.cell? ⟨w1.heap.size, 3, none⟩ = some (.string ⟨v.s.toArray⟩) := by rw [Lib.cell_of_heap hV4]; rfl
  have c0 : w4.cell? ⟨w.heap.size, 0, none⟩ = some (.int .i64 0) := by rw [Lib.cell_of_heap hK4]; rfl
  have c1 : w4.cell? ⟨w.heap.size, 1, none⟩ = some (.int .i64 0) := by rw [Lib.cell_of_heap hK4]; rfl
  have c2 : w4.cell? ⟨w.heap.size, 2, none⟩ = some (.int .u64 0) := by rw [Lib.cell_of_heap hK4]; rfl
  have c3 : w4.cell? ⟨w.heap.size, 3, none⟩ = some (.string ⟨#[]⟩) := by rw [Lib.cell_of_heap hK4]; rfl
  have f0 : ∀ j, w4.frozen? ⟨w.heap.size, j, none⟩ = false := fun j => Lib.frozen_of_heap hK4 j
  have HP := Lib.hid (put4_cells w4 w.heap.size (.int .i64 v.k) (.int .i64 v.n) (.int .u64 v.b) (.string ⟨v.s.toArray⟩) hK4)
  clear hK4 hV4
  go_wp2_with fail
  have q0 : (put4 w4 w.heap.size (.int .i64 v.k) (.int .i64 v.n) (.int .u64 v.b) (.string ⟨v.s.toArray⟩)).cell? ⟨w.heap.size, 0, none⟩ = some (.int .i64 v.k) := by rw [Lib.cell_of_heap HP.out]; rfl
  have q1 : (put4 w4 w.heap.size (.int .i64 v.k) (.int .i64 v.n) (.int .u64 v.b) (.string ⟨v.s.toArray⟩)).cell? ⟨w.heap.size, 1, none⟩ = some (.int .i64 v.n) := by rw [Lib.cell_of_heap HP.out]; rfl
  have q2 : (put4 w4 w.heap.size (.int .i64 v.k) (.int .i64 v.n) (.int .u64 v.b) (.string ⟨v.s.toArray⟩)).cell? ⟨w.heap.size, 2, none⟩ = some (.int .u64 v.b) := by rw [Lib.cell_of_heap HP.out]; rfl
  have q3 : (put4 w4 w.heap.size (.int .i64 v.k) (.int .i64 v.n) (.int .u64 v.b) (.string ⟨v.s.toArray⟩)).cell? ⟨w.heap.size, 3, none⟩ = some (.string ⟨v.s.toArray⟩) := by rw [Lib.cell_of_heap HP.out]; rfl
  show bodyPost _ _ _ _ _ (put4 w4 w.heap.size (.int .i64 v.k) (.int .i64 v.n) (.int .u64 v.b) (.string ⟨v.s.toArray⟩))
  exact bodyPost_ret (v := .tuple #[.agg #[.int .i64 v.k, .int .i64 v.n, .int .u64 v.b, .string ⟨v.s.toArray⟩], .int .i64 0]) (by simp [results, Tryd.results12, go_sem, q0, q1, q2, q3]) rfl ⟨rfl, put4_below _ _ _ _ _ hB4⟩
end Rd
end Go.Proofs.YtppdebhcaodcnaaDoor
