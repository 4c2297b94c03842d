/- What the key laws' walks take: the contracts with their answers named. Conditions: as each theorem says. -/
import Derived.Test.YtppdebhcaodcnaaDoorYn
namespace Go.Proofs.YtppdebhcaodcnaaDoor
open Go.RowKit Cod
namespace Ky
theorem bytes_is (a b : ByteArray) (c : Int) (hc : lx a.data.toList b.data.toList = c) (ha : a.size ≤ 1000000) (hb : b.size ≤ 1000000) (w : World) :
    Calls Tryd.prog 27 #[.string a, .string b] w fun e w' => e = .returned (.int .i64 c) ∧ Below w.heap.size w w' := by
  have h := Ref.bytes_any a b w (by omega) (by omega)
  have e : Val.cmpS a b = c := by rw [← hc, ← lx_cmpS, S_of, S_of]
  rw [e] at h
  exact h
theorem light_is {vs : List V} {sl : Value} {v : Bool} (h : lightB vs = v) (hl : vs.length ≤ 9223372036854775807) (w : World) (hr : RowAt vs sl w) :
    Calls Tryd.prog 14 #[sl] w fun e w' => e = .returned (.bool v) ∧ Below w.heap.size w w' := by
  have g := light_any vs sl hl w hr
  rw [h] at g
  exact g
theorem light_len {vs : List V} (h : lightB vs = true) : vs.length ≤ 20 := by
  unfold lightB at h
  rw [Bool.and_eq_true] at h
  exact of_decide_eq_true h.1
theorem right_is {vs : List V} {sl : Value} {v : Bool} (h : isK vs = v) (hl : lightB vs = true) (hi : ∀ x ∈ vs, x.inn) (w : World) (hr : RowAt vs sl w) :
    Calls Tryd.prog 26 #[sl] w fun e w' => e = .returned (.bool v) ∧ Below w.heap.size w w' := by
  have g := rright_any vs sl (by have := light_len hl; omega) hi w hr
  rw [h] at g
  exact g
theorem of_is {vs : List V} {sl : Value} {T : ByteArray} (hT : T = S (ofB vs)) (hl : lightB vs = true) (hi : ∀ x ∈ vs, x.inn) (w : World) (hr : RowAt vs sl w) (hm : ML w) :
    Calls Tryd.prog 16 #[sl] w fun e w' => e = .returned (.string T) ∧ Below w.heap.size w w' := by
  have g := of_any vs sl hi (by have := light_len hl; omega) w hr hm
  rw [← hT] at g
  exact g
theorem cmp_is {a b : List V} {sa sb : Value} {c : Int} (hc : cmpKk a b = c) (ha : lightB a = true) (hb : lightB b = true) (w : World) (h1 : RowAt a sa w) (h2 : RowAt b sb w) :
    Calls Tryd.prog 18 #[sa, sb] w fun e w' => e = .returned (.int .i64 c) ∧ Below w.heap.size w w' := by
  have g := compare_any a b sa sb (by have := light_len ha; omega) (by have := light_len hb; omega) w h1 h2
  rw [hc] at g
  exact g
theorem rows_is {a b : List V} {sa sb : Value} {v : Bool} (hv : decide (a = b) = v) (ha : a.length ≤ 1000000) (hb : b.length ≤ 1000000) (w : World) (h1 : RowAt a sa w) (h2 : RowAt b sb w) :
    Calls Tryd.prog 25 #[sa, sb] w fun e w' => e = .returned (.bool v) ∧ Below w.heap.size w w' := by
  have g := rows_any a b sa sb ha hb w h1 h2
  rw [hv] at g
  exact g
theorem body_size {vs : List V} (h : Good vs) : (body vs).length ≤ 100000 := by
  have h1 := pre_len vs h.right
  have h2 := h.len
  unfold body
  rw [List.length_append]
  simp only [List.length_singleton]
  omega
theorem body_pos (vs : List V) : 1 ≤ (body vs).length := by unfold body; simp
theorem S_toList (l : List UInt8) : (S l).toList = l := by rw [ByteArray.toList_eq]
end Ky
end Go.Proofs.YtppdebhcaodcnaaDoor
