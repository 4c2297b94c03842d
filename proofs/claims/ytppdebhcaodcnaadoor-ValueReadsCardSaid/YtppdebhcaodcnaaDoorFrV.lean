/- An api.Value as an argument: its reading, opened and shut. No condition. -/
import Derived.Test.YtppdebhcaodcnaaDoorFrame
import Derived.Test.YtppdebhcaodcnaaDoorKnown
namespace Go.Proofs.YtppdebhcaodcnaaDoor
open Go.ChangeShapes Go.WideShapes Go.ChangeAt Go.RowKit Go.Joins
namespace Fr
section
variable {H : Type} {enc : TypeId × Value → H} {W : World} {base b0 : Nat} {sp : Nat → Bool} {held : Bool} {r : Reach}
theorem cV : Tryd.prog.cellsOf 25 = 4 := by kernel_rfl
set_option maxRecDepth 100000 in
theorem open_val {v : Value} {d : DataW H} {p : List MemPlace} (hv : Value.okWide Tryd.prog W r b0 25 v) (h : DataW.Trod enc Tryd.prog W base sp held 25 v d p) :
    ∃ (k n b : Int) (s : ByteArray), v = .agg #[.int .i64 k, .int .i64 n, .int .u64 b, .string s] ∧ d = .agg [.lit (.int .i64 k), .lit (.int .i64 n), .lit (.int .u64 b), .lit (.string s.data.toList)] ∧ p = [] ∧
      (Lit.int .i64 k).wf = true ∧ (Lit.int .i64 n).wf = true ∧ (Lit.int .u64 b).wf = true ∧ s.size ≤ maxLen := by
  obtain ⟨c0, c1, c2, c3, y0, y1, y2, y3, m, rfl, rfl, rfl, h0, h1, h2, h3⟩ := open_agg4 Tryd.underlying25 (by kernel_rfl) cV hv h
  obtain ⟨k, e0, rfl, w0⟩ := DataW.trod_int Tryd.underlying3 h0
  obtain ⟨n, e1, rfl, w1⟩ := DataW.trod_int Tryd.underlying3 h1
  obtain ⟨b, e2, rfl, w2⟩ := DataW.trod_int Tryd.underlying23 h2
  obtain ⟨s, e3, rfl, w3⟩ := DataW.trod_string Tryd.underlying9 h3
  simp only [List.cons.injEq, and_true] at e0 e1 e2 e3
  subst e0 e1 e2 e3
  exact ⟨k, n, b, s, rfl, rfl, rfl, w0, w1, w2, w3⟩
set_option maxRecDepth 100000 in
theorem shut_val {k n b : Int} {s : ByteArray} (w0 : (Lit.int .i64 k).wf = true) (w1 : (Lit.int .i64 n).wf = true) (w2 : (Lit.int .u64 b).wf = true) (w3 : s.size ≤ maxLen) :
    DataW.Trod enc Tryd.prog W base sp held 25 (.agg #[.int .i64 k, .int .i64 n, .int .u64 b, .string s]) (.agg [.lit (.int .i64 k), .lit (.int .i64 n), .lit (.int .u64 b), .lit (.string s.data.toList)]) [] :=
  shut_agg4 (y0 := (.lit (.int .i64 k), [])) (y1 := (.lit (.int .i64 n), [])) (y2 := (.lit (.int .u64 b), [])) (y3 := (.lit (.string s.data.toList), [])) Tryd.underlying25 (by kernel_rfl) cV
    ⟨1, by simp [DataW.trod, Tryd.underlying3, w0]⟩ ⟨1, by simp [DataW.trod, Tryd.underlying3, w1]⟩ ⟨1, by simp [DataW.trod, Tryd.underlying23, w2]⟩ ⟨1, by simp [DataW.trod, Tryd.underlying9, w3]⟩
end
end Fr
end Go.Proofs.YtppdebhcaodcnaaDoor
