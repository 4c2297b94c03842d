/- The text of a value as a list of bytes: plain functions and lemmas, of no program. -/
import Derived.Lib.UnsafeStr
namespace Go.Proofs.YtppdebhcaodcnaaDoor
namespace Txt
def digs : List UInt8 := [48, 49, 50, 51, 52, 53, 54, 55, 56, 57, 97, 98, 99, 100, 101, 102]
/-- A digit of base 16. -/
def hexd (k : Nat) : UInt8 := digs.getD k 48
def hex2 (c : UInt8) : List UInt8 := [hexd (c.toNat / 16), hexd (c.toNat % 16)]
/-- A byte of a Text, as it is shown. -/
def letter (c : UInt8) : List UInt8 := if c = 34 ∨ c = 92 then [92, c] else if c < 32 ∨ 126 < c then [92, 120] ++ hex2 c else [c]
/-- Byte i of a word, the highest first. -/
def byteAt (n i : Nat) : UInt8 := (n / 2 ^ (56 - 8 * i)).toUInt8
def bitsTo (n i : Nat) : List UInt8 := 102 :: (List.range i).flatMap fun j => hex2 (byteAt n j)
def bytesTo (s : List UInt8) (i : Nat) : List UInt8 := 120 :: (s.take i).flatMap hex2
def textTo (s : List UInt8) (i : Nat) : List UInt8 := 34 :: (s.take i).flatMap letter
theorem bitsTo_succ (n i : Nat) : bitsTo n (i + 1) = bitsTo n i ++ hex2 (byteAt n i) := by
  unfold bitsTo; rw [List.range_succ, List.flatMap_append]; simp
theorem bytesTo_succ (s : List UInt8) (i : Nat) (h : i < s.length) : bytesTo s (i + 1) = bytesTo s i ++ hex2 s[i] := by
  unfold bytesTo; rw [List.take_succ_eq_append_getElem h, List.flatMap_append]; simp
theorem textTo_succ (s : List UInt8) (i : Nat) (h : i < s.length) : textTo s (i + 1) = textTo s i ++ letter s[i] := by
  unfold textTo; rw [List.take_succ_eq_append_getElem h, List.flatMap_append]; simp
theorem letter_len (c : UInt8) : (letter c).length ≤ 4 := by
  unfold letter hex2; split
  · simp
  · split <;> simp
theorem flat_len (f : UInt8 → List UInt8) (k : Nat) (h : ∀ c, (f c).length ≤ k) (l : List UInt8) : (l.flatMap f).length ≤ k * l.length := by
  induction l with
  | nil => simp
  | cons a l ih =>
    have := h a
    simp only [List.flatMap_cons, List.length_append, List.length_cons, Nat.mul_add]
    omega
theorem bitsTo_len (n i : Nat) : (bitsTo n i).length = 1 + 2 * i := by
  induction i with
  | zero => rfl
  | succ i ih => rw [bitsTo_succ, List.length_append, ih]; simp [hex2]; omega
theorem bytesTo_len (s : List UInt8) (i : Nat) : (bytesTo s i).length ≤ 1 + 2 * s.length := by
  have h := flat_len hex2 2 (fun c => by simp [hex2]) (s.take i)
  have h2 : (s.take i).length ≤ s.length := List.length_take_le' ..
  simp only [bytesTo, List.length_cons]; omega
theorem textTo_len (s : List UInt8) (i : Nat) : (textTo s i).length ≤ 1 + 4 * s.length := by
  have h := flat_len letter 4 letter_len (s.take i)
  have h2 : (s.take i).length ≤ s.length := List.length_take_le' ..
  simp only [textTo, List.length_cons]; omega
def showBits (n : Nat) : List UInt8 := bitsTo n 8
def showBytes (s : List UInt8) : List UInt8 := bytesTo s s.length
def showText (s : List UInt8) : List UInt8 := textTo s s.length ++ [34]
end Txt
end Go.Proofs.YtppdebhcaodcnaaDoor
