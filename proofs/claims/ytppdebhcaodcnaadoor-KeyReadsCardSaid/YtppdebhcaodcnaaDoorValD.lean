/- Contracts of the writers of a value's text: writeHex, writeLetter, showBits, showBytes, showText. Condition: what is written takes at most 2^47 bytes. -/
import Derived.Test.YtppdebhcaodcnaaDoorValB
import Derived.Test.YtppdebhcaodcnaaDoorBld
import Derived.Test.YtppdebhcaodcnaaDoorTxt
import Derived.Lib.Hide
namespace Go.Proofs.YtppdebhcaodcnaaDoor
open Go.RowKit
namespace Val
theorem digit_get (k : Nat) (h : k < (⟨#[48, 49, 50, 51, 52, 53, 54, 55, 56, 57, 97, 98, 99, 100, 101, 102]⟩ : ByteArray).size) : (⟨#[48, 49, 50, 51, 52, 53, 54, 55, 56, 57, 97, 98, 99, 100, 101, 102]⟩ : ByteArray)[k] = Txt.hexd k := by
  have key : ∀ f : Fin 16, (#[48, 49, 50, 51, 52, 53, 54, 55, 56, 57, 97, 98, 99, 100, 101, 102] : Array UInt8)[f.val]'f.isLt = Txt.hexd f.val := by decide
  exact key ⟨k, h⟩
set_option maxRecDepth 100000 in
set_option maxHeartbeats 1000000 in
theorem writeHex_any (B b : Nat) (l : List UInt8) (c : UInt8) (w : World) (h : Bld.Is B b l w) (hlen : l.length + 2 ≤ 140737488355328) (hBw : B ≤ w.heap.size) :
    Calls Tryd.prog 83 #[.pointer (some ⟨b, 0, none⟩), .int .u8 c.toNat] w fun e w' => e = .returned (.tuple #[]) ∧ Bld.Is B b (l ++ Txt.hex2 c) w' ∧ Below B w w' := by
  have hc : c.toNat < 256 := c.toNat_lt
  have i1 : (c.toNat : Int) / 16 < 16 := by omega
  have i0 : 0 ≤ (c.toNat : Int) / 16 := by omega
  clear hc
  go_enter Tryd.func83, Tryd.ntmps83
  go_wp2_with fail
  simp only [digit_get]
  refine (Bld.writeByte B b _ _ _ h (by omega) hBw).mono ?_
  rintro e w1 ⟨rfl, h1, hb1⟩
  go_wp2_with fail
  simp only [digit_get]
  have hz := hb1.size
  refine (Bld.writeByte B b _ _ _ h1 (by simp; omega) (by omega)).mono ?_
  rintro e w2 ⟨rfl, h2, hb2⟩
  go_wp2_with fail
  go_end0
  exact ⟨rfl, by simpa [Txt.hex2] using h2, hb1.trans hb2⟩
theorem toNat_eq {c : UInt8} {k : Nat} (hk : k < 256) : (c = UInt8.ofNat k) ↔ (c.toNat : Int) = k := by
  constructor
  · rintro rfl; simp; omega
  · intro h; apply UInt8.toNat_inj.1; simp; omega
set_option maxRecDepth 100000 in
set_option maxHeartbeats 1000000 in
theorem letter_two (B b : Nat) (l : List UInt8) (c : UInt8) (w : World) (h : Bld.Is B b l w) (hlen : l.length + 4 ≤ 140737488355328) (hBw : B ≤ w.heap.size) (g : ((c.toNat : Int) == 34) = true ∨ (((c.toNat : Int) == 34) = false ∧ ((c.toNat : Int) == 92) = true)) :
    Calls Tryd.prog 85 #[.pointer (some ⟨b, 0, none⟩), .int .u8 c.toNat] w fun e w' => e = .returned (.tuple #[]) ∧ Bld.Is B b (l ++ [92, c]) w' ∧ Below B w w' := by
  rcases g with g | ⟨g, g'⟩
  all_goals
    go_enter Tryd.func85, Tryd.ntmps85
    go_wp2_with fail
    refine (Bld.writeByte B b l 92 _ h (by omega) hBw).mono ?_
    rintro e w1 ⟨rfl, h1, hb1⟩
    have hz := hb1.size
    go_wp2_with fail
    refine (Bld.writeByte B b _ c _ h1 (by simp; omega) (by omega)).mono ?_
    rintro e w2 ⟨rfl, h2, hb2⟩
    go_wp2_with fail
    go_end0
    exact ⟨rfl, by simpa using h2, hb1.trans hb2⟩
set_option maxRecDepth 100000 in
set_option maxHeartbeats 1000000 in
theorem letter_hex (B b : Nat) (l : List UInt8) (c : UInt8) (w : World) (h : Bld.Is B b l w) (hlen : l.length + 4 ≤ 140737488355328) (hBw : B ≤ w.heap.size) (g0 : ((c.toNat : Int) == 34) = false) (g1 : ((c.toNat : Int) == 92) = false) (g : decide ((c.toNat : Int) < 32) = true ∨ (decide ((c.toNat : Int) < 32) = false ∧ decide ((126 : Int) < c.toNat) = true)) :
    Calls Tryd.prog 85 #[.pointer (some ⟨b, 0, none⟩), .int .u8 c.toNat] w fun e w' => e = .returned (.tuple #[]) ∧ Bld.Is B b (l ++ ([92, 120] ++ Txt.hex2 c)) w' ∧ Below B w w' := by
  rcases g with g | ⟨g, g'⟩
  all_goals
    go_enter Tryd.func85, Tryd.ntmps85
    go_wp2_with fail
    refine (Bld.writeString B b l ⟨#[92, 120]⟩ _ h (by show l.length + 2 ≤ _; omega) hBw).mono ?_
    rintro e w1 ⟨rfl, h1, hb1⟩
    have hz := hb1.size
    go_wp2_with fail
    refine (writeHex_any B b _ c _ h1 (by simp; omega) (by omega)).mono ?_
    rintro e w2 ⟨rfl, h2, hb2⟩
    go_wp2_with fail
    go_end0
    exact ⟨rfl, by simpa using h2, hb1.trans hb2⟩
set_option maxRecDepth 100000 in
set_option maxHeartbeats 1000000 in
theorem letter_one (B b : Nat) (l : List UInt8) (c : UInt8) (w : World) (h : Bld.Is B b l w) (hlen : l.length + 4 ≤ 140737488355328) (hBw : B ≤ w.heap.size) (g0 : ((c.toNat : Int) == 34) = false) (g1 : ((c.toNat : Int) == 92) = false) (g : decide ((c.toNat : Int) < 32) = false) (g' : decide ((126 : Int) < c.toNat) = false) :
    Calls Tryd.prog 85 #[.pointer (some ⟨b, 0, none⟩), .int .u8 c.toNat] w fun e w' => e = .returned (.tuple #[]) ∧ Bld.Is B b (l ++ [c]) w' ∧ Below B w w' := by
  go_enter Tryd.func85, Tryd.ntmps85
  go_wp2_with fail
  refine (Bld.writeByte B b l c _ h (by omega) hBw).mono ?_
  rintro e w1 ⟨rfl, h1, hb1⟩
  go_wp2_with fail
  go_end0
  exact ⟨rfl, h1, hb1⟩
theorem writeLetter_any (B b : Nat) (l : List UInt8) (c : UInt8) (w : World) (h : Bld.Is B b l w) (hlen : l.length + 4 ≤ 140737488355328) (hBw : B ≤ w.heap.size) :
    Calls Tryd.prog 85 #[.pointer (some ⟨b, 0, none⟩), .int .u8 c.toNat] w fun e w' => e = .returned (.tuple #[]) ∧ Bld.Is B b (l ++ Txt.letter c) w' ∧ Below B w w' := by
  have e34 : (c = 34) ↔ (c.toNat : Int) = 34 := toNat_eq (k := 34) (by omega)
  have e92 : (c = 92) ↔ (c.toNat : Int) = 92 := toNat_eq (k := 92) (by omega)
  have e32 : (c < 32) ↔ (c.toNat : Int) < 32 := by rw [UInt8.lt_iff_toNat_lt]; simp; omega
  have e126 : (126 < c) ↔ (126 : Int) < c.toNat := by rw [UInt8.lt_iff_toNat_lt]; simp; omega
  unfold Txt.letter
  by_cases g : c = 34 ∨ c = 92
  · rw [if_pos g]
    refine letter_two B b l c w h hlen hBw ?_
    by_cases g1 : c = 34
    · exact Or.inl (by simpa using e34.1 g1)
    · exact Or.inr ⟨by simpa [e34] using g1, by simpa using e92.1 (g.resolve_left g1)⟩
  · rw [if_neg g]
    have g0 : ((c.toNat : Int) == 34) = false := by
      have : ¬ c = 34 := fun x => g (Or.inl x)
      simpa [e34] using this
    have g1 : ((c.toNat : Int) == 92) = false := by
      have : ¬ c = 92 := fun x => g (Or.inr x)
      simpa [e92] using this
    by_cases g2 : c < 32 ∨ 126 < c
    · rw [if_pos g2]
      refine letter_hex B b l c w h hlen hBw g0 g1 ?_
      by_cases g3 : c < 32
      · exact Or.inl (by simpa using e32.1 g3)
      · exact Or.inr ⟨decide_eq_false (fun x => g3 (e32.2 x)), decide_eq_true (e126.1 (g2.resolve_left g3))⟩
    · rw [if_neg g2]
      have g3 : ¬ c < 32 := fun x => g2 (Or.inl x)
      have g4 : ¬ 126 < c := fun x => g2 (Or.inr x)
      exact letter_one B b l c w h hlen hBw g0 g1 (decide_eq_false (fun x => g3 (e32.2 x))) (decide_eq_false (fun x => g4 (e126.2 x)))
set_option maxRecDepth 100000 in
set_option maxHeartbeats 1000000 in
theorem showText_any (s : ByteArray) (w : World) (hs : s.size ≤ 35184372088830) :
    Calls Tryd.prog 58 #[.string s] w fun e w' => e = .returned (.string ⟨(Txt.showText s.data.toList).toArray⟩) ∧ Below w.heap.size w w' := by
  have hfr := Bld.fresh w
  go_enter Tryd.func58, Tryd.ntmps58
  go_wp2_with fail
  refine (Bld.writeByte w.heap.size w.heap.size [] 34 _ hfr (by simp) (by simp)).mono ?_
  rintro e w1 ⟨rfl, h1, hb1⟩
  have hz1 : w.heap.size < w1.heap.size := by have := hb1.size; simp at this; omega
  have hB1 : Below w.heap.size w w1 := ((Below.refl _ _).alloc (Nat.le_refl _) _).trans hb1
  clear hb1 hfr
  go_wp2_with fail
  go_loopw [8] (fun i wr => ∃ k : Nat, k ≤ s.size ∧ i = .int .i64 k ∧ Bld.Is w.heap.size w.heap.size (Txt.textTo s.data.toList k) wr ∧ Below w.heap.size w wr ∧ w.heap.size < wr.heap.size) (fun i _ => s.size - (intOf i).toNat)
  case atStart => exact ⟨0, Nat.zero_le _, rfl, h1, hB1, hz1⟩
  case round =>
    obtain ⟨k, hk, rfl, hI, hB, hz⟩ := hrel
    clear h1 hB1 hz1
    have hl := Txt.textTo_len s.data.toList k
    have hsz : s.data.toList.length = s.size := by simp
    rw [hsz] at hl
    by_cases hlt : k < s.size
    · go_wp2_with fail
      refine (writeLetter_any w.heap.size w.heap.size _ s[k] _ hI (by omega) (by omega)).mono ?_
      rintro e w2 ⟨rfl, h2, hb2⟩
      go_wp2_with fail
      go_roundw
      case rel =>
        refine ⟨k + 1, by omega, by go_num, ?_, hB.trans hb2, by have := hb2.size; omega⟩
        rw [Txt.textTo_succ _ _ (by omega)]
        exact h2
      case measure => simp [intOf]; omega
    · have hkk : k = s.size := by omega
      have HK := Lib.hid hkk
      clear hkk
      go_wp2_with fail
      refine (Bld.writeByte w.heap.size w.heap.size _ 34 _ hI (by omega) (by omega)).mono ?_
      rintro e w2 ⟨rfl, h2, hb2⟩
      go_wp2_with fail
      refine (Bld.string_any w.heap.size w.heap.size _ _ h2 (by have := hb2.size; omega)).mono ?_
      rintro e w3 ⟨rfl, h3, hb3⟩
      go_wp2_with fail
      go_ret
      refine ⟨?_, (hB.trans hb2).trans hb3⟩
      unfold Txt.showText
      rw [hsz, ← HK.out]
      rfl
set_option maxRecDepth 100000 in
set_option maxHeartbeats 1000000 in
theorem showBytes_any (s : ByteArray) (w : World) (hs : s.size ≤ 35184372088830) :
    Calls Tryd.prog 57 #[.string s] w fun e w' => e = .returned (.string ⟨(Txt.showBytes s.data.toList).toArray⟩) ∧ Below w.heap.size w w' := by
  have hfr := Bld.fresh w
  go_enter Tryd.func57, Tryd.ntmps57
  go_wp2_with fail
  refine (Bld.writeByte w.heap.size w.heap.size [] 120 _ hfr (by simp) (by simp)).mono ?_
  rintro e w1 ⟨rfl, h1, hb1⟩
  have hz1 : w.heap.size < w1.heap.size := by have := hb1.size; simp at this; omega
  have hB1 : Below w.heap.size w w1 := ((Below.refl _ _).alloc (Nat.le_refl _) _).trans hb1
  clear hb1 hfr
  go_wp2_with fail
  go_loopw [8] (fun i wr => ∃ k : Nat, k ≤ s.size ∧ i = .int .i64 k ∧ Bld.Is w.heap.size w.heap.size (Txt.bytesTo s.data.toList k) wr ∧ Below w.heap.size w wr ∧ w.heap.size < wr.heap.size) (fun i _ => s.size - (intOf i).toNat)
  case atStart => exact ⟨0, Nat.zero_le _, rfl, h1, hB1, hz1⟩
  case round =>
    obtain ⟨k, hk, rfl, hI, hB, hz⟩ := hrel
    clear h1 hB1 hz1
    have hl := Txt.bytesTo_len s.data.toList k
    have hsz : s.data.toList.length = s.size := by simp
    rw [hsz] at hl
    by_cases hlt : k < s.size
    · go_wp2_with fail
      refine (writeHex_any w.heap.size w.heap.size _ s[k] _ hI (by omega) (by omega)).mono ?_
      rintro e w2 ⟨rfl, h2, hb2⟩
      go_wp2_with fail
      go_roundw
      case rel =>
        refine ⟨k + 1, by omega, by go_num, ?_, hB.trans hb2, by have := hb2.size; omega⟩
        rw [Txt.bytesTo_succ _ _ (by omega)]
        exact h2
      case measure => simp [intOf]; omega
    · have hkk : k = s.size := by omega
      have HK := Lib.hid hkk
      clear hkk
      go_wp2_with fail
      refine (Bld.string_any w.heap.size w.heap.size _ _ hI (by omega)).mono ?_
      rintro e w3 ⟨rfl, h3, hb3⟩
      go_wp2_with fail
      go_ret
      refine ⟨?_, hB.trans hb3⟩
      unfold Txt.showBytes
      rw [hsz, ← HK.out]
      rfl
theorem byteAt_int (n k : Nat) : ((n : Int) / 2 ^ (56 - 8 * k) % 256) = ((Txt.byteAt n k).toNat : Int) := by
  unfold Txt.byteAt
  simp
set_option maxRecDepth 100000 in
set_option maxHeartbeats 1000000 in
theorem showBits_any (n : Nat) (w : World) (_hn : (n : Int) ≤ 18446744073709551615) :
    Calls Tryd.prog 56 #[.int .u64 n] w fun e w' => e = .returned (.string ⟨(Txt.showBits n).toArray⟩) ∧ Below w.heap.size w w' := by
  have hfr := Bld.fresh w
  go_enter Tryd.func56, Tryd.ntmps56
  go_wp2_with fail
  refine (Bld.writeByte w.heap.size w.heap.size [] 102 _ hfr (by simp) (by simp)).mono ?_
  rintro e w1 ⟨rfl, h1, hb1⟩
  have hz1 : w.heap.size < w1.heap.size := by have := hb1.size; simp at this; omega
  have hB1 : Below w.heap.size w w1 := ((Below.refl _ _).alloc (Nat.le_refl _) _).trans hb1
  clear hb1 hfr
  go_wp2_with fail
  go_loopw [4] (fun i wr => ∃ k : Nat, k ≤ 8 ∧ i = .int .i64 (56 - 8 * (k : Int)) ∧ Bld.Is w.heap.size w.heap.size (Txt.bitsTo n k) wr ∧ Below w.heap.size w wr ∧ w.heap.size < wr.heap.size) (fun i _ => (intOf i + 8).toNat)
  case atStart => exact ⟨0, Nat.zero_le _, rfl, h1, hB1, hz1⟩
  case round =>
    obtain ⟨k, hk, rfl, hI, hB, hz⟩ := hrel
    clear h1 hB1 hz1
    have hl := Txt.bitsTo_len n k
    by_cases hlt : k < 8
    · have hsh : 0 ≤ (56 - 8 * (k : Int)) := by omega
      go_wp2_with fail
      rw [byteAt_int]
      refine (writeHex_any w.heap.size w.heap.size _ (Txt.byteAt n k) _ hI (by omega) (by omega)).mono ?_
      rintro e w2 ⟨rfl, h2, hb2⟩
      go_wp2_with fail
      go_roundw
      case rel =>
        refine ⟨k + 1, by omega, by go_num, ?_, hB.trans hb2, by have := hb2.size; omega⟩
        rw [Txt.bitsTo_succ]
        exact h2
      case measure => simp [intOf]; omega
    · have hkk : k = 8 := by omega
      subst hkk
      go_wp2_with fail
      refine (Bld.string_any w.heap.size w.heap.size _ _ hI (by omega)).mono ?_
      rintro e w3 ⟨rfl, h3, hb3⟩
      go_wp2_with fail
      go_ret
      exact ⟨rfl, hB.trans hb3⟩
end Val
end Go.Proofs.YtppdebhcaodcnaaDoor
