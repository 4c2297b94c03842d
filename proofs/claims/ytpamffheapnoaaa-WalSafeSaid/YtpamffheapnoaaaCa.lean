/- The writers of package code: Uint, Int, Text, oneByte, eightBytes. No condition but that a text's length is below 2^63 - 16. -/
import Derived.Test.YtpamffheapnoaaaRdr
import Derived.Test.YtpamffheapnoaaaCod
import Derived.Laws.IdiomStrings
import Derived.Lib.AppendStr
namespace Go.Proofs.Ytpamffheapnoaaa
open Go.RowKit
namespace Cod
/-- The bytes that a row of the call's own holds, as a string. -/
theorem str_of_own {w : World} {base : Nat} {l : List UInt8} {v : Value} {n : Nat} (h : w.ownsRow base 5 1 v n (Lib.byteCells l)) (hn : n = l.length) (hne : l ≠ []) :
    (convert 57 9 v).run Try.prog w = .ok (.string (S l)) w := by
  subst hn
  obtain ⟨g, cap, rfl⟩ : ∃ g cap, v = .slice (some ⟨g, 0, none⟩) l.length cap := by
    rcases h.2 with ⟨_, h0⟩ | ⟨g, cap, cur, hv, _⟩
    · exact absurd (List.eq_nil_of_length_eq_zero h0) hne
    · exact ⟨g, cap, hv⟩
  refine run_convert_bytes_back (P := Try.prog) w _ _ _ _ _ l Try.underlying57 Try.underlying5 Try.underlying9 ?_
  intro j hj
  have := h.cellAt j (by omega)
  have e : (⟨g, 0, none⟩ : Addr).add j = ⟨g, j, none⟩ := by unfold Addr.add; split <;> simp_all
  rw [e, this]
  simp [Lib.byteCells, hj]
theorem cell_one (x : Int) : ∀ j u, [Value.int .u8 x][j]? = some u → j = 0 ∧ u = .int .u8 x := by
  intro j u h
  cases j with
  | zero => simp at h; exact ⟨rfl, h.symm⟩
  | succ j => simp at h
theorem hidm {p : Prop} (h : p) : Hid p := h
set_option maxRecDepth 100000 in
theorem or128' : ∀ x : Fin 256, bits .or .u8 (x.val : Int) 128 = ((128 + x.val % 128 : Nat) : Int) := by decide
theorem or128 (m : Nat) : bits .or .u8 ((m : Int) % 256) 128 = ((128 + m % 128 : Nat) : Int) := by
  have h := or128' ⟨m % 256, by omega⟩
  have e : ((m % 256 : Nat) : Int) = (m : Int) % 256 := by omega
  rw [← e, h]; congr 2; show m % 256 % 128 = m % 128; omega
set_option maxHeartbeats 2000000 in
set_option maxRecDepth 100000 in
theorem uint_any (n : Nat) (hn : n < 18446744073709551616) (w : World) :
    Calls Try.prog 55 #[.int .u64 n] w fun e w' => e = .returned (.string (S (uB n))) ∧ Below w.heap.size w w' := by
  obtain ⟨i0, hi, hz0, hz1, hz2⟩ := info_parts (P := Try.prog) (e := 5) (z := .int .u8 0) (size := 1) (bytes := 1) (by kernel_rfl)
  go_enter Try.func55, Try.ntmps55
  go_wp2_with fail
  go_loopw [0, 3] (fun nn v wr => ∃ (m : Nat) (l : List UInt8), nn = .int .u64 m ∧ m < 18446744073709551616 ∧ Hid (uB n = l ++ uB m) ∧ l.length ≤ 9 ∧ wr.ownsRow w.heap.size 5 1 v l.length (Lib.byteCells l) ∧ Below w.heap.size w wr) (fun nn _ _ => (intOf nn).toNat)
  case atStart => exact ⟨n, [], rfl, hn, rfl, by simp, World.ownsRow_nil _ _ _ _, Below.refl _ _⟩
  case round =>
    obtain ⟨m, l, rfl, hm, hu, hk9, hown, hb⟩ := hrel
    have hb' := hb
    rcases Nat.lt_or_ge m 128 with hlt | hge
    · have h1 : ¬ (127 : Int) < m := by omega
      go_wp2_with (at_builtin; refine wpList_append_own _ rfl _ _ 57 rfl w.heap.size 5 i0 (.int .u8 0) 1 1 Try.underlying57 hi hz0 hz1 hz2 rfl (by decide) _ _ _ rfl (hown.alloc _) ⟨wr.heap.size, 0, none⟩ 1 1 [.int .u8 m] rfl rfl ?c1 ?c2 ?c3 ?c4 ?c5 ?_)
      case c2 => first | rfl | (intro u hu; simp at hu; subst hu; rfl)
      case c3 => unfold maxLen; omega
      case c4 => omega
      case c5 => have := hb.size; simp; omega
      intro v' w1 hown' hgrow _
      have hB := (hb'.alloc hb'.size (.cells #[.int .u8 m] 5)).grown hgrow (by have := hb'.size; simp; omega) (fun k hk => (hown.lt k hk).1)
      have hc : Lib.byteCells l ++ [.int .u8 m] = Lib.byteCells (uB n) := by
        rw [hu.out, Lib.byteCells_append, uB_lt hlt]; simp [Lib.byteCells, toNat_lt (show m < 256 by omega)]
      rw [hc] at hown'
      have hstr := str_of_own hown' (by rw [hu.out, uB_lt hlt]; simp) (by rw [hu.out, uB_lt hlt]; simp)
      clear hown' hgrow hown hb hb' hc
      go_wp2
      go_ret
      exact ⟨rfl, hB⟩
    · have h1 : (127 : Int) < m := by omega
      have hor := hidm (or128 m)
      go_wp2_with (at_builtin; refine wpList_append_own _ rfl _ _ 57 rfl w.heap.size 5 i0 (.int .u8 0) 1 1 Try.underlying57 hi hz0 hz1 hz2 rfl (by decide) _ _ _ rfl (hown.alloc _) ⟨wr.heap.size, 0, none⟩ 1 1 [.int .u8 (bits .or .u8 (m % 256) 128)] rfl rfl ?d1 ?d2 ?d3 ?d4 ?d5 ?_)
      case d1 => intro j u hj; obtain ⟨rfl, rfl⟩ := cell_one _ j u hj; simp [Addr.add]
      case d2 => intro u hu; simp at hu; subst hu; rfl
      case d3 => unfold maxLen; omega
      case d4 => omega
      case d5 => have := hb.size; simp; omega
      intro v' w1 hown' hgrow _
      have hB := (hb'.alloc hb'.size (.cells #[.int .u8 (bits .or .u8 (m % 256) 128)] 5)).grown hgrow (by have := hb'.size; simp; omega) (fun k hk => (hown.lt k hk).1)
      have hc : Lib.byteCells l ++ [.int .u8 (bits .or .u8 (m % 256) 128)] = Lib.byteCells (l ++ [(128 + m % 128).toUInt8]) := by
        rw [Lib.byteCells_append, hor.out]; show _ ++ _ = _ ++ [Value.int .u8 ((128 + m % 128).toUInt8.toNat : Int)]; rw [toNat_lt (show 128 + m % 128 < 256 by omega)]
      have hu' : uB n = (l ++ [(128 + m % 128).toUInt8]) ++ uB (m / 128) := by rw [hu.out, uB_ge hge]; simp
      have hl9 : l.length + 1 ≤ 9 := by
        have h2 := congrArg List.length hu'
        have h3 := uB_ten n hn
        have h4 := uB_pos (m / 128)
        simp at h2; omega
      rw [hc] at hown'
      have HU := hidm hu'
      clear hgrow hown hb hb' hc hu' hor
      go_wp2
      go_roundw
      case rel => exact ⟨m / 128, l ++ [(128 + m % 128).toUInt8], by simp, by omega, HU.out, by simpa using hl9, by simpa using hown', hB⟩
      case measure => simp [intOf]; omega
end Cod
end Go.Proofs.Ytpamffheapnoaaa
