/- schema.copied. Condition: at most a million values, of at most 2^48 bytes each. -/
import Derived.Test.YtopmbhpjdmcabaaJp
import Derived.Test.YtopmbhpjdmcabaaQa
namespace Go.Proofs.Ytopmbhpjdmcabaa
open Go.RowKit
namespace Sch
open Cod
theorem clone_of (l : List UInt8) (hl : l.length ≤ 281474976710656) (w : World) :
    Calls Try.prog 60 #[.string (S l)] w fun e w' => e = .returned (.string (S l)) ∧ Below w.heap.size w w' := clone_any (S l) w (by rw [S_size]; exact hl)
def Out1 (vs : List V) (w : World) (e : Ending) (w' : World) : Prop := ∃ v, e = .returned v ∧ RowC vs v w' ∧ Below w.heap.size w w'
theorem four {w : World} {c : Nat} {a b d e : Value} {t : TypeId} (h : w.heap[c]? = some (.cells #[a, b, d, e] t (0, 0))) : w.cell? ⟨c, 0, none⟩ = some a ∧ w.cell? ⟨c, 1, none⟩ = some b ∧ w.cell? ⟨c, 2, none⟩ = some d ∧ w.cell? ⟨c, 3, none⟩ = some e ∧ w.frozen? ⟨c, 3, none⟩ = false := by
  refine ⟨?_, ?_, ?_, ?_, ?_⟩ <;> simp [World.cell?, World.frozen?, h]
set_option maxHeartbeats 2000000 in
set_option maxRecDepth 100000 in
theorem copied_any (r : List V) (rl : Value) (hrn : r.length ≤ 1000000) (hrs : ∀ v ∈ r, v.s.length ≤ 281474976710656) (w : World) (hr : RowAt r rl w) :
    Calls Try.prog 31 #[rl] w fun e w' => Out1 r w e w' := by
  obtain ⟨i0, hi, hz0, hz1, hz2⟩ := info_parts infoV
  have HRW := hidm hr
  have HRS := hidm hrs
  obtain ⟨ro, rcap, rfl, _⟩ := hr
  obtain ⟨m, hm⟩ : ∃ m, m = r.length := ⟨_, rfl⟩
  have HM := hidm hm
  rw [← hm] at hrn ⊢
  clear hm hrs
  go_enter Try.func31, Try.ntmps31
  go_wp2_with fail
  go_loopw [3, 8] (fun vv ii wr => ∃ i : Nat, ii = .int .i64 i ∧ i ≤ m ∧ Hid (wr.ownsRow w.heap.size 33 4 vv i (flat (r.take i))) ∧ Hid (Below w.heap.size w wr)) (fun _ ii _ => (m - (intOf ii).toNat))
  case atStart => exact ⟨0, rfl, by omega, hidm (World.ownsRow_nil _ _ _ _), hidm (Below.refl _ _)⟩
  case round =>
    obtain ⟨i, rfl, hi', HO, HB⟩ := hrel
    rcases Nat.lt_or_ge i m with hlt | hge
    · have f1 : (i : Int) < m := by omega
      have hib : i < r.length := by have := HM.out; omega
      obtain ⟨b2, o2, rp, he2, _, r0, r1, r2, r3⟩ := (HRW.out.later HB.out).at i hib
      simp only [Value.slice.injEq] at he2
      obtain ⟨rfl, _, rfl⟩ := he2
      obtain ⟨x, hx⟩ : ∃ v, v = r[i] := ⟨_, rfl⟩
      rw [← hx] at r0 r1 r2 r3
      have HX := hidm hx
      have HXS := hidm (show x.s.length ≤ 281474976710656 from by rw [hx]; exact HRS.out _ (List.getElem_mem hib))
      have hbz : Below wr.heap.size wr (wr.alloc (.cells #[.int .i64 x.k, .int .i64 x.n, .int .u64 x.b, .string (S x.s)] 33)) := (Below.refl _ _).alloc (Nat.le_refl _) _
      have HBZ := hidm hbz
      have HK := hidm (heap_alloc_new wr (.cells #[.int .i64 x.k, .int .i64 x.n, .int .u64 x.b, .string (S x.s)] 33))
      clear hx hbz
      go_wp2_with fail
      refine (clone_of x.s HXS.out _).mono ?_
      rintro e w1 ⟨rfl, hb1⟩
      have HK1 := hidm (below_keeps hb1 HK.out)
      have HB1 := hidm (HBZ.out.trans (hb1.mono (by simp)))
      obtain ⟨g0, g1, g2, g3, gz⟩ := four HK1.out
      have HB2 := hidm (HB1.out.setCell (p := ⟨wr.heap.size, 3, none⟩) (Nat.le_refl _) (.string (S x.s)))
      have hown := owns_later HO.out HB2.out
      have hlt2 := hown.lt
      have hz2' : w.heap.size ≤ wr.heap.size := HB.out.size
      have hz3 : wr.heap.size ≤ w1.heap.size := HB1.out.size
      have HTK := hidm (show flat (r.take i) ++ [.int .i64 x.k, .int .i64 x.n, .int .u64 x.b, .string (S x.s)] = flat (r.take (i + 1)) from by
        rw [List.take_succ_eq_append_getElem hib, flat_snoc, ← HX.out]; rfl)
      clear hb1
      go_wp2_with (at_builtin; refine wpList_append_own _ rfl _ _ 25 rfl w.heap.size 33 i0 (.agg #[.int .i64 0, .int .i64 0, .int .u64 0, .string ⟨#[]⟩]) 4 40 Try.underlying25 hi hz0 hz1 hz2 rfl (by decide) _ _ _ rfl (hown.alloc _) ⟨w1.heap.size, 0, none⟩ 1 1 [.int .i64 x.k, .int .i64 x.n, .int .u64 x.b, .string (S x.s)] rfl rfl ?c1 ?c2 ?c3 ?c4 ?c5 ?_)
      case c1 =>
        intro j y hj
        rcases cell_four _ _ _ _ j y hj with ⟨rfl, rfl⟩ | ⟨rfl, rfl⟩ | ⟨rfl, rfl⟩ | ⟨rfl, rfl⟩ <;> simp [Addr.add, go_sem]
      case c2 => intro y hy; simp at hy; rcases hy with rfl | rfl | rfl | rfl <;> rfl
      case c3 => unfold maxLen; omega
      case c4 => omega
      case c5 => simp; omega
      intro v' w3 hown' hgrow _
      have HB3 := hidm (((HB.out.trans (HB2.out.mono hz2')).alloc (by simp; omega) (.cells #[.int .i64 x.k, .int .i64 x.n, .int .u64 x.b, .string (S x.s)] 33)).grown hgrow (by simp; omega) (fun k hk => (hlt2 k hk).1))
      rw [HTK.out] at hown'
      have HO3 := hidm hown'
      clear hown' hgrow hown hlt2 g0 g1 g2 g3 gz hz3 hz2'
      go_wp2
      go_roundw
      case rel => exact ⟨i + 1, by go_num, by omega, HO3, HB3⟩
      case measure => simp [intOf]; omega
    · obtain rfl : i = m := by omega
      go_wp2_with fail
      go_ret
      refine ⟨_, rfl, ?_, HB.out⟩
      have h := HO.out
      rw [HM.out, List.take_length] at h
      exact RowC.of_owns h
end Sch
end Go.Proofs.Ytopmbhpjdmcabaa
