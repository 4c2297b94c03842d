/- The document's reader: the method Row. Conditions: the pointer is to such a reader whose place is within its bytes; the bytes are at most 2^48. -/
import Derived.Test.YtinnkdbojgoicaaSa
namespace Go.Proofs.Ytinnkdbojgoicaa
open Go.RowKit
namespace Rr
open Cod
theorem Rrd.grown {r : Nat} {s : ByteArray} {q e : Int} {w w' : World} {row : Option Nat} (h : Rrd r s q e w) (hg : w.grownBy w' row) (hr : ∀ k, row = some k → r ≠ k) : Rrd r s q e w' := by
  unfold Rrd; rw [hg.block r h.lt (fun e => hr r e.symm rfl)]; exact h
/-- How the row stands: all is well, with these values read; or an error. -/
def Rows (s : ByteArray) (F : Except Nat (List V × List UInt8)) (m i : Nat) (acc : List V) (q e : Int) : Prop :=
  (e = 0 ∧ ∃ k : Nat, q = k ∧ k ≤ s.size ∧ F = vls (m - i) acc (s.data.toList.drop k)) ∨ (∃ x : Nat, e = x ∧ x ≠ 0 ∧ F = .error x)
set_option maxHeartbeats 4000000 in
set_option maxRecDepth 100000 in
theorem row_call (r : Nat) (s : ByteArray) (p : Nat) (w : World) (h : Rrd r s p 0 w) (hp : p ≤ s.size) (hs : s.size ≤ 281474976710656) :
    Calls Try.prog 23 #[.pointer (some ⟨r, 0, none⟩)] w fun en w' => Does r s p w (VRow w.heap.size) (.slice none 0 0) (row (s.data.toList.drop p)) en w' := by
  obtain ⟨i0, hi, hz0, hz1, hz2⟩ := info_parts infoV
  have hn := uint_part r s p w h hp (by omega)
  have h1 := h.c1
  have hrlt := h.lt
  obtain ⟨R, hR⟩ : ∃ R, R = num 0 0 (s.data.toList.drop p) := ⟨_, rfl⟩
  obtain ⟨F, hF⟩ : ∃ F, F = row (s.data.toList.drop p) := ⟨_, rfl⟩
  rw [← hF]
  unfold row len at hF
  rw [← hR] at hn hF
  have HR := hidm hR
  have HF := hidm hF
  clear hR hF
  go_enter Try.func23, Try.ntmps23
  go_wp2_with fail
  refine hn.mono ?_
  clear hn h1
  cases R with
  | error x =>
    have hx : ((x : Int) != 0) = true := by have := num_err _ _ _ _ HR.out.symm; simp; omega
    have HX : Hid (F = .error x) := HF
    rintro en w1 ⟨q, rfl, hr, hb⟩
    have HR1 := hidm hr
    have HB1 := hidm hb
    clear hr hb
    go_wp2_with fail
    go_loopw [5, 6] (fun sl ii wr => ii = .int .i64 0 ∧ Hid (wr = w1)) (fun _ _ _ => 0)
    case atStart => exact ⟨rfl, hidm rfl⟩
    case round =>
      obtain ⟨rfl, HW⟩ := hrel
      obtain rfl : wr = w1 := HW.out
      go_wp2_with fail
      refine (end_bad r s q p x hx wr HR1.out).mono ?_
      rintro en w2 ⟨rfl, hr, hb⟩
      have HR2 := hidm hr
      have HB2 := hidm (HB1.out.trans hb)
      clear hr hb
      go_wp2_with fail
      go_ret
      rw [HX.out]
      exact ⟨rfl, HR2.out, HB2.out⟩
  | ok at' =>
    obtain ⟨m, t⟩ := at'
    rintro en w1 ⟨v, rfl, rfl, hr, hb⟩
    have hnb := read_ok HR.out.symm
    have hrest := rest_at hnb.1
    have HRT := hidm hrest
    have hm64 := hnb.2
    have HR1 := hidm hr
    have HB1 := hidm hb
    clear hr hb hrest hnb
    by_cases hbig : 1000 < m
    · have HX : Hid (F = .error 19) := hidm (by rw [HF.out]; simp only [lenR]; rw [if_pos hbig]; rfl)
      have hb1 : (1000 : Int) < (m : Int) := by omega
      go_wp2_with fail
      refine (fail_any r s _ 19 _ HR1.out).mono ?_
      rintro en w2 ⟨rfl, hr, hb⟩
      have HR2 := hidm hr
      have HB2 := hidm (HB1.out.trans hb)
      have e2 := hr.c2
      clear hr hb
      go_wp2_with fail
      go_loopw [5, 6] (fun sl ii wr => ii = .int .i64 0 ∧ Hid (wr = w2)) (fun _ _ _ => 0)
      case atStart => exact ⟨rfl, hidm rfl⟩
      case round =>
        obtain ⟨rfl, HW⟩ := hrel
        obtain rfl : wr = w2 := HW.out
        obtain ⟨z, hz⟩ : ∃ z : Int, IntKind.i64.wrap (m : Int) = z := ⟨_, rfl⟩
        clear hm64 hbig hb1
        by_cases hz0 : 0 < z
        all_goals (go_wp2_with fail)
        all_goals refine (end_bad r s _ p 19 (by decide) wr HR2.out).mono ?_
        all_goals rintro en w3 ⟨rfl, hr, hb⟩
        all_goals have HR3 := hidm hr
        all_goals have HB3 := hidm (HB2.out.trans hb)
        all_goals clear hr hb
        all_goals (go_wp2_with fail)
        all_goals go_ret
        all_goals rw [HX.out]
        all_goals exact ⟨rfl, HR3.out, HB3.out⟩
    · have HX : Hid (F = vls m [] t) := hidm (by rw [HF.out]; simp only [lenR]; rw [if_neg hbig]; rfl)
      have hb1 : ¬ (1000 : Int) < (m : Int) := by omega
      have hm1000 : m ≤ 1000 := by omega
      go_wp2_with fail
      go_loopw [5, 6] (fun sl ii wr => ∃ (i : Nat) (acc : List V) (q e : Int), ii = .int .i64 i ∧ i ≤ m ∧ acc.length = i ∧ Hid (Rows s F m i acc q e) ∧ Hid (Rrd r s q e wr) ∧ Hid (But r w wr) ∧ wr.ownsRow w.heap.size 33 4 sl i (flat acc)) (fun _ ii _ => (m - (intOf ii).toNat))
      case atStart => exact ⟨0, [], (s.size - t.length : Nat), 0, rfl, by omega, rfl, hidm (.inl ⟨rfl, s.size - t.length, rfl, HRT.out.2.1, by rw [HRT.out.1]; exact HX.out⟩), HR1, HB1, World.ownsRow_nil _ _ _ _⟩
      case round =>
        obtain ⟨i, acc, q, e, rfl, him, hacc, HM, HRr, HB, hown⟩ := hrel
        have hsz := HB.out.size
        have k2 := HRr.out.c2
        have hmw : IntKind.i64.wrap (m : Int) = (m : Int) := by simp only [IntKind.wrap_i64]; omega
        rcases HM.out with ⟨rfl, k, rfl, hk, hF⟩ | ⟨x, rfl, hx0, hF⟩
        · rcases Nat.eq_or_lt_of_le him with hie | hie
          · have f1 : ¬ (i : Int) < m := by omega
            have HI := hidm hie
            have HA := hidm hacc
            have HO := hidm hown
            have HFF := hidm hF
            clear hie hacc hown hF HM
            go_wp2_with fail
            refine (end_ok r s _ p wr HRr.out).mono ?_
            rintro en w2 ⟨rfl, rfl⟩
            go_wp2_with fail
            go_ret
            rw [HFF.out, show m - i = 0 by have := HI.out; omega]
            exact ⟨_, rfl, by have := HA.out; rw [← this] at HO; exact HO.out, by rw [back_at s k hk]; exact HRr.out, HB.out⟩
          · have f1 : (i : Int) < m := by omega
            have hval := value_part r s k wr HRr.out hk hs
            obtain ⟨G, hG⟩ : ∃ G, G = val (s.data.toList.drop k) := ⟨_, rfl⟩
            rw [← hG] at hval
            have HG := hidm hG
            have HA := hidm hacc
            have HFF := hidm hF
            clear hG hacc hF HM
            go_wp2_with fail
            refine hval.mono ?_
            cases G with
            | error x =>
              have hx : x ≠ 0 := by have := val_err HG.out.symm; omega
              rintro en w2 ⟨q2, ⟨vk, vn, vb, vs⟩, rfl, hr2, hb2⟩
              have HX : Hid (F = .error x) := by
                refine hidm ?_
                rw [HFF.out, show m - i = (m - (i + 1)) + 1 by omega]
                simp only [vls]
                rw [← HG.out]
              have HM2 : Hid (Rows s F m (i + 1) (acc ++ [⟨vk, vn, vb, vs⟩]) q2 (x : Int)) := hidm (.inr ⟨x, rfl, hx, HX.out⟩)
              have hown2 := owns_but hown hrlt hb2
              have hsz2 : w.heap.size ≤ w2.heap.size := Nat.le_trans hsz hb2.size
              have HR2 := hidm hr2
              have HB2 := hidm (HB.out.trans hb2)
              clear hr2 hb2 hown k2
              simp only [V.agg]
              go_wp2_with (at_builtin; refine wpList_append_own _ rfl _ _ 36 rfl w.heap.size 33 i0 (.agg #[.int .i64 0, .int .i64 0, .int .u64 0, .string ⟨#[]⟩]) 4 40 Try.underlying36 hi hz0 hz1 hz2 rfl (by decide) _ _ _ rfl (hown2.alloc _) ⟨w2.heap.size, 0, none⟩ 1 1 [.int .i64 vk, .int .i64 vn, .int .u64 vb, .string (S vs)] rfl rfl ?c1 ?c2 ?c3 ?c4 ?c5 ?_)
              case c1 =>
                intro j y hj
                rcases cell_four _ _ _ _ j y hj with ⟨rfl, rfl⟩ | ⟨rfl, rfl⟩ | ⟨rfl, rfl⟩ | ⟨rfl, rfl⟩
                · exact (Vb.new w2 vk vn vb (S vs)).c0
                · exact (Vb.new w2 vk vn vb (S vs)).c1
                · exact (Vb.new w2 vk vn vb (S vs)).c2
                · exact (Vb.new w2 vk vn vb (S vs)).c3
              case c2 => intro y hy; simp at hy; rcases hy with rfl | rfl | rfl | rfl <;> rfl
              case c3 => unfold maxLen; omega
              case c4 => omega
              case c5 => simp; omega
              intro v' w3 hown' hgrow _
              have hlt2 := hown2.lt
              have HB3 := hidm ((HB2.out.alloc (.cells #[.int .i64 vk, .int .i64 vn, .int .u64 vb, .string (S vs)] 33)).grown hgrow (fun k hk => (hlt2 k hk).1))
              have HR3 := hidm ((HR2.out.past (.cells #[.int .i64 vk, .int .i64 vn, .int .u64 vb, .string (S vs)] 33)).grown hgrow (fun k hk => by have := (hlt2 k hk).1; omega))
              have hfl : flat acc ++ [.int .i64 vk, .int .i64 vn, .int .u64 vb, .string (S vs)] = flat (acc ++ [⟨vk, vn, vb, vs⟩]) := (flat_snoc acc ⟨vk, vn, vb, vs⟩).symm
              rw [hfl] at hown'
              have HO := hidm hown'
              clear hown' hgrow hown2 hlt2 hfl
              go_wp2
              go_roundw
              case rel => exact ⟨i + 1, acc ++ [⟨vk, vn, vb, vs⟩], _, _, by go_num, hie, by have := HA.out; rw [List.length_append, this]; rfl, HM2, HR3, HB3, HO.out⟩
              case measure => simp [intOf]; omega
            | ok at2 =>
              obtain ⟨⟨vk, vn, vb, vs⟩, u⟩ := at2
              rintro en w2 ⟨rfl, hr2, hb2⟩
              have HX : Hid (F = vls (m - (i + 1)) (acc ++ [⟨vk, vn, vb, vs⟩]) u) := by
                refine hidm ?_
                rw [HFF.out, show m - i = (m - (i + 1)) + 1 by omega]
                simp only [vls]
                rw [← HG.out]
              obtain ⟨pre, hpre⟩ := val_suf HG.out.symm
              have HU := hidm (rest_at hpre)
              have HM2 : Hid (Rows s F m (i + 1) (acc ++ [⟨vk, vn, vb, vs⟩]) (s.size - u.length : Nat) 0) := hidm (.inl ⟨rfl, s.size - u.length, rfl, HU.out.2.1, by rw [HU.out.1]; exact HX.out⟩)
              clear hpre
              have hown2 := owns_but hown hrlt hb2
              have hsz2 : w.heap.size ≤ w2.heap.size := Nat.le_trans hsz hb2.size
              have HR2 := hidm hr2
              have HB2 := hidm (HB.out.trans hb2)
              clear hr2 hb2 hown k2
              simp only [V.agg]
              go_wp2_with (at_builtin; refine wpList_append_own _ rfl _ _ 36 rfl w.heap.size 33 i0 (.agg #[.int .i64 0, .int .i64 0, .int .u64 0, .string ⟨#[]⟩]) 4 40 Try.underlying36 hi hz0 hz1 hz2 rfl (by decide) _ _ _ rfl (hown2.alloc _) ⟨w2.heap.size, 0, none⟩ 1 1 [.int .i64 vk, .int .i64 vn, .int .u64 vb, .string (S vs)] rfl rfl ?c1z ?c2z ?c3z ?c4z ?c5z ?_)
              case c1z =>
                intro j y hj
                rcases cell_four _ _ _ _ j y hj with ⟨rfl, rfl⟩ | ⟨rfl, rfl⟩ | ⟨rfl, rfl⟩ | ⟨rfl, rfl⟩
                · exact (Vb.new w2 vk vn vb (S vs)).c0
                · exact (Vb.new w2 vk vn vb (S vs)).c1
                · exact (Vb.new w2 vk vn vb (S vs)).c2
                · exact (Vb.new w2 vk vn vb (S vs)).c3
              case c2z => intro y hy; simp at hy; rcases hy with rfl | rfl | rfl | rfl <;> rfl
              case c3z => unfold maxLen; omega
              case c4z => omega
              case c5z => simp; omega
              intro v' w3 hown' hgrow _
              have hlt2 := hown2.lt
              have HB3 := hidm ((HB2.out.alloc (.cells #[.int .i64 vk, .int .i64 vn, .int .u64 vb, .string (S vs)] 33)).grown hgrow (fun k hk => (hlt2 k hk).1))
              have HR3 := hidm ((HR2.out.past (.cells #[.int .i64 vk, .int .i64 vn, .int .u64 vb, .string (S vs)] 33)).grown hgrow (fun k hk => by have := (hlt2 k hk).1; omega))
              have hfl : flat acc ++ [.int .i64 vk, .int .i64 vn, .int .u64 vb, .string (S vs)] = flat (acc ++ [⟨vk, vn, vb, vs⟩]) := (flat_snoc acc ⟨vk, vn, vb, vs⟩).symm
              rw [hfl] at hown'
              have HO := hidm hown'
              clear hown' hgrow hown2 hlt2 hfl
              go_wp2
              go_roundw
              case rel => exact ⟨i + 1, acc ++ [⟨vk, vn, vb, vs⟩], _, _, by go_num, hie, by have := HA.out; rw [List.length_append, this]; rfl, HM2, HR3, HB3, HO.out⟩
              case measure => simp [intOf]; omega
        · have hxx : ((x : Int) == 0) = false := by simp; omega
          have hxn : ((x : Int) != 0) = true := by simp; omega
          have HFF := hidm hF
          clear hF HM hown
          by_cases f1 : (i : Int) < m
          all_goals (go_wp2_with fail)
          all_goals refine (end_bad r s q p x hxn wr HRr.out).mono ?_
          all_goals rintro en w2 ⟨rfl, hr, hb⟩
          all_goals have HR2 := hidm hr
          all_goals have HB2 := hidm (HB.out.trans hb)
          all_goals clear hr hb
          all_goals (go_wp2_with fail)
          all_goals go_ret
          all_goals rw [HFF.out]
          all_goals exact ⟨rfl, HR2.out, HB2.out⟩
theorem row_stay (r : Nat) (s : ByteArray) (p e : Int) (he : (e != 0) = true) (w : World) (h : Rrd r s p e w) :
    Calls Try.prog 23 #[.pointer (some ⟨r, 0, none⟩)] w fun en w' => en = .returned (.slice none 0 0) ∧ Rrd r s p e w' ∧ But r w w' := by
  have hk := uint_kept r s p e he w h
  have h1 := h.c1
  have HR := hidm h
  clear h
  go_enter Try.func23, Try.ntmps23
  go_wp2_with fail
  refine hk.mono ?_
  rintro en w1 ⟨rfl, rfl⟩
  clear hk h1
  go_wp2_with fail
  go_loopw [5, 6] (fun sl ii wr => ii = .int .i64 0 ∧ Hid (wr = w)) (fun _ _ _ => 0)
  case atStart => exact ⟨rfl, hidm rfl⟩
  case round =>
    obtain ⟨rfl, HW⟩ := hrel
    obtain rfl : w = wr := HW.out.symm
    go_wp2_with fail
    refine (end_bad r s p p e he w HR.out).mono ?_
    rintro en w2 ⟨rfl, hr, hb⟩
    have HR2 := hidm hr
    have HB2 := hidm hb
    clear hr hb
    go_wp2_with fail
    go_ret
    exact ⟨rfl, HR2.out, HB2.out⟩
end Rr
end Go.Proofs.Ytinnkdbojgoicaa
