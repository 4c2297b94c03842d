/- The writers of package frame: lengthBytes, length, behindOp, bodyOf, Body, Encode. Conditions: the transaction's fields are within their ranges; names at most 2^48 bytes. -/
import Derived.Test.YtopmbhpjdmcabaaGreatGd
import Derived.Test.YtopmbhpjdmcabaaGreatQc
import Derived.Test.YtopmbhpjdmcabaaGreatQa
import Derived.Test.YtopmbhpjdmcabaaGreatJg
import Derived.Test.YtopmbhpjdmcabaaGreatMh
import Derived.Test.YtopmbhpjdmcabaaGreatMc
import Derived.Test.YtopmbhpjdmcabaaGreatBlk
namespace Go.Proofs.YtopmbhpjdmcabaaGreat
open Go.RowKit
namespace Frm
open Cod Sch
set_option maxHeartbeats 4000000 in
set_option maxRecDepth 100000 in
theorem lbytes_any (n : Nat) (w : World) :
    Calls Tryz.prog 38 #[.int .i64 n] w fun e w' => e = .returned (.string (S (four4 n))) ∧ Below w.heap.size w w' := by
  have hc := run_convert_bytes_back (P := Tryz.prog) (w.alloc (.cells #[.int .u8 ((n : Int) / 16777216 % 256), .int .u8 ((n : Int) / 65536 % 256), .int .u8 ((n : Int) / 256 % 256), .int .u8 ((n : Int) % 256)] 5)) 88 9 5 ⟨w.heap.size, 0, none⟩ 4 (four4 n) Tryz.underlying88 Tryz.underlying5 Tryz.underlying9 (by
    intro j hj
    have hj' : j = 0 ∨ j = 1 ∨ j = 2 ∨ j = 3 := by have : (four4 n).length = 4 := rfl; omega
    have hadd : (⟨w.heap.size, 0, none⟩ : Addr).add j = ⟨w.heap.size, j, none⟩ := by unfold Addr.add; split <;> simp_all
    rw [hadd, cell_of_row _ _ j _ _ (0, 0) (heap_alloc_last w _)]
    rcases hj' with rfl | rfl | rfl | rfl <;> simp [four4])
  have HC : (convert 88 9 (.slice (some ⟨w.heap.size, 0, none⟩) 4 4)).run Tryz.prog (w.alloc (.cells #[.int .u8 ((n : Int) / 16777216 % 256), .int .u8 ((n : Int) / 65536 % 256), .int .u8 ((n : Int) / 256 % 256), .int .u8 ((n : Int) % 256)] 5)) = .ok (.string (S (four4 n))) (w.alloc (.cells #[.int .u8 ((n : Int) / 16777216 % 256), .int .u8 ((n : Int) / 65536 % 256), .int .u8 ((n : Int) / 256 % 256), .int .u8 ((n : Int) % 256)] 5)) := hc
  clear hc
  go_enter Tryz.func38, Tryz.ntmps38
  go_wp2_with fail
  go_ret
  exact ⟨rfl, (Below.refl _ _).alloc (Nat.le_refl _) _⟩
theorem i64_or_nat (a b : Nat) (ha : a < 4611686018427387904) (hb : b < 256) (h : a % 256 = 0) : bits .or .i64 (a : Int) (b : Int) = ((a + b : Nat) : Int) := by
  show IntKind.i64.wrap ((BitVec.ofInt 64 (a : Int) ||| BitVec.ofInt 64 (b : Int)).toNat : Int) = _
  rw [BitVec.toNat_or, ofInt_u64 a (by omega), ofInt_u64 b (by omega), nat_join 8 a b (by simpa using h) (by simpa using hb), IntKind.wrap_i64]
  omega
theorem num_or (n : Nat) (c : UInt8) (hn : n < 16777216) : bits .or .i64 (wrap64 ((n : Int) * 256)) (c.toNat : Int) = ((n * 256 + c.toNat : Nat) : Int) := by
  have hc := c.toNat_lt
  have e1 : wrap64 ((n : Int) * 256) = ((n * 256 : Nat) : Int) := by unfold wrap64; omega
  rw [e1, i64_or_nat _ _ (by omega) (by omega) (by omega)]
theorem num_or2 (n : Nat) (c : UInt8) (hn : n < 16777216) : bits .or .i64 ((n : Int) * 256) (c.toNat : Int) = ((n * 256 + c.toNat : Nat) : Int) := by
  have hc := c.toNat_lt
  have e1 : (n : Int) * 256 = ((n * 256 : Nat) : Int) := by omega
  rw [e1, i64_or_nat _ _ (by omega) (by omega) (by omega)]
theorem num4_take (l : List UInt8) {i : Nat} (hi : i < l.length) : num4 (l.take (i + 1)) = num4 (l.take i) * 256 + l[i].toNat := by
  unfold num4; rw [List.take_succ_eq_append_getElem hi, List.foldl_append]; rfl
theorem num4_lt (l : List UInt8) : ∀ i, i ≤ l.length → num4 (l.take i) < 256 ^ i := by
  intro i
  induction i with
  | zero => intro _; simp [num4]
  | succ i ih =>
    intro hi
    have h1 := ih (by omega)
    have := (l[i]'(by omega)).toNat_lt
    rw [num4_take l (by omega), Nat.pow_succ]; omega
set_option maxHeartbeats 4000000 in
set_option maxRecDepth 100000 in
theorem length_any (s : ByteArray) (hs : s.size = 4) (w : World) :
    Calls Tryz.prog 45 #[.string s] w fun e w' => e = .returned (.int .i64 (num4 s.data.toList : Nat)) ∧ w = w' := by
  have HS := hidm hs
  have hl : s.data.toList.length = 4 := by rw [Cod.len_eq]; exact hs
  have HL := hidm hl
  clear hl
  go_enter Tryz.func45, Tryz.ntmps45
  go_wp2_with fail
  go_loopw [3, 7] (fun nn ii wr => ∃ (i n : Nat), nn = .int .i64 n ∧ ii = .int .i64 i ∧ i ≤ 4 ∧ Hid (n = num4 (s.data.toList.take i)) ∧ Hid (w = wr)) (fun _ ii _ => 4 - (intOf ii).toNat)
  case atStart => exact ⟨0, 0, rfl, rfl, by omega, hidm rfl, hidm rfl⟩
  case round =>
    obtain ⟨i, n, rfl, rfl, hi, HN, HW⟩ := hrel
    rcases Nat.lt_or_ge i 4 with h4 | h4
    · have f1 : (i : Int) < 4 := by omega
      have hi2 : i < s.size := by omega
      have hia : i < s.data.toList.length := by rw [HL.out]; exact h4
      obtain ⟨c, hc⟩ : ∃ c : UInt8, s[i] = c := ⟨_, rfl⟩
      have hcl := c.toNat_lt
      have hn3 : n < 16777216 := by
        have h1 := num4_lt s.data.toList i (by omega)
        rw [← HN.out] at h1
        have h2 : 256 ^ i ≤ 256 ^ 3 := Nat.pow_le_pow_right (by omega) (by omega)
        have h3 : (256 : Nat) ^ 3 = 16777216 := by decide
        omega
      have HN2 : Hid (n * 256 + c.toNat = num4 (s.data.toList.take (i + 1))) := hidm (by
        rw [num4_take _ hia, ← HN.out]
        have : s.data.toList[i] = c := hc
        rw [this])
      have HO := hidm (num_or2 n c hn3)
      go_wp2_with fail
      go_roundw
      case rel => exact ⟨i + 1, n * 256 + c.toNat, congrArg (Value.int .i64) HO.out, by go_num, by omega, HN2, HW⟩
      case measure => simp [intOf]; omega
    · obtain rfl : i = 4 := by omega
      have HE := (show n = num4 s.data.toList from by have h := HN.out; rwa [List.take_of_length_le (by rw [HL.out]; omega)] at h)
      subst HE
      go_wp2_with fail
      go_ret
      exact ⟨rfl, HW.out⟩
theorem back_step {wb : World} {b rl rc a z : Nat} {ro : Option Addr} {t : ByteArray} {w1 w' : World} (h : w1.cell? ⟨b, 1, none⟩ = some (.string (t)) ∧ w1.cell? ⟨b, 2, none⟩ = some (.slice ro rl rc) ∧ w1.cell? ⟨b, 3, none⟩ = some (.int .i64 (a : Int)) ∧ w1.cell? ⟨b, 4, none⟩ = some (.int .i64 (z : Int)) ∧ Below wb.heap.size wb w1 ∧ wb.heap.size ≤ w1.heap.size) (hb : Below w1.heap.size w1 w') : w'.cell? ⟨b, 1, none⟩ = some (.string (t)) ∧ w'.cell? ⟨b, 2, none⟩ = some (.slice ro rl rc) ∧ w'.cell? ⟨b, 3, none⟩ = some (.int .i64 (a : Int)) ∧ w'.cell? ⟨b, 4, none⟩ = some (.int .i64 (z : Int)) ∧ Below wb.heap.size wb w' ∧ wb.heap.size ≤ w'.heap.size := by
  obtain ⟨c0, c1, c2, c3, hB, hz⟩ := h
  exact ⟨cell_later hb c0, cell_later hb c1, cell_later hb c2, cell_later hb c3, hB.trans (hb.mono hz), Nat.le_trans hz hb.size⟩
theorem row_at {vs : List V} {sl : Value} {w : World} (h : RowC vs sl w) : RowAt vs sl w := h.1
theorem cells8 {w : World} {c : Nat} {a0 a1 a2 a3 a4 a5 a6 a7 : Value} {t : TypeId} (h : w.heap[c]? = some (.cells #[a0, a1, a2, a3, a4, a5, a6, a7] t (0, 0))) : w.cell? ⟨c, 0, none⟩ = some a0 ∧ w.cell? ⟨c, 1, none⟩ = some a1 ∧ w.cell? ⟨c, 2, none⟩ = some a2 ∧ w.cell? ⟨c, 3, none⟩ = some a3 ∧ w.cell? ⟨c, 4, none⟩ = some a4 ∧ w.cell? ⟨c, 5, none⟩ = some a5 ∧ w.cell? ⟨c, 6, none⟩ = some a6 ∧ w.cell? ⟨c, 7, none⟩ = some a7 := by
  refine ⟨?_, ?_, ?_, ?_, ?_, ?_, ?_, ?_⟩ <;> simp [World.cell?, h]
theorem schema_lim {s : T} (h : rightB s = true) : Lim s := by
  obtain ⟨hn, hc, _⟩ := head_parts (right_head h)
  have := name_len hn
  exact ⟨by omega, fun c hc => by have := name_len (col_parts (right_mem h hc)).1; omega, by omega⟩
set_option maxHeartbeats 4000000 in
set_option maxRecDepth 100000 in
theorem behind_any {x : M} (hc : chB x.c = true) (hw : x.c.wf) (w : World) (hin : x.In w) :
    Calls Tryz.prog 64 #[.agg #[.int .i64 x.c.op, .string (S x.c.tb), .slice x.ro x.c.row.length x.rc, .int .i64 x.c.a, .int .i64 x.c.z, .string (S x.c.df.nm), .slice x.qo x.c.df.cols.length x.qc, .int .i64 x.c.df.keys]] w fun e w' => e = .returned (.string (S (backB x.c))) ∧ Below w.heap.size w w' := by
  have HIN := hidm hin
  have HW := hidm hw
  have HS0 := hidm (BoxM.start x w)
  obtain ⟨F, hF⟩ : ∃ F, F = S (backB x.c) := ⟨_, rfl⟩
  rw [← hF]
  have HF := hidm hF
  clear hin hw hF
  rcases ch_cases hc with ⟨h12, hr⟩ | ⟨h3, ht⟩
  · obtain ⟨hn, r1, r2, hrr, a0, az, z1, hdf⟩ := row_parts hr
    have f1 : (x.c.op == 3) = false := by rcases h12 with h | h <;> rw [h] <;> rfl
    obtain ⟨a, ha⟩ : ∃ k : Nat, x.c.a = (k : Int) := Int.eq_ofNat_of_zero_le a0
    obtain ⟨z, hz⟩ : ∃ k : Nat, x.c.z = (k : Int) := Int.eq_ofNat_of_zero_le (by omega)
    have HFF := hidm (show F = S (tB x.c.tb ++ (rB x.c.row ++ (uB a ++ uB z))) from by rw [HF.out]; unfold backB; rw [if_neg (by omega), ha, hz]; rfl)
    have ha1 : a ≤ 1099511627776 := by omega
    have hz1 : z ≤ 1099511627776 := by omega
    have hwa : IntKind.u64.wrap (a : Int) = (a : Int) := by rw [IntKind.wrap_u64]; omega
    have hwz : IntKind.u64.wrap (z : Int) = (z : Int) := by rw [IntKind.wrap_u64]; omega
    have hlt : (tB x.c.tb).length ≤ 300000000000000 := by
      have := HW.out.tb
      have := uB_ten x.c.tb.length (by omega)
      unfold tB; rw [List.length_append]; omega
    have hlr : (rB x.c.row).length ≤ 65800 := row_len HW.out.row r2
    have hla := uB_ten a (by omega)
    have hlz := uB_ten z (by omega)
    have hg1 : ¬ 9223372036854775807 < (tB x.c.tb).length + (rB x.c.row).length := by omega
    have hg2 : ¬ 9223372036854775807 < (tB x.c.tb).length + (rB x.c.row).length + (uB a).length := by omega
    have hg3 : ¬ 9223372036854775807 < (tB x.c.tb).length + (rB x.c.row).length + (uB a).length + (uB z).length := by omega
    clear hlt hlr hla hlz
    have c3 := HS0.out.c3.trans (show _ = some (.int .i64 (a : Int)) from by rw [ha])
    have c4 := HS0.out.c4.trans (show _ = some (.int .i64 (z : Int)) from by rw [hz])
    have SS0 := hidm (show (w.alloc (.cells #[.int .i64 x.c.op, .string (S x.c.tb), .slice x.ro x.c.row.length x.rc, .int .i64 x.c.a, .int .i64 x.c.z, .string (S x.c.df.nm), .slice x.qo x.c.df.cols.length x.qc, .int .i64 x.c.df.keys] 32)).cell? ⟨w.heap.size, 1, none⟩ = some (.string (S x.c.tb)) ∧ (w.alloc (.cells #[.int .i64 x.c.op, .string (S x.c.tb), .slice x.ro x.c.row.length x.rc, .int .i64 x.c.a, .int .i64 x.c.z, .string (S x.c.df.nm), .slice x.qo x.c.df.cols.length x.qc, .int .i64 x.c.df.keys] 32)).cell? ⟨w.heap.size, 2, none⟩ = some (.slice x.ro x.c.row.length x.rc) ∧ (w.alloc (.cells #[.int .i64 x.c.op, .string (S x.c.tb), .slice x.ro x.c.row.length x.rc, .int .i64 x.c.a, .int .i64 x.c.z, .string (S x.c.df.nm), .slice x.qo x.c.df.cols.length x.qc, .int .i64 x.c.df.keys] 32)).cell? ⟨w.heap.size, 3, none⟩ = some (.int .i64 (a : Int)) ∧ (w.alloc (.cells #[.int .i64 x.c.op, .string (S x.c.tb), .slice x.ro x.c.row.length x.rc, .int .i64 x.c.a, .int .i64 x.c.z, .string (S x.c.df.nm), .slice x.qo x.c.df.cols.length x.qc, .int .i64 x.c.df.keys] 32)).cell? ⟨w.heap.size, 4, none⟩ = some (.int .i64 (z : Int)) ∧ Below (w.alloc (.cells #[.int .i64 x.c.op, .string (S x.c.tb), .slice x.ro x.c.row.length x.rc, .int .i64 x.c.a, .int .i64 x.c.z, .string (S x.c.df.nm), .slice x.qo x.c.df.cols.length x.qc, .int .i64 x.c.df.keys] 32)).heap.size (w.alloc (.cells #[.int .i64 x.c.op, .string (S x.c.tb), .slice x.ro x.c.row.length x.rc, .int .i64 x.c.a, .int .i64 x.c.z, .string (S x.c.df.nm), .slice x.qo x.c.df.cols.length x.qc, .int .i64 x.c.df.keys] 32)) (w.alloc (.cells #[.int .i64 x.c.op, .string (S x.c.tb), .slice x.ro x.c.row.length x.rc, .int .i64 x.c.a, .int .i64 x.c.z, .string (S x.c.df.nm), .slice x.qo x.c.df.cols.length x.qc, .int .i64 x.c.df.keys] 32)) ∧ (w.alloc (.cells #[.int .i64 x.c.op, .string (S x.c.tb), .slice x.ro x.c.row.length x.rc, .int .i64 x.c.a, .int .i64 x.c.z, .string (S x.c.df.nm), .slice x.qo x.c.df.cols.length x.qc, .int .i64 x.c.df.keys] 32)).heap.size ≤ (w.alloc (.cells #[.int .i64 x.c.op, .string (S x.c.tb), .slice x.ro x.c.row.length x.rc, .int .i64 x.c.a, .int .i64 x.c.z, .string (S x.c.df.nm), .slice x.qo x.c.df.cols.length x.qc, .int .i64 x.c.df.keys] 32)).heap.size from ⟨HS0.out.c1, HS0.out.c2, c3, c4, Below.refl _ _, Nat.le_refl _⟩)
    have HINB := hidm (HIN.out.later HS0.out.below)
    clear c3 c4 a0 az z1 hrr r1 r2 hn hr h12 hc ha hz hdf
    go_enter Tryz.func64, Tryz.ntmps64
    go_wp2_with fail
    refine wp_region_held_drew (S := fun u => u.cell? ⟨w.heap.size, 1, none⟩ = some (.string (S x.c.tb)) ∧ u.cell? ⟨w.heap.size, 2, none⟩ = some (.slice x.ro x.c.row.length x.rc) ∧ u.cell? ⟨w.heap.size, 3, none⟩ = some (.int .i64 (a : Int)) ∧ u.cell? ⟨w.heap.size, 4, none⟩ = some (.int .i64 (z : Int)) ∧ Below (w.alloc (.cells #[.int .i64 x.c.op, .string (S x.c.tb), .slice x.ro x.c.row.length x.rc, .int .i64 x.c.a, .int .i64 x.c.z, .string (S x.c.df.nm), .slice x.qo x.c.df.cols.length x.qc, .int .i64 x.c.df.keys] 32)).heap.size (w.alloc (.cells #[.int .i64 x.c.op, .string (S x.c.tb), .slice x.ro x.c.row.length x.rc, .int .i64 x.c.a, .int .i64 x.c.z, .string (S x.c.df.nm), .slice x.qo x.c.df.cols.length x.qc, .int .i64 x.c.df.keys] 32)) u ∧ (w.alloc (.cells #[.int .i64 x.c.op, .string (S x.c.tb), .slice x.ro x.c.row.length x.rc, .int .i64 x.c.a, .int .i64 x.c.z, .string (S x.c.df.nm), .slice x.qo x.c.df.cols.length x.qc, .int .i64 x.c.df.keys] 32)).heap.size ≤ u.heap.size) (by kernel_rfl) ?_ (fun hHeld => ?_)
    · exact back_step SS0.out ((Below.refl _ _).drew)
    refine Man.take1 (i := 0) (v := ?_) rfl (by kernel_rfl) (by kernel_rfl) (by kernel_rfl) (fun _ _ _ h => h) (by rfl) ?_ (by assumption) ?_
    rotate_left
    · (intro u hSu; (try dsimp only at hSu); go_simp; (try with_reducible rfl))
    (try simp only [Act.put, List.setIfInBounds_toArray, List.set_cons_zero, List.set_cons_succ])
    refine Man.take1 (i := 1) (v := ?_) rfl (by kernel_rfl) (by kernel_rfl) (by kernel_rfl) (fun _ _ _ h => h) (by rfl) ?_ (by assumption) ?_
    rotate_left
    · (intro u hSu; (try dsimp only at hSu); go_simp; (try with_reducible rfl))
    (try simp only [Act.put, List.setIfInBounds_toArray, List.set_cons_zero, List.set_cons_succ])
    refine Man.take1 (i := 3) (v := ?_) rfl (by kernel_rfl) (by kernel_rfl) (by kernel_rfl) (fun _ _ _ h => h) (by rfl) ?_ (by assumption) ?_
    rotate_left
    · (intro u hSu; (try dsimp only at hSu); go_simp; (try with_reducible rfl))
    (try simp only [Act.put, List.setIfInBounds_toArray, List.set_cons_zero, List.set_cons_succ])
    refine Man.take1 (i := 4) (v := ?_) rfl (by kernel_rfl) (by kernel_rfl) (by kernel_rfl) (fun _ _ _ h => h) (by rfl) ?_ (by assumption) ?_
    rotate_left
    · (intro u hSu; (try dsimp only at hSu); go_simp; (try with_reducible rfl))
    (try simp only [Act.put, List.setIfInBounds_toArray, List.set_cons_zero, List.set_cons_succ])
    refine Man.take1 (i := 7) (v := ?_) rfl (by kernel_rfl) (by kernel_rfl) (by kernel_rfl) (fun _ _ _ h => h) (by rfl) ?_ (by assumption) ?_
    rotate_left
    · (intro u hSu; (try dsimp only at hSu); go_simp; (try with_reducible rfl))
    (try simp only [Act.put, List.setIfInBounds_toArray, List.set_cons_zero, List.set_cons_succ])
    refine Man.take1 (i := 8) (v := ?_) rfl (by kernel_rfl) (by kernel_rfl) (by kernel_rfl) (fun _ _ _ h => h) (by rfl) ?_ (by assumption) ?_
    rotate_left
    · (intro u hSu; (try dsimp only at hSu); go_simp; (try with_reducible rfl))
    (try simp only [Act.put, List.setIfInBounds_toArray, List.set_cons_zero, List.set_cons_succ])
    refine Man.take1 (i := 9) (v := ?_) rfl (by kernel_rfl) (by kernel_rfl) (by kernel_rfl) (fun _ _ _ h => h) (by rfl) ?_ (by assumption) ?_
    rotate_left
    · (intro u hSu; (try dsimp only at hSu); go_simp; (try with_reducible rfl))
    (try simp only [Act.put, List.setIfInBounds_toArray, List.set_cons_zero, List.set_cons_succ])
    refine Man.take1 (i := 10) (v := ?_) rfl (by kernel_rfl) (by kernel_rfl) (by kernel_rfl) (fun _ _ _ h => h) (by rfl) ?_ (by assumption) ?_
    rotate_left
    · (intro u hSu; (try dsimp only at hSu); go_simp; (try with_reducible rfl))
    (try simp only [Act.put, List.setIfInBounds_toArray, List.set_cons_zero, List.set_cons_succ])
    refine Man.take1 (i := 13) (v := ?_) rfl (by kernel_rfl) (by kernel_rfl) (by kernel_rfl) (fun _ _ _ h => h) (by rfl) ?_ (by assumption) ?_
    rotate_left
    · (intro u hSu; (try dsimp only at hSu); go_simp; (try with_reducible rfl))
    (try simp only [Act.put, List.setIfInBounds_toArray, List.set_cons_zero, List.set_cons_succ])
    refine Man.take1 (i := 14) (v := ?_) rfl (by kernel_rfl) (by kernel_rfl) (by kernel_rfl) (fun _ _ _ h => h) (by rfl) ?_ (by assumption) ?_
    rotate_left
    · (intro u hSu; (try dsimp only at hSu); go_simp; (try with_reducible rfl))
    (try simp only [Act.put, List.setIfInBounds_toArray, List.set_cons_zero, List.set_cons_succ])
    refine Man.take1 (i := 15) (v := ?_) rfl (by kernel_rfl) (by kernel_rfl) (by kernel_rfl) (fun _ _ _ h => h) (by rfl) ?_ (by assumption) ?_
    rotate_left
    · (intro u hSu; (try dsimp only at hSu); go_simp; (try with_reducible rfl))
    (try simp only [Act.put, List.setIfInBounds_toArray, List.set_cons_zero, List.set_cons_succ])
    refine Man.take1 (i := 16) (v := ?_) rfl (by kernel_rfl) (by kernel_rfl) (by kernel_rfl) (fun _ _ _ h => h) (by rfl) ?_ (by assumption) ?_
    rotate_left
    · (intro u hSu; (try dsimp only at hSu); go_simp; (try with_reducible rfl))
    (try simp only [Act.put, List.setIfInBounds_toArray, List.set_cons_zero, List.set_cons_succ])
    refine Man.one (i := 2) rfl (by kernel_rfl) (fun K hK => ?_)
    go_simp
    (go_at_call 90; (with_reducible refine (text_of x.c.tb (by have := HW.out.tb; omega) _).mono ?_); rintro e w' ⟨rfl, hb⟩)
    refine hK.out _ _ ?_ (fun hNew => ?_)
    · exact back_step hHeld hb
    clear hHeld hK K hb
    have hHeld := hNew
    clear hNew
    (try simp only [Act.put, List.setIfInBounds_toArray, List.set_cons_zero, List.set_cons_succ])
    refine Man.one (i := 5) rfl (by kernel_rfl) (fun K hK => ?_)
    go_simp
    (go_at_call 92; (with_reducible refine (row_any x.c.row _ HW.out.row HW.out.rn _ (row_at (HINB.out.later hHeld.2.2.2.2.1).r)).mono ?_); rintro e w' ⟨rfl, hb⟩)
    refine hK.out _ _ ?_ (fun hNew => ?_)
    · exact back_step hHeld hb
    clear hHeld hK K hb
    have hHeld := hNew
    clear hNew
    (try simp only [Act.put, List.setIfInBounds_toArray, List.set_cons_zero, List.set_cons_succ])
    refine Man.take1 (i := 6) (v := ?_) rfl (by kernel_rfl) (by kernel_rfl) (by kernel_rfl) (fun _ _ _ h => h) (by rfl) ?_ (by assumption) ?_
    rotate_left
    · (intro u hSu; (try dsimp only at hSu); go_simp; (try with_reducible rfl))
    (try simp only [Act.put, List.setIfInBounds_toArray, List.set_cons_zero, List.set_cons_succ])
    refine Man.one (i := 11) rfl (by kernel_rfl) (fun K hK => ?_)
    go_simp
    (go_at_call 63; (with_reducible refine (uint_any a (by omega) _).mono ?_); rintro e w' ⟨rfl, hb⟩)
    refine hK.out _ _ ?_ (fun hNew => ?_)
    · exact back_step hHeld hb
    clear hHeld hK K hb
    have hHeld := hNew
    clear hNew
    (try simp only [Act.put, List.setIfInBounds_toArray, List.set_cons_zero, List.set_cons_succ])
    refine Man.take1 (i := 12) (v := ?_) rfl (by kernel_rfl) (by kernel_rfl) (by kernel_rfl) (fun _ _ _ h => h) (by rfl) ?_ (by assumption) ?_
    rotate_left
    · (intro u hSu; (try dsimp only at hSu); go_simp; (try with_reducible rfl))
    (try simp only [Act.put, List.setIfInBounds_toArray, List.set_cons_zero, List.set_cons_succ])
    refine Man.one (i := 17) rfl (by kernel_rfl) (fun K hK => ?_)
    go_simp
    (go_at_call 63; (with_reducible refine (uint_any z (by omega) _).mono ?_); rintro e w' ⟨rfl, hb⟩)
    refine hK.out _ _ ?_ (fun hNew => ?_)
    · exact back_step hHeld hb
    clear hHeld hK K hb
    have hHeld := hNew
    clear hNew
    (try simp only [Act.put, List.setIfInBounds_toArray, List.set_cons_zero, List.set_cons_succ])
    refine Man.take1 (i := 18) (v := ?_) rfl (by kernel_rfl) (by kernel_rfl) (by kernel_rfl) (fun _ _ _ h => h) (by rfl) ?_ (by assumption) ?_
    rotate_left
    · (intro u hSu; (try dsimp only at hSu); go_simp; (try with_reducible rfl))
    (try simp only [Act.put, List.setIfInBounds_toArray, List.set_cons_zero, List.set_cons_succ])
    refine Man.take1 (i := 19) (v := ?_) rfl (by kernel_rfl) (by kernel_rfl) (by kernel_rfl) (fun _ _ _ h => h) (by rfl) ?_ (by assumption) ?_
    rotate_left
    · (intro u hSu; (try dsimp only at hSu); go_simp; (try with_reducible rfl))
    (try simp only [Act.put, List.setIfInBounds_toArray, List.set_cons_zero, List.set_cons_succ])
    refine wpAnyH_done (by kernel_rfl) ?_ _
    obtain ⟨_, _, _, _, hqb, hqz⟩ := hHeld
    have HBF := hidm (HS0.out.then (hqb))
    clear hqb hqz SS0
    go_wp2_with fail
    go_ret
    refine ⟨congrArg (fun q => Ending.returned (.string q)) ?_, HBF.out.below⟩
    rw [HFF.out, S_append, S_append, S_append]
    simp only [List.append_assoc]
  · have f1 : (x.c.op == 3) = true := by rw [h3]; rfl
    obtain ⟨hrt, hq1, hq2, hq3, hq4⟩ := tab_parts ht
    have HFF := hidm (show F = S (tB (bodyB x.c.df)) from by rw [HF.out]; unfold backB; rw [if_pos h3])
    have HLM := hidm (schema_lim hrt)
    have HBL := hidm (schema_len hrt)
    have HENC := hidm (show encB x.c.df = bodyB x.c.df from by unfold encB; rw [if_pos hrt])
    clear h3 ht hc hrt hq1 hq2 hq3 hq4
    go_enter Tryz.func64, Tryz.ntmps64
    go_wp2_with fail
    refine (encode_is HENC.out HLM.out _ _ (HIN.out.q.later HS0.out.below)).mono ?_
    rintro e w1 ⟨rfl, hb⟩
    have HS1 := hidm (HS0.out.then hb)
    clear hb
    go_wp2_with fail
    refine (text_of (bodyB x.c.df) (by have := HBL.out; omega) _).mono ?_
    rintro e w2 ⟨rfl, hb⟩
    have HS2 := hidm (HS1.out.then hb)
    clear hb
    go_wp2_with fail
    go_ret
    exact ⟨congrArg (fun q => Ending.returned (.string q)) HFF.out.symm, HS2.out.below⟩
set_option maxHeartbeats 4000000 in
set_option maxRecDepth 100000 in
theorem body_any {x : X} (hr : txB x.tx = true) (hw : x.tx.wf) (w : World) (hin : x.In w) :
    Calls Tryz.prog 33 #[.agg #[.int .i64 x.seq, .int .i64 x.tm, .slice x.co x.l.length x.cc]] w fun e w' => e = .returned (.string (S (bodyT x.tx))) ∧ Below w.heap.size w w' := by
  obtain ⟨s1, s2, t0, t1, hn100, hch⟩ := tx_parts hr
  have hn100' : x.l.length ≤ 100 := by have h : (x.l.map M.c).length ≤ 100 := hn100; simpa using h
  have HPL := hidm (preT_len hr hw)
  have HCH := hidm (show ∀ i (h : i < x.l.length), chB (x.l[i]).c = true ∧ (x.l[i]).c.wf from fun i h => ⟨hch _ (List.mem_map.2 ⟨x.l[i], List.getElem_mem h, rfl⟩), hw _ (List.mem_map.2 ⟨x.l[i], List.getElem_mem h, rfl⟩)⟩)
  have HIN := hidm hin
  have hs0 := BoxX.start x w
  have hf0 := Bld.fresh (w.alloc (.cells #[.int .i64 x.seq, .int .i64 x.tm, .slice x.co x.l.length x.cc] 24))
  rw [show (w.alloc (.cells #[.int .i64 x.seq, .int .i64 x.tm, .slice x.co x.l.length x.cc] 24)).heap.size = w.heap.size + 1 from by simp] at hf0
  have HF2 := hidm hf0
  have HB2 := hidm (hs0.then ((Below.refl _ _).alloc (Nat.le_refl _) (.cells #[.pointer none, .slice none 0 0] 90)))
  have HZ2 := hidm (show w.heap.size + 1 ≤ ((w.alloc (.cells #[.int .i64 x.seq, .int .i64 x.tm, .slice x.co x.l.length x.cc] 24)).alloc (.cells #[.pointer none, .slice none 0 0] 90)).heap.size from by simp)
  obtain ⟨sq, hsq⟩ : ∃ k : Nat, x.seq = (k : Int) := Int.eq_ofNat_of_zero_le (by have : 1 ≤ x.seq := s1; omega)
  obtain ⟨tm, htm⟩ : ∃ k : Nat, x.tm = (k : Int) := Int.eq_ofNat_of_zero_le t0
  obtain ⟨n, hn⟩ : ∃ n, n = x.l.length := ⟨_, rfl⟩
  have HSQ := hidm hsq
  have HTM := hidm htm
  have HN := hidm hn
  have hsq1 : sq ≤ 1099511627776 := by have h : x.seq ≤ 1099511627776 := s2; omega
  have htm1 : tm < 1099511627776 := by have h : x.tm < 1099511627776 := t1; omega
  rw [← hn] at hn100'
  have HP0 := hidm (show preT x.tx 0 = uB sq ++ (uB tm ++ uB n) from by
    unfold preT X.tx
    simp only [List.length_map, List.take_zero, List.flatMap_nil, List.append_nil]
    rw [hsq, htm, hn]; rfl)
  obtain ⟨F, hF⟩ : ∃ F, F = S (bodyT x.tx) := ⟨_, rfl⟩
  rw [← hF]
  have HF := hidm hF
  clear hF s1 s2 t0 t1 hn100 hch hr hw hin hs0 hf0
  have c0 := HB2.out.c0.trans (show _ = some (.int .i64 (sq : Int)) from by rw [hsq])
  clear hsq htm hn
  go_enter Tryz.func33, Tryz.ntmps33
  go_wp2_with fail
  refine (uint_any sq (by omega) _).mono ?_
  rintro e w3 ⟨rfl, hb⟩
  have HF3 := hidm (HF2.out.below hb)
  have HB3 := hidm (HB2.out.then hb)
  have HZ3 := hidm (Nat.le_trans HZ2.out hb.size)
  clear hb c0
  go_wp2_with fail
  refine (Bld.write_k _ _ _ _ _ HF3.out (by rw [S_size]; have := uB_ten sq (by omega); simp only [List.length_nil]; (try have := uB_ten sq (by omega)); (try have := uB_ten tm (by omega)); omega) HZ3.out).mono ?_
  rintro e w4 ⟨rfl, hf, hb, hkp⟩
  have HF4 := hidm hf
  have HB4 := hidm (HB3.out.above hb (Nat.le_refl _))
  have HZ4 := hidm (Nat.le_trans HZ3.out hb.size)
  have c1 := HB4.out.c1.trans (show _ = some (.int .i64 (tm : Int)) from by rw [HTM.out])
  clear hf hb hkp HF3 HB3 HZ3
  go_wp2_with fail
  refine (uint_any tm (by omega) _).mono ?_
  rintro e w5 ⟨rfl, hb⟩
  have HF5 := hidm (HF4.out.below hb)
  have HB5 := hidm (HB4.out.then hb)
  have HZ5 := hidm (Nat.le_trans HZ4.out hb.size)
  clear hb c1
  go_wp2_with fail
  refine (Bld.write_k _ _ _ _ _ HF5.out (by rw [S_size]; have := uB_ten tm (by omega); simp only [List.length_append, List.length_nil]; (try have := uB_ten sq (by omega)); (try have := uB_ten tm (by omega)); omega) HZ5.out).mono ?_
  rintro e w6 ⟨rfl, hf, hb, hkp⟩
  have HF6 := hidm hf
  have HB6 := hidm (HB5.out.above hb (Nat.le_refl _))
  have HZ6 := hidm (Nat.le_trans HZ5.out hb.size)
  have c2 := HB6.out.c2.trans (show _ = some (.slice x.co n x.cc) from by rw [HN.out])
  clear hf hb hkp HF5 HB5 HZ5 HF4 HB4 HZ4
  go_wp2_with fail
  refine (uint_any n (by omega) _).mono ?_
  rintro e w7 ⟨rfl, hb⟩
  have HF7 := hidm (HF6.out.below hb)
  have HB7 := hidm (HB6.out.then hb)
  have HZ7 := hidm (Nat.le_trans HZ6.out hb.size)
  clear hb c2
  go_wp2_with fail
  refine (Bld.write_k _ _ _ _ _ HF7.out (by rw [S_size]; have := uB_ten n (by omega); simp only [List.length_append, List.length_nil]; (try have := uB_ten sq (by omega)); (try have := uB_ten tm (by omega)); omega) HZ7.out).mono ?_
  rintro e w8 ⟨rfl, hf, hb, hkp⟩
  have HF8 := hidm hf
  have HB8 := hidm (HB7.out.above hb (Nat.le_refl _))
  have HZ8 := hidm (Nat.le_trans HZ7.out hb.size)
  have HP8 : Hid (Bld.Is (w.heap.size + 1) (w.heap.size + 1) (preT x.tx 0) w8) := by
    refine hidm ?_
    have e0 : preT x.tx 0 = (([] ++ (S (uB sq)).data.toList) ++ (S (uB tm)).data.toList) ++ (S (uB n)).data.toList := by rw [HP0.out]; simp
    rw [e0]; exact HF8.out
  have c2 := HB8.out.c2.trans (show _ = some (.slice x.co n x.cc) from by rw [HN.out])
  clear hf hb hkp HF7 HB7 HZ7 HF6 HB6 HZ6 HF8 HF2 HB2 HZ2
  go_wp2_with fail
  go_loopw [25] (fun ii wr => ∃ i : Nat, ii = .int .i64 i ∧ i ≤ n ∧ Hid (Bld.Is (w.heap.size + 1) (w.heap.size + 1) (preT x.tx i) wr) ∧ Hid (BoxX x w wr) ∧ Hid (w.heap.size + 1 ≤ wr.heap.size)) (fun ii _ => (n - (intOf ii).toNat))
  case atStart => exact ⟨0, rfl, by omega, HP8, HB8, HZ8⟩
  case round =>
    clear HP8 HB8 HZ8 c2
    obtain ⟨i, rfl, hi, HF1, HB1, HZ1⟩ := hrel
    rcases Nat.lt_or_ge i n with hlt | hge
    · have f1 : (i : Int) < n := by omega
      have hia : i < x.l.length := by have := HN.out; omega
      obtain ⟨b1, o1, cp, he1, _, q0, q1, q2, q3, q4, q5, q6, q7⟩ := (MsAt.later HIN.out HB1.out.below).at i hia
      have hyin := (MsAt.later HIN.out HB1.out.below).in i hia
      simp only [Value.slice.injEq, true_and] at he1
      obtain ⟨he1a, he1b⟩ := he1
      try rw [he1a, he1b]
      have hcw := HCH.out i hia
      have HPS := hidm (preT_succ (t := x.tx) (show i < x.tx.chs.length from by show i < (x.l.map M.c).length; simpa using hia))
      have e9 : x.tx.chs[i]'(by show i < (x.l.map M.c).length; simpa using hia) = x.l[i].c := by show (x.l.map M.c)[i]'_ = _; simp
      rw [e9] at HPS
      obtain ⟨y, hy⟩ : ∃ y, y = x.l[i] := ⟨_, rfl⟩
      rw [← hy] at q0 q1 q2 q3 q4 q5 q6 q7 hyin hcw HPS
      have HPL1 := hidm (HPL.out (i + 1) (show i + 1 ≤ (x.l.map M.c).length from by rw [List.length_map]; exact hia))
      rw [HPS.out] at HPL1
      have HYC := hidm hcw
      obtain ⟨op, hop⟩ : ∃ k : Nat, y.c.op = (k : Int) := Int.eq_ofNat_of_zero_le (by have := (ch_op hcw.1).1; omega)
      have hop3 : op ≤ 3 := by have := (ch_op hcw.1).2; omega
      have HY := hidm hy
      have HCB := hidm (show chBy y.c = uB op ++ backB y.c from by unfold chBy; rw [hop]; rfl)
      have hs := BoxM.start y wr
      have HF2 := hidm (HF1.out.below hs.below)
      have HB2 := hidm (HB1.out.then hs.below)
      have HZ2 := hidm (Nat.le_trans HZ1.out hs.below.size)
      have HK2 := hidm hs.blk
      have c0 := hs.c0.trans (show _ = some (.int .i64 (op : Int)) from by rw [hop])
      clear hy hyin hcw e9 hs hop
      go_wp2_with fail
      refine (uint_any op (by omega) _).mono ?_
      rintro e w3 ⟨rfl, hb⟩
      have HF3 := hidm (HF2.out.below hb)
      have HB3 := hidm (HB2.out.then hb)
      have HZ3 := hidm (Nat.le_trans HZ2.out hb.size)
      have HK3 := hidm (below_keeps hb HK2.out)
      clear hb c0
      go_wp2_with fail
      refine (Bld.write_k _ _ _ _ _ HF3.out (by rw [S_size]; have := uB_ten op (by omega); have := HPL1.out; rw [HCB.out] at this; simp only [List.length_append] at this; omega) HZ3.out).mono ?_
      rintro e w4 ⟨rfl, hf, hb, hkp⟩
      have HF4 := hidm hf
      have HB4 := hidm (HB3.out.above hb (Nat.le_refl _))
      have HZ4 := hidm (Nat.le_trans HZ3.out hb.size)
      have HK4 := hidm (hkp _ _ _ _ HK3.out (by decide) (by decide))
      have HIN4 := hidm (show y.In w4 from by rw [HY.out]; exact (MsAt.later HIN.out HB4.out.below).in i hia)
      have BH := behind_any HYC.out.1 HYC.out.2 w4 HIN4.out
      obtain ⟨d0, d1, d2, d3, d4, d5, d6, d7⟩ := cells8 HK4.out
      clear hf hb hkp HF2 HB2 HZ2 HF3 HB3 HZ3 HK2 HK3 q0 q1 q2 q3 q4 q5 q6 q7
      go_wp2_with fail
      refine BH.mono ?_
      rintro e w5 ⟨rfl, hb⟩
      have HF5 := hidm (HF4.out.below hb)
      have HB5 := hidm (HB4.out.then hb)
      have HZ5 := hidm (Nat.le_trans HZ4.out hb.size)
      clear hb BH d0 d1 d2 d3 d4 d5 d6 d7
      go_wp2_with fail
      refine (Bld.write_k _ _ _ _ _ HF5.out (by rw [S_size]; have := HPL1.out; rw [HCB.out] at this; simp only [List.length_append] at this ⊢; omega) HZ5.out).mono ?_
      rintro e w6 ⟨rfl, hf, hb, hkp⟩
      have HB6 := hidm (HB5.out.above hb (Nat.le_refl _))
      have HZ6 := hidm (Nat.le_trans HZ5.out hb.size)
      have HPE : Hid (Bld.Is (w.heap.size + 1) (w.heap.size + 1) (preT x.tx (i + 1)) w6) := by
        refine hidm ?_
        rw [HPS.out, HCB.out]
        have e0 : preT x.tx i ++ (uB op ++ backB y.c) = (preT x.tx i ++ (S (uB op)).data.toList) ++ (S (backB y.c)).data.toList := by simp
        rw [e0]; exact hf
      clear hf hb hkp
      go_wp2_with fail
      go_roundw
      case rel => exact ⟨i + 1, by go_num, by omega, HPE, HB6, HZ6⟩
      case measure => simp [intOf]; omega
    · have f1 : ¬ (i : Int) < n := by omega
      obtain rfl : i = n := by omega
      go_wp2_with fail
      refine (Bld.string_any _ _ _ _ HF1.out HZ1.out).mono ?_
      rintro e w3 ⟨rfl, _, hb3⟩
      have HB3 := hidm (HB1.out.above hb3 (Nat.le_refl _))
      clear hb3
      go_wp2_with fail
      go_ret
      refine ⟨congrArg (fun q => Ending.returned (.string q)) ?_, HB3.out.below⟩
      rw [HF.out]
      unfold bodyT
      rw [show x.tx.chs.length = i from by rw [HN.out]; show (x.l.map M.c).length = _; simp]
set_option maxHeartbeats 4000000 in
set_option maxRecDepth 100000 in
theorem bodyr_any {x : X} (hln : x.l.length ≤ 1000000) (hl : ∀ c ∈ x.l, ChLim c.c) (hw : txB x.tx = true → x.tx.wf) (w : World) (hin : x.In w) :
    Calls Tryz.prog 11 #[.agg #[.int .i64 x.seq, .int .i64 x.tm, .slice x.co x.l.length x.cc]] w fun e w' => e = .returned (.string (S (bodyR x.tx))) ∧ Below w.heap.size w w' := by
  have HIN := hidm hin
  have HS0 := hidm (BoxX.start x w)
  have RB := fun (b : Bool) (hb : txB x.tx = b) (w1 : World) (h1 : Below w.heap.size w w1) => txright_is hb hln hl w1 (hin.later h1)
  obtain ⟨F, hF⟩ : ∃ F, F = S (bodyR x.tx) := ⟨_, rfl⟩
  rw [← hF]
  have HF := hidm hF
  clear hF hin
  rcases hr : txB x.tx with _ | _
  · have R := hidm (RB false hr)
    have HFF := hidm (show F = S [] from by rw [HF.out]; unfold bodyR; rw [if_neg (by rw [hr]; simp)])
    clear hr RB hl hw hln
    go_enter Tryz.func11, Tryz.ntmps11
    go_wp2_with fail
    refine (R.out _ HS0.out.below).mono ?_
    rintro e w1 ⟨rfl, hb⟩
    have HS1 := hidm (HS0.out.then hb)
    clear hb
    go_wp2_with fail
    go_ret
    exact ⟨congrArg (fun q => Ending.returned (.string q)) HFF.out.symm, HS1.out.below⟩
  · have R := hidm (RB true hr)
    have HWF := hidm (hw hr)
    have HR := hidm hr
    have hlen : (bodyT x.tx).length ≤ 7000000 := by
      have h1 := preT_len hr (hw hr) x.tx.chs.length (Nat.le_refl _)
      have h2 := (tx_parts hr).2.2.2.2.1
      unfold bodyT; omega
    have HBR := hidm (show bodyR x.tx = if (bodyT x.tx).length ≤ 100000 then bodyT x.tx else [] from by unfold bodyR; rw [if_pos hr])
    obtain ⟨bl, hbl⟩ : ∃ n, n = (bodyT x.tx).length := ⟨_, rfl⟩
    rw [← hbl] at hlen HBR
    have hbl2 : (S (bodyT x.tx)).size = bl := by rw [S_size, hbl]
    clear hr RB hl hw hln hbl
    go_enter Tryz.func11, Tryz.ntmps11
    go_wp2_with fail
    refine (R.out _ HS0.out.below).mono ?_
    rintro e w1 ⟨rfl, hb⟩
    have HS1 := hidm (HS0.out.then hb)
    have c0 := HS1.out.c0
    have c1 := HS1.out.c1
    have c2 := HS1.out.c2
    clear hb
    go_wp2_with fail
    refine (body_any HR.out HWF.out _ (HIN.out.later HS1.out.below)).mono ?_
    rintro e w2 ⟨rfl, hb⟩
    have HS2 := hidm (HS1.out.then hb)
    clear hb c0 c1 c2
    obtain ⟨B, hB⟩ : ∃ B, B = S (bodyT x.tx) := ⟨_, rfl⟩
    rw [← hB] at hbl2 ⊢
    have HBB := hidm hB
    clear hB
    have hbl3 : (B.size : Int) = (bl : Int) := by rw [hbl2]
    rcases Nat.lt_or_ge 100000 bl with h1 | h1
    · have HFF := hidm (show F = S [] from by rw [HF.out, HBR.out, if_neg (by omega)])
      have f1 : (100000 : Int) < (bl : Int) := by omega
      go_wp2_with fail
      go_ret
      exact ⟨congrArg (fun q => Ending.returned (.string q)) HFF.out.symm, HS2.out.below⟩
    · have HFF := hidm (show F = B from by rw [HF.out, HBR.out, if_pos h1, HBB.out])
      have f1 : ¬ (100000 : Int) < (bl : Int) := by omega
      go_wp2_with fail
      go_ret
      exact ⟨congrArg (fun q => Ending.returned (.string q)) HFF.out.symm, HS2.out.below⟩
set_option maxHeartbeats 4000000 in
set_option maxRecDepth 100000 in
theorem fenc_any {x : X} (hln : x.l.length ≤ 1000000) (hl : ∀ c ∈ x.l, ChLim c.c) (hw : txB x.tx = true → x.tx.wf) (w : World) (hin : x.In w) :
    Calls Tryz.prog 13 #[.agg #[.int .i64 x.seq, .int .i64 x.tm, .slice x.co x.l.length x.cc]] w fun e w' => e = .returned (.string (S (encT x.tx))) ∧ Below w.heap.size w w' := by
  have HIN := hidm hin
  have HS0 := hidm (BoxX.start x w)
  have R := hidm (fun (w1 : World) (h1 : Below w.heap.size w w1) => bodyr_any hln hl hw w1 (hin.later h1))
  have hlen := bodyR_len x.tx
  obtain ⟨b, hb0⟩ : ∃ b, b = bodyR x.tx := ⟨_, rfl⟩
  have HENC := hidm (show encT x.tx = if b = [] then [] else four4 b.length ++ Crc.put b from by unfold encT; rw [hb0])
  rw [HENC.out]
  rw [← hb0] at R hlen
  obtain ⟨F, hF⟩ : ∃ F, F = S (if b = [] then [] else four4 b.length ++ Crc.put b) := ⟨_, rfl⟩
  rw [← hF]
  have HF := hidm hF
  clear hF hin hl hw hln HENC hb0
  rcases Decidable.em (b = []) with he | he
  · have HFF := hidm (show F = S [] from by rw [HF.out, if_pos he])
    subst he
    go_enter Tryz.func13, Tryz.ntmps13
    go_wp2_with fail
    refine (R.out _ HS0.out.below).mono ?_
    rintro e w1 ⟨rfl, hb⟩
    have HS1 := hidm (HS0.out.then hb)
    clear hb
    go_wp2_with fail
    go_ret
    exact ⟨congrArg (fun q => Ending.returned (.string q)) HFF.out.symm, HS1.out.below⟩
  · have HFF := hidm (show F = S (four4 b.length) ++ S (Crc.put b) from by rw [HF.out, if_neg he, S_append])
    have hbl : (S b).size = b.length := S_size b
    have hbq : (S b).toList = b := by rw [ByteArray.toList_eq]
    have f0 : (S b).toList.isEmpty = false := by
      rw [hbq]
      simpa using he
    have HP := hidm (fun w => Crc.put_any (S b) (by rw [S_size]; omega) w)
    obtain ⟨B, hB⟩ : ∃ B, B = S b := ⟨_, rfl⟩
    rw [← hB] at hbl f0 R HP
    have hB2 : B.data.toList = b := by rw [hB]
    rw [hB2] at HP
    obtain ⟨n, hn⟩ : ∃ n, n = b.length := ⟨_, rfl⟩
    rw [← hn] at hbl hlen HFF
    have HNB := hidm hn
    clear hbq hB hB2 hn he
    have hbl3 : (B.size : Int) = (n : Int) := by rw [hbl]
    have hg1 : ¬ 9223372036854775807 < (four4 n).length + (Crc.put b).length := by rw [Crc.put_len, ← HNB.out]; show ¬ 9223372036854775807 < 4 + _; omega
    go_enter Tryz.func13, Tryz.ntmps13
    go_wp2_with fail
    refine (R.out _ HS0.out.below).mono ?_
    rintro e w1 ⟨rfl, hb⟩
    have HS1 := hidm (HS0.out.then hb)
    clear hb
    go_wp2_with fail
    refine (lbytes_any n _).mono ?_
    rintro e w2 ⟨rfl, hb⟩
    have HS2 := hidm (HS1.out.then hb)
    clear hb
    go_wp2_with fail
    refine (HP.out _).mono ?_
    rintro e w3 ⟨rfl, hb⟩
    have HS3 := hidm (HS2.out.then hb)
    clear hb
    go_wp2_with fail
    go_ret
    exact ⟨congrArg (fun q => Ending.returned (.string q)) HFF.out.symm, HS3.out.below⟩
end Frm
end Go.Proofs.YtopmbhpjdmcabaaGreat
