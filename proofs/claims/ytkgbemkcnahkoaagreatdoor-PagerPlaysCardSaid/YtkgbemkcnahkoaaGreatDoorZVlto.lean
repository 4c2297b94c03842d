import Derived.Test.YtkgbemkcnahkoaaGreatDoorZWi
import Derived.Test.YtkgbemkcnahkoaaGreatDoorZVato
import Derived.Test.YtkgbemkcnahkoaaGreatDoorZVjto
namespace Go.Proofs.YtkgbemkcnahkoaaGreatDoor
open Go.RowKit
namespace Wal
open Cod (uB uB_ten num)
open Crc (S S_of S_size S_append S_add hidm four more put)
theorem ruint_any (n : Nat) (hn : n < 18446744073709551616) (w : World) :
   Calls Tryz.prog 138 #[.int .u64 n] w fun e w' => e = .returned (.string (S (uB n))) ∧ Below w.heap.size w w' := Wr.ruint_any n hn w
set_option maxHeartbeats 2000000 in
set_option maxRecDepth 100000 in
theorem rslot_any (t b : Nat) (ht : t ≤ 9223372036854775807) (hb0 : b ≤ 9223372036854775807) (w : World) :
   Calls Tryz.prog 134 #[.int .i64 (t : Int), .int .i64 (b : Int)] w fun e w' => e = .returned (.string (S (sbody t b))) ∧ Below w.heap.size w w' := by
 have U1 := fun w => ruint_any t (by omega) w
 have U2 := fun w => ruint_any b (by omega) w
 have l1 := uB_ten t (by omega)
 have l2 := uB_ten b (by omega)
 have c1 : IntKind.u64.wrap (t : Int) = (t : Int) := by simp only [IntKind.wrap_u64]; omega
 have c2 : IntKind.u64.wrap (b : Int) = (b : Int) := by simp only [IntKind.wrap_u64]; omega
 obtain ⟨x, hx⟩ : ∃ x, x = S (uB t) := ⟨_, rfl⟩
 obtain ⟨y, hy⟩ : ∃ y, y = S (uB b) := ⟨_, rfl⟩
 rw [← hx] at U1
 rw [← hy] at U2
 have hxs : x.size ≤ 10 := by rw [hx, S_size]; exact l1
 have hys : y.size ≤ 10 := by rw [hy, S_size]; exact l2
 have HE : Hid ((⟨#[83]⟩ : ByteArray) ++ x ++ y = S (sbody t b)) := by
   refine hidm ?_
   rw [hx, hy, show (⟨#[83]⟩ : ByteArray) = S [83] from rfl, S_append, S_append]
   rfl
 have g1 : ¬ 9223372036854775807 < 1 + x.size := by omega
 have g2 : ¬ 9223372036854775807 < 1 + x.size + y.size := by omega
 clear hx hy l1 l2
 go_enter Tryz.func134, Tryz.ntmps134
 go_wp2_with fail
 refine (U1 _).mono ?_
 rintro e w1 ⟨rfl, hb1⟩
 have HB1 := hidm hb1
 clear hb1
 go_wp2_with fail
 refine (U2 _).mono ?_
 rintro e w2 ⟨rfl, hb2⟩
 have HB2 := hidm (HB1.out.trans (hb2.mono HB1.out.size))
 clear hb2
 go_wp2_with fail
 go_ret
 exact ⟨congrArg (fun q => Ending.returned (.string q)) HE.out, HB2.out⟩
def headB (t i m : Nat) : List UInt8 := 76 :: (uB t ++ uB i ++ uB m)
theorem headB_len {t i m : Nat} (ht : t < 18446744073709551616) (hi : i < 18446744073709551616) (hm : m < 18446744073709551616) : (headB t i m).length ≤ 31 := by
 have l1 := uB_ten t ht
 have l2 := uB_ten i hi
 have l3 := uB_ten m hm
 unfold headB
 simp only [List.length_cons, List.length_append]
 omega
set_option maxHeartbeats 2000000 in
set_option maxRecDepth 100000 in
theorem rplace_any (t i m : Nat) (s q : ByteArray) (ht : t ≤ 9223372036854775807) (hi : i ≤ 9223372036854775807) (hm : m < 18446744073709551616) (hs : s.size ≤ 1000) (hq : q.size ≤ 1000) (w : World) :
   Calls Tryz.prog 131 #[.int .i64 (t : Int), .int .i64 (i : Int), .int .u64 (m : Int), .string s, .string q] w fun e w' => e = .returned (.string (S (headB t i m ++ s.data.toList ++ q.data.toList))) ∧ Below w.heap.size w w' := by
 have U1 := fun w => ruint_any t (by omega) w
 have U2 := fun w => ruint_any i (by omega) w
 have U3 := fun w => ruint_any m hm w
 have l1 := uB_ten t (by omega)
 have l2 := uB_ten i (by omega)
 have l3 := uB_ten m hm
 have c1 : IntKind.u64.wrap (t : Int) = (t : Int) := by simp only [IntKind.wrap_u64]; omega
 have c2 : IntKind.u64.wrap (i : Int) = (i : Int) := by simp only [IntKind.wrap_u64]; omega
 obtain ⟨x, hx⟩ : ∃ x, x = S (uB t) := ⟨_, rfl⟩
 obtain ⟨y, hy⟩ : ∃ y, y = S (uB i) := ⟨_, rfl⟩
 obtain ⟨z, hz⟩ : ∃ z, z = S (uB m) := ⟨_, rfl⟩
 rw [← hx] at U1
 rw [← hy] at U2
 rw [← hz] at U3
 have hxs : x.size ≤ 10 := by rw [hx, S_size]; exact l1
 have hys : y.size ≤ 10 := by rw [hy, S_size]; exact l2
 have hzs : z.size ≤ 10 := by rw [hz, S_size]; exact l3
 have HE : Hid ((⟨#[76]⟩ : ByteArray) ++ x ++ y ++ z ++ s ++ q = S (headB t i m ++ s.data.toList ++ q.data.toList)) := by
   refine hidm ?_
   rw [hx, hy, hz, show (⟨#[76]⟩ : ByteArray) = S [76] from rfl, S_append, S_append, S_append]
   conv => lhs; rw [← S_of s, ← S_of q]
   rw [S_append, S_append]
   first | rfl | (congr 1; simp [headB])
 have g1 : ¬ 9223372036854775807 < 1 + x.size := by omega
 have g2 : ¬ 9223372036854775807 < 1 + x.size + y.size := by omega
 have g3 : ¬ 9223372036854775807 < 1 + x.size + y.size + z.size := by omega
 have g4 : ¬ 9223372036854775807 < 1 + x.size + y.size + z.size + s.size := by omega
 have g5 : ¬ 9223372036854775807 < 1 + x.size + y.size + z.size + s.size + q.size := by omega
 clear hx hy hz l1 l2 l3
 go_enter Tryz.func131, Tryz.ntmps131
 go_wp2_with fail
 refine (U1 _).mono ?_
 rintro e w1 ⟨rfl, hb1⟩
 have HB1 := hidm hb1
 clear hb1
 go_wp2_with fail
 refine (U2 _).mono ?_
 rintro e w2 ⟨rfl, hb2⟩
 have HB2 := hidm (HB1.out.trans (hb2.mono HB1.out.size))
 clear hb2
 go_wp2_with fail
 refine (U3 _).mono ?_
 rintro e w3 ⟨rfl, hb3⟩
 have HB3 := hidm (HB2.out.trans (hb3.mono HB2.out.size))
 clear hb3
 go_wp2_with fail
 go_ret
 exact ⟨congrArg (fun q => Ending.returned (.string q)) HE.out, HB3.out⟩
set_option maxHeartbeats 2000000 in
set_option maxRecDepth 100000 in
theorem rsum_any (s : ByteArray) (hs : s.size ≤ 1099511627776) (w : World) :
   Calls Tryz.prog 132 #[.string s] w fun e w' => e = .returned (.string (S (four (more 0 s.data.toList)))) ∧ Below w.heap.size w w' := by
 have U1 := fun w => Crc.rput_any s hs w
 obtain ⟨a, ha⟩ : ∃ a, a = S (put s.data.toList) := ⟨_, rfl⟩
 rw [← ha] at U1
 have hl : a.size = s.size + 4 := by rw [ha, S_size, Crc.put_len, len_eq]
 have HE : Hid (a.extract s.size a.size = S (four (more 0 s.data.toList))) := by
   refine hidm ?_
   rw [hl, Cod.cut_bytes, ha]
   have h1 : (S (put s.data.toList)).data.toList = s.data.toList ++ four (more 0 s.data.toList) := rfl
   rw [h1, List.drop_append_of_le_length (by rw [len_eq]; exact Nat.le_refl _), List.drop_of_length_le (by rw [len_eq]; exact Nat.le_refl _), List.nil_append, List.take_of_length_le (by rw [Crc.four_len]; exact Nat.le_refl _)]
 have g1 : ¬ (a.size : Int) < (s.size : Int) := by omega
 have g2 : a.size ≤ 1099511627780 := by omega
 clear ha hl
 go_enter Tryz.func132, Tryz.ntmps132
 go_wp2_with fail
 refine (U1 _).mono ?_
 rintro e w1 ⟨rfl, hb1⟩
 have HB1 := hidm hb1
 clear hb1
 go_wp2_with fail
 go_ret
 exact ⟨congrArg (fun q => Ending.returned (.string q)) HE.out, HB1.out⟩
def hasB (s h : ByteArray) : Bool := decide (h.size ≤ s.size) && ((s.extract 0 h.size).data.toList == h.data.toList)
theorem hasB_iff {s h : List UInt8} : hasB (S s) (S h) = true ↔ ∃ r, s = h ++ r := by
 unfold hasB
 rw [S_size, S_size]
 have he : ((S s).extract 0 h.length).data.toList = s.take h.length := by
   have := Cod.cut_bytes (S s) 0 h.length
   rw [Nat.zero_add] at this
   rw [this]; simp
 rw [he]
 simp only [Bool.and_eq_true, decide_eq_true_eq, beq_iff_eq]
 constructor
 · rintro ⟨h1, h2⟩
   refine ⟨s.drop h.length, ?_⟩
   have h3 : s.take h.length = h := h2
   calc s = s.take h.length ++ s.drop h.length := (List.take_append_drop _ _).symm
     _ = h ++ s.drop h.length := by rw [h3]
 · rintro ⟨r, rfl⟩
   exact ⟨by simp, by simp⟩
set_option maxHeartbeats 2000000 in
set_option maxRecDepth 100000 in
theorem rhas_any (s h : ByteArray) (hh : h.size ≤ 1099511627776) (w : World) :
   Calls Tryz.prog 130 #[.string s, .string h] w fun e w' => e = .returned (.bool (hasB s h)) ∧ Below w.heap.size w w' := by
 rcases Nat.lt_or_ge s.size h.size with h1 | h1
 · have g1 : ¬ (h.size : Int) ≤ (s.size : Int) := by omega
   have e1 : hasB s h = false := by unfold hasB; rw [decide_eq_false (by omega)]; rfl
   rw [e1]
   go_enter Tryz.func130, Tryz.ntmps130
   go_wp2_with fail
   go_ret
   exact ⟨rfl, Below.refl _ _⟩
 · have g1 : (h.size : Int) ≤ (s.size : Int) := by omega
   have g2 : ¬ (s.size : Int) < (h.size : Int) := by omega
   have g3 : ¬ (h.size : Int) < 0 := by omega
   obtain ⟨c, hc⟩ : ∃ c, c = ((s.extract 0 h.size).data.toList == h.data.toList) := ⟨_, rfl⟩
   have e1 : hasB s h = c := by unfold hasB; rw [decide_eq_true h1, ← hc]; rfl
   rw [e1]
   clear e1
   have hc2 : ((s.extract 0 h.size).toList == h.toList) = c := by rw [Crc.beq_S]; exact hc.symm
   clear hc
   go_enter Tryz.func130, Tryz.ntmps130
   go_wp2_with fail
   go_ret
   exact ⟨by first | rfl | (rw [hc2]) | (simp only [hc2]), Below.refl _ _⟩
def turnL (l : List UInt8) : Option Nat :=
 match num 0 0 l with
 | .ok (n, _) => if n ≤ 1099511627776 then some n else none
 | .error _ => none
def turnB : List UInt8 → Option Nat
 | [] => none
 | c :: l => if c = 76 then turnL l else none
def turnI (o : Option Nat) : Int := match o with | some n => (n : Int) | none => -1
set_option maxHeartbeats 2000000 in
set_option maxRecDepth 100000 in
theorem rturn_any (s : ByteArray) (hs : s.size ≤ 1000) (w : World) :
   Calls Tryz.prog 129 #[.string s] w fun e w' => e = .returned (.int .i64 (turnI (turnB s.data.toList))) ∧ Below w.heap.size w w' := by
 rcases hd : s.data.toList with _ | ⟨c, l⟩
 · have he : s = ⟨#[]⟩ := by rw [← S_of s, hd]
   subst he
   have g1 : ((⟨#[]⟩ : ByteArray).toList == []) = true := by rw [ByteArray.toList_eq]; rfl
   go_enter Tryz.func129, Tryz.ntmps129
   go_wp2_with fail
   go_ret
   exact ⟨rfl, Below.refl _ _⟩
 · have hlen : s.size = l.length + 1 := by rw [← Cod.len_eq, hd]; rfl
   have g1 : (s.toList == []) = false := by rw [ByteArray.toList_eq, hd]; rfl
   have g2 : (0 : Int) < (s.size : Int) := by omega
   have hpos : 0 < s.size := by omega
   have hc0 : s[0]'hpos = c := by
     have h0 : s.data.toList[0]'(by rw [hd]; simp) = c := by simp [hd]
     exact h0
   by_cases hc : c = 76
   · subst hc
     have hx : s.extract 1 s.size = S l := by
       have := Cod.cut_bytes s 1 l.length
       rw [show 1 + l.length = s.size by omega] at this
       rw [this, hd]
       simp
     obtain ⟨q, hq⟩ : ∃ q, q = s.extract 1 s.size := ⟨_, rfl⟩
     have hql : q.data.toList = l := by rw [hq, hx]
     have hqs : q.size ≤ 1000 := by rw [hq, hx, S_size]; omega
     have HQ := hidm hql
     have ht : turnB (76 :: l) = turnL l := by simp [turnB]
     rw [ht]
     clear hx hql ht hd hlen
     have hq2 := hq.symm
     clear hq
     have g3 : ¬ (s.size : Int) < 1 := by omega
     have hs9 : (s.size : Int) ≤ 1000 := by omega
     obtain ⟨z, hz⟩ : ∃ z, z = turnI (turnL l) := ⟨_, rfl⟩
     rw [← hz]
     have HZ := hidm hz
     clear hz
     go_enter Tryz.func129, Tryz.ntmps129
     go_wp2_with fail
     refine (Rr.new_any q _).mono ?_
     rintro e w1 ⟨r, hr, rfl, h1, hb1⟩
     have HB1 := hidm hb1
     have HR := hidm hr
     have U := hidm (Rr.uint_call r q 0 w1 h1 (by omega) (by omega))
     rw [List.drop_zero, HQ.out] at U
     clear h1 hb1 hr
     go_wp2_with fail
     refine U.out.mono ?_
     intro e w2 hu
     unfold Rr.Does at hu
     rcases hnum : num 0 0 l with x | ⟨n, t⟩
     · rw [hnum] at hu
       obtain ⟨rfl, h2, hbu⟩ := hu
       have k2 := h2.c2
       have hx0 : ((x : Int) != 0) = true := by have := Cod.num_err _ _ _ _ hnum; simp; omega
       have HB2 := hidm (HB1.out.trans (hbu.below HR.out HB1.out.size))
       have HZ2 := hidm (show z = -1 from by rw [HZ.out]; simp [turnL, hnum, turnI])
       clear hbu h2 U hnum HR HB1 HZ
       go_wp2_with fail
       go_ret
       exact ⟨by rw [HZ2.out]; rfl, HB2.out⟩
     · rw [hnum] at hu
       obtain ⟨v, rfl, hv, h2, hbu⟩ := hu
       have hv2 : v = .int .u64 (n : Int) := hv
       subst hv2
       have k2 := h2.c2
       have HB2 := hidm (HB1.out.trans (hbu.below HR.out HB1.out.size))
       have HZ2 := hidm (show z = turnI (if n ≤ 1099511627776 then some n else none) from by rw [HZ.out]; simp [turnL, hnum])
       clear hbu h2 U hnum HR HB1 hv HZ
       by_cases hn : n ≤ 1099511627776
       · have n1 : ¬ (1099511627776 : Int) < (n : Int) := by omega
         have n2 : IntKind.i64.wrap (n : Int) = (n : Int) := by simp only [IntKind.wrap_i64]; omega
         go_wp2_with fail
         go_ret
         exact ⟨by rw [HZ2.out, if_pos hn]; rfl, HB2.out⟩
       · have n1 : (1099511627776 : Int) < (n : Int) := by omega
         go_wp2_with fail
         go_ret
         exact ⟨by rw [HZ2.out, if_neg hn]; rfl, HB2.out⟩
   · have g3 : ((c.toNat : Int) == 76) = false := by
       have : c.toNat ≠ 76 := fun e => hc (UInt8.toNat_inj.1 (by rw [e]; rfl))
       simp; omega
     have g4 : ((c.toNat : Int) != 76) = true := by simp [bne, g3]
     have ht : turnB (c :: l) = none := by simp [turnB, hc]
     rw [ht]
     clear ht hd hlen
     go_enter Tryz.func129, Tryz.ntmps129
     go_wp2_with fail
     go_ret
     exact ⟨rfl, Below.refl _ _⟩
end Wal
end Go.Proofs.YtkgbemkcnahkoaaGreatDoor
namespace Go.Proofs.YtkgbemkcnahkoaaGreatDoor
open Go.RowKit
namespace Wal
open Cod (uB uB_ten num)
open Crc (S S_of S_size S_append S_add hidm four more put)
open Dsk (infoS)
theorem un_len {s b : List UInt8} (h : un s = some b) : b.length ≤ 123 := by
 cases s with
 | nil => cases h
 | cons c t =>
   simp only [un] at h
   by_cases h1 : 123 < c.toNat ∨ t.length < c.toNat + 4
   · rw [if_pos h1] at h; cases h
   · rw [if_neg h1] at h
     by_cases h2 : Crc.good (t.take (c.toNat + 4)) = true
     · rw [if_pos h2] at h; cases h; rw [List.length_take]; omega
     · rw [if_neg h2] at h; cases h
theorem num_rest {l t : List UInt8} {n : Nat} (h : num 0 0 l = .ok (n, t)) : t.length ≤ l.length := by
 obtain ⟨m, e, _⟩ := Cod.num_ok l 0 0 n t (by omega) h
 rw [e]; simp
theorem num_drop {q : ByteArray} {l t : List UInt8} {n : Nat} (hq : q.data.toList = l) (h : num 0 0 l = .ok (n, t)) : q.data.toList.drop (q.size - t.length) = t := by
 obtain ⟨m, e, _⟩ := Cod.num_ok l 0 0 n t (by omega) h
 exact Cod.drop_tail (p := 0) (pre := Cod.uB m) (by rw [List.drop_zero, hq, e])
theorem slotB_one {l : List UInt8} {x : Nat} (h : num 0 0 l = .error x) : slotB l = (0, 0) := by unfold slotB; rw [h]
theorem slotB_two {l t : List UInt8} {n x : Nat} (h : num 0 0 l = .ok (n, t)) (h2 : num 0 0 t = .error x) : slotB l = (0, 0) := by unfold slotB; rw [h]; simp only; rw [h2]
theorem slotB_all {l t t2 : List UInt8} {n k : Nat} (h : num 0 0 l = .ok (n, t)) (h2 : num 0 0 t = .ok (k, t2)) : slotB l = if t2 = [] ∧ n ≤ 1099511627776 ∧ k ≤ n then (n, k) else (0, 0) := by unfold slotB; rw [h]; simp only; rw [h2]
set_option maxHeartbeats 4000000 in
set_option maxRecDepth 100000 in
theorem rtells_any (s : ByteArray) (hs : s.size ≤ 1000) (w : World) :
   Calls Tryz.prog 83 #[.string s] w fun e w' => e = .returned (.tuple #[.int .i64 ((slotP s.data.toList).1 : Int), .int .i64 ((slotP s.data.toList).2 : Int)]) ∧ Below w.heap.size w w' := by
 have US := hidm (runseal_any s (by omega) w)
 obtain ⟨z, hz⟩ : ∃ z, z = slotP s.data.toList := ⟨_, rfl⟩
 rw [← hz]
 have HZ := hidm hz
 clear hz
 obtain ⟨o, ho⟩ : ∃ o, o = un s.data.toList := ⟨_, rfl⟩
 rw [← ho] at US
 have HO := hidm ho
 cases o with
 | none =>
   have HZ2 := hidm (show z = (0, 0) from by rw [HZ.out]; unfold slotP mk; rw [← ho])
   clear ho HZ
   go_enter Tryz.func83, Tryz.ntmps83
   go_wp2_with fail
   refine US.out.mono ?_
   rintro e w1 ⟨rfl, hb1⟩
   have HB1 := hidm hb1
   clear hb1 US
   go_wp2_with fail
   go_ret2
   exact ⟨by rw [HZ2.out]; rfl, HB1.out⟩
 | some b =>
   have hbl := un_len ho.symm
   have US2 : Hid (Calls Tryz.prog 127 #[.string s] w fun e w' => e = .returned (.tuple #[.string (S b), .bool true]) ∧ Below w.heap.size w w') := US
   clear US
   cases b with
   | nil =>
     have HZ2 := hidm (show z = (0, 0) from by rw [HZ.out]; unfold slotP mk; rw [← ho])
     have g1 : ((S []).toList == []) = true := by rw [ByteArray.toList_eq]; rfl
     obtain ⟨y, hy⟩ : ∃ y, y = S [] := ⟨_, rfl⟩
     rw [← hy] at US2 g1
     clear ho HZ hy
     go_enter Tryz.func83, Tryz.ntmps83
     go_wp2_with fail
     refine US2.out.mono ?_
     rintro e w1 ⟨rfl, hb1⟩
     have HB1 := hidm hb1
     clear hb1 US2
     go_wp2_with fail
     go_ret2
     exact ⟨by rw [HZ2.out]; rfl, HB1.out⟩
   | cons c l =>
     obtain ⟨y, hy⟩ : ∃ y, y = S (c :: l) := ⟨_, rfl⟩
     rw [← hy] at US2
     have hys : y.size = l.length + 1 := by rw [hy, S_size]; rfl
     have hll : l.length ≤ 122 := by simp at hbl; omega
     have g1 : (y.toList == []) = false := by rw [ByteArray.toList_eq, hy]; rfl
     have g2 : (0 : Int) < (y.size : Int) := by omega
     have hpos : 0 < y.size := by omega
     have hc0 : y[0]'hpos = c := by
       have h0 : y.data.toList[0]'(by rw [hy]; simp) = c := by simp [hy]
       exact h0
     by_cases hc : c = 83
     · subst hc
       have HZ2 := hidm (show z = slotB l from by rw [HZ.out]; unfold slotP mk; rw [← ho]; simp)
       have hx : y.extract 1 y.size = S l := by
         have := Cod.cut_bytes y 1 l.length
         rw [show 1 + l.length = y.size by omega] at this
         rw [this, hy]
         simp
       obtain ⟨q, hq⟩ : ∃ q, q = y.extract 1 y.size := ⟨_, rfl⟩
       have hql : q.data.toList = l := by rw [hq, hx]
       have hqs : q.size = l.length := by rw [hq, hx, S_size]
       have hq9 : q.size ≤ 122 := by omega
       have HQ := hidm hql
       have HQS := hidm hqs
       have hq2 := hq.symm
       have g3 : ¬ (y.size : Int) < 1 := by omega
       have g4 : (y.size : Int) ≤ 1000 := by omega
       clear hq hx hql hqs hy hys hll hbl ho HZ
       go_enter Tryz.func83, Tryz.ntmps83
       go_wp2_with fail
       refine US2.out.mono ?_
       rintro e w1 ⟨rfl, hb1⟩
       have HB1 := hidm hb1
       clear hb1 US2
       go_wp2_with fail
       refine (Rr.new_any q _).mono ?_
       rintro e w2 ⟨r, hr, rfl, h2, hb2⟩
       have HB2 := hidm (HB1.out.trans (hb2.mono HB1.out.size))
       have HR := hidm (show w.heap.size ≤ r from Nat.le_trans HB1.out.size hr)
       have U := hidm (Rr.uint_call r q 0 w2 h2 (by omega) (by omega))
       rw [List.drop_zero, HQ.out] at U
       clear h2 hb2 hr
       go_wp2_with fail
       refine U.out.mono ?_
       intro e w3 hu
       unfold Rr.Does at hu
       rcases hnum : num 0 0 l with x | ⟨n, t⟩
       · rw [hnum] at hu
         obtain ⟨rfl, h3, hbu⟩ := hu
         have hx0 : ((x : Int) != 0) = true := by have := Cod.num_err _ _ _ _ hnum; simp; omega
         have HB3 := hidm (HB2.out.trans (hbu.below HR.out HB2.out.size))
         have HZ3 := hidm (show z = (0, 0) from by rw [HZ2.out]; exact slotB_one hnum)
         have U2 := hidm (Rr.uint_stay r q 0 x hx0 w3 h3)
         clear hbu h3 U hnum HB2 HZ2
         go_wp2_with fail
         refine U2.out.mono ?_
         rintro e w4 ⟨rfl, h4, hbu⟩
         have k4 := h4.c2
         have HB4 := hidm (HB3.out.trans (hbu.below HR.out HB3.out.size))
         clear hbu h4 U2 HB3
         go_wp2_with fail
         go_ret2
         exact ⟨by rw [HZ3.out]; rfl, HB4.out⟩
       · rw [hnum] at hu
         obtain ⟨v, rfl, hv, h3, hbu⟩ := hu
         have hv2 : v = .int .u64 (n : Int) := hv
         subst hv2
         have htl := num_rest hnum
         have hdrop := num_drop HQ.out hnum
         have HB3 := hidm (HB2.out.trans (hbu.below HR.out HB2.out.size))
         have U2 := hidm (Rr.uint_call r q (q.size - t.length) w3 h3 (by omega) (by omega))
         rw [hdrop] at U2
         clear hbu h3 U HB2 hv
         go_wp2_with fail
         refine U2.out.mono ?_
         intro e w4 hu
         unfold Rr.Does at hu
         rcases hnum2 : num 0 0 t with x | ⟨k, t2⟩
         · rw [hnum2] at hu
           obtain ⟨rfl, h4, hbu⟩ := hu
           have hx0 : ((x : Int) != 0) = true := by have := Cod.num_err _ _ _ _ hnum2; simp; omega
           have k4 := h4.c2
           have HB4 := hidm (HB3.out.trans (hbu.below HR.out HB3.out.size))
           have HZ3 := hidm (show z = (0, 0) from by rw [HZ2.out]; exact slotB_two hnum hnum2)
           clear hbu h4 U2 HB3 hnum hnum2 HZ2 hdrop
           go_wp2_with fail
           go_ret2
           exact ⟨by rw [HZ3.out]; rfl, HB4.out⟩
         · rw [hnum2] at hu
           obtain ⟨v, rfl, hv, h4, hbu⟩ := hu
           have hv2 : v = .int .u64 (k : Int) := hv
           subst hv2
           have ht2 := num_rest hnum2
           have k4 := h4.c2
           have HB4 := hidm (HB3.out.trans (hbu.below HR.out HB3.out.size))
           have HZ3 := hidm (show z = if t2 = [] ∧ n ≤ 1099511627776 ∧ k ≤ n then (n, k) else (0, 0) from by rw [HZ2.out]; exact slotB_all hnum hnum2)
           have L2 := hidm (Rr.left_any r q (q.size - t2.length) 0 w4 h4 (by omega) (by omega))
           rw [show q.size - (q.size - t2.length) = t2.length by have := HQS.out; omega] at L2
           clear hbu h4 U2 HB3 hnum hnum2 HZ2 hdrop hv htl
           go_wp2_with fail
           refine L2.out.mono ?_
           rintro e w5 ⟨rfl, hb5⟩
           have HB5 := hidm (HB4.out.trans (hb5.mono HB4.out.size))
           clear hb5 L2 HB4 k4
           by_cases ht0 : t2 = []
           · have l0 : ((t2.length : Int) != 0) = false := by rw [ht0]; simp
             by_cases hn : n ≤ 1099511627776
             · have n1 : ¬ (1099511627776 : Int) < (n : Int) := by omega
               by_cases hk : k ≤ n
               · have n2 : ¬ (n : Int) < (k : Int) := by omega
                 have n3 : IntKind.i64.wrap (n : Int) = (n : Int) := by simp only [IntKind.wrap_i64]; omega
                 have n4 : IntKind.i64.wrap (k : Int) = (k : Int) := by simp only [IntKind.wrap_i64]; omega
                 have HZ4 := hidm (show z = (n, k) from by rw [HZ3.out, if_pos ⟨ht0, hn, hk⟩])
                 clear HZ3
                 go_wp2_with fail
                 go_ret2
                 exact ⟨by rw [HZ4.out]; rfl, HB5.out⟩
               · have n2 : (n : Int) < (k : Int) := by omega
                 have HZ4 := hidm (show z = (0, 0) from by rw [HZ3.out, if_neg (fun h => hk h.2.2)])
                 clear HZ3
                 go_wp2_with fail
                 go_ret2
                 exact ⟨by rw [HZ4.out]; rfl, HB5.out⟩
             · have n1 : (1099511627776 : Int) < (n : Int) := by omega
               have HZ4 := hidm (show z = (0, 0) from by rw [HZ3.out, if_neg (fun h => hn h.2.1)])
               clear HZ3
               go_wp2_with fail
               go_ret2
               exact ⟨by rw [HZ4.out]; rfl, HB5.out⟩
           · have l0 : ((t2.length : Int) != 0) = true := by
               have : t2.length ≠ 0 := fun e => ht0 (List.eq_nil_of_length_eq_zero e)
               simp; omega
             have HZ4 := hidm (show z = (0, 0) from by rw [HZ3.out, if_neg (fun h => ht0 h.1)])
             clear HZ3
             go_wp2_with fail
             go_ret2
             exact ⟨by rw [HZ4.out]; rfl, HB5.out⟩
     · have g3 : ((c.toNat : Int) == 83) = false := by
         have : c.toNat ≠ 83 := fun e => hc (UInt8.toNat_inj.1 (by rw [e]; rfl))
         simp; omega
       have g4 : ((c.toNat : Int) != 83) = true := by simp [bne, g3]
       have HZ2 := hidm (show z = (0, 0) from by rw [HZ.out]; unfold slotP mk; rw [← ho]; simp [hc])
       clear ho HZ hy hys hll hbl
       go_enter Tryz.func83, Tryz.ntmps83
       go_wp2_with fail
       refine US2.out.mono ?_
       rintro e w1 ⟨rfl, hb1⟩
       have HB1 := hidm hb1
       clear hb1 US2
       go_wp2_with fail
       go_ret2
       exact ⟨by rw [HZ2.out]; rfl, HB1.out⟩
def partL (s : List UInt8) (j : Nat) : List UInt8 := (s.drop (100 * j)).take 100
def partsL (s : List UInt8) (n : Nat) : List (List UInt8) := (List.range n).map (partL s)
theorem partsL_succ (s : List UInt8) (n : Nat) : partsL s (n + 1) = partsL s n ++ [partL s n] := by simp [partsL, List.range_succ]
theorem partsL_len (s : List UInt8) (n : Nat) : (partsL s n).length = n := by simp [partsL]
def rowLen : Value → Nat
 | .slice _ k _ => k
 | _ => 0
set_option maxHeartbeats 4000000 in
set_option maxRecDepth 100000 in
theorem rparts_any (s : ByteArray) (hs : s.size ≤ 100000) (w : World) :
   Calls Tryz.prog 172 #[.string s] w fun e w' => ∃ x, e = .returned x ∧ Dsk.StrsAt w.heap.size (partsL s.data.toList (np s.data.toList)) x w' ∧ Below w.heap.size w w' := by
 obtain ⟨i0, hi0, hz0, hz1, hz2⟩ := info_parts infoS
 obtain ⟨l, hl⟩ : ∃ l, l = s.data.toList := ⟨_, rfl⟩
 rw [← hl]
 obtain ⟨sz, hsz⟩ : ∃ n, n = l.length := ⟨_, rfl⟩
 have hsl : s.size = sz := by rw [hsz, hl, len_eq]
 have HSZ := hidm hsz
 have hs0 : s = S (l.drop (100 * 0)) := by rw [hl, Nat.mul_zero, List.drop_zero, S_of]
 have HS0 := hidm hs0
 have hs9 : sz ≤ 100000 := by omega
 clear hsz hs0 hl hsl hs
 go_enter Tryz.func172, Tryz.ntmps172
 go_wp2_with fail
 go_loopw [3, 4] (fun oo tt wx => ∃ (j : Nat) (vo : Option Addr) (vc : Nat), oo = .slice vo j vc ∧ tt = .string (S (l.drop (100 * j))) ∧ (100 * j ≤ sz) ∧ Hid (0 < j → 100 * j < sz) ∧ Hid (wx.ownsRow w.heap.size 9 1 (.slice vo j vc) j (Dsk.strs (partsL l j))) ∧ Hid (Below w.heap.size w wx)) (fun oo _ _ => (sz - rowLen oo))
 case atStart => exact ⟨0, none, 0, rfl, by rw [← HS0.out], by omega, hidm (fun h => by omega), hidm (World.ownsRow_nil _ _ _ _), hidm (Below.refl _ _)⟩
 case round =>
   rename World => wx
   obtain ⟨j, vo, vc, rfl, rfl, hj, HJ0, HO, HBX⟩ := hrel
   obtain ⟨tx, htx⟩ : ∃ tx, tx = S (l.drop (100 * j)) := ⟨_, rfl⟩
   rw [← htx]
   have htl : tx.size = sz - 100 * j := by rw [htx, S_size, List.length_drop, ← HSZ.out]
   have htd : tx.data.toList = l.drop (100 * j) := by rw [htx]
   have HTD := hidm htd
   have HTX := hidm htx
   clear htx htd
   by_cases hlt : 100 < tx.size
   · have g1 : (100 : Int) < (tx.size : Int) := by omega
     have g2 : ¬ (tx.size : Int) < 100 := by omega
     obtain ⟨pt, hpt⟩ : ∃ q, q = tx.extract 0 100 := ⟨_, rfl⟩
     obtain ⟨rt, hrt⟩ : ∃ q, q = tx.extract 100 tx.size := ⟨_, rfl⟩
     have HPT := hidm (show pt = S (partL l j) from by
       have := Cod.cut_bytes tx 0 100
       rw [Nat.zero_add] at this
       rw [hpt, this, HTD.out, List.drop_zero]; rfl)
     have HRT := hidm (show rt = S (l.drop (100 * (j + 1))) from by
       have := Cod.cut_bytes tx 100 (tx.size - 100)
       rw [show 100 + (tx.size - 100) = tx.size by omega] at this
       rw [hrt, this, HTD.out, List.drop_drop, List.take_of_length_le (by rw [List.length_drop, ← HSZ.out]; omega)]
       congr 2)
     have hp2 := hpt.symm
     have hr2 := hrt.symm
     have HST := hidm (show Dsk.strs (partsL l (j + 1)) = Dsk.strs (partsL l j) ++ [.string pt] from by rw [partsL_succ, Dsk.strs_snoc, HPT.out])
     have HJ1 := hidm (show 100 * (j + 1) ≤ sz ∧ 100 * (j + 1) < sz ∧ j < sz from by omega)
     have hj9 : j ≤ 1000 := by omega
     clear hpt hrt hlt htl hj HJ0
     go_wp2_with (at_builtin; refine wpList_append_own _ rfl _ _ 57 rfl w.heap.size 9 i0 (.string ⟨#[]⟩) 1 16 Tryz.underlying57 hi0 hz0 hz1 hz2 rfl (by decide) _ _ _ rfl (Dsk.owns_later HO.out ((Below.refl _ _).alloc (Nat.le_refl _) _)) ⟨wx.heap.size, 0, none⟩ 1 1 [.string pt] rfl rfl ?CA ?CB ?CC ?CD ?CE ?_)
     case CB => rfl
     case CC => unfold maxLen; omega
     case CD => omega
     case CE => have := HBX.out.size; first | omega | (simp; omega)
     intro v' w2 hown hgrow _
     rw [← HST.out] at hown
     obtain ⟨wo, wc, hvv⟩ : ∃ so sc, v' = .slice so (j + 1) sc := by
       rcases hown.2 with ⟨hv, h0⟩ | ⟨g', c', cur, hv, _⟩
       · exact absurd h0 (by omega)
       · exact ⟨_, _, hv⟩
     subst hvv
     have HO2 := hidm hown
     have HBZ := hidm ((HBX.out.alloc HBX.out.size (.cells #[.string pt] 9)).grown hgrow (by have := HBX.out.size; simp; omega) (fun q hq => (HO.out.lt q hq).1))
     clear hown hgrow
     go_wp2_with fail
     go_roundw
     case rel => exact ⟨j + 1, wo, wc, rfl, by rw [HRT.out], HJ1.out.1, hidm (fun _ => HJ1.out.2.1), HO2, HBZ⟩
     case measure => have := HJ1.out; simp [rowLen]; omega
   · have g1 : ¬ (100 : Int) < (tx.size : Int) := by omega
     have HST := hidm (show Dsk.strs (partsL l (j + 1)) = Dsk.strs (partsL l j) ++ [.string tx] from by
       rw [partsL_succ, Dsk.strs_snoc]
       congr 3
       rw [HTX.out]
       unfold partL
       rw [List.take_of_length_le (by rw [List.length_drop, ← HSZ.out]; omega)])
     have HNP := hidm (show np l = j + 1 from by
       unfold np
       rw [← HSZ.out]
       have := HJ0.out
       omega)
     have hj9 : j ≤ 1000 := by omega
     clear hlt htl hj HJ0
     go_wp2_with (at_builtin; refine wpList_append_own _ rfl _ _ 57 rfl w.heap.size 9 i0 (.string ⟨#[]⟩) 1 16 Tryz.underlying57 hi0 hz0 hz1 hz2 rfl (by decide) _ _ _ rfl (Dsk.owns_later HO.out ((Below.refl _ _).alloc (Nat.le_refl _) _)) ⟨wx.heap.size, 0, none⟩ 1 1 [.string tx] rfl rfl ?EA ?EB ?EC ?ED ?EE ?_)
     case EB => rfl
     case EC => unfold maxLen; omega
     case ED => omega
     case EE => have := HBX.out.size; first | omega | (simp; omega)
     intro v' w2 hown hgrow _
     rw [← HST.out] at hown
     obtain ⟨wo, wc, hvv⟩ : ∃ so sc, v' = .slice so (j + 1) sc := by
       rcases hown.2 with ⟨hv, h0⟩ | ⟨g', c', cur, hv, _⟩
       · exact absurd h0 (by omega)
       · exact ⟨_, _, hv⟩
     subst hvv
     have HO2 := hidm hown
     have HBZ := hidm ((HBX.out.alloc HBX.out.size (.cells #[.string tx] 9)).grown hgrow (by have := HBX.out.size; simp; omega) (fun q hq => (HO.out.lt q hq).1))
     clear hown hgrow
     go_wp2_with fail
     go_ret
     refine ⟨_, rfl, ?_, HBZ.out⟩
     unfold Dsk.StrsAt
     rw [HNP.out, partsL_len]
     exact HO2.out
end Wal
end Go.Proofs.YtkgbemkcnahkoaaGreatDoor
