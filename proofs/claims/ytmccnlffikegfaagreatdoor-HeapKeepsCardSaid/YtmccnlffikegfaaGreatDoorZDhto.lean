/- Flush, Dirty. Conditions: as each says. -/
import Derived.Test.YtmccnlffikegfaaGreatDoorZDg
import Derived.Maps.AppendAt
import Derived.RangeFuncNested
import Derived.RangeFuncBound
import Derived.RangeFuncCalls
import Derived.RangeFuncLeaves
import Derived.OwnWalkIn
import Derived.TacticsInMore
import Derived.LoopNIn
import Derived.LoopIn
namespace Go.Proofs.YtmccnlffikegfaaGreatDoor
open Go.RowKit
namespace Dsk
theorem DiskAt.emptied {D : Nat} {d : PD} {M : Nat} {ao : Option Addr} {cap : Nat} {T : Nat → Prop} {w : World} (h : DiskAt D d M ao cap T w) : DiskAt D { d with cs := [] } M none 0 T (w.setCell ⟨D, 3, none⟩ (.slice none 0 0)) := by
  obtain ⟨o1, o2, o3, o4, o5, o6⟩ := h.ok
  refine ⟨?_, map_set h.row h.map 3 _, own_set h.row (World.ownsRow_nil _ _ _ _) 3 _, h.tD, h.tM, fun p hp => (nomatch hp), fun k hk => by simpa using h.lt k hk, ⟨o1, fun x hx => (nomatch hx), Nat.zero_le _, o4, o5, o6⟩⟩
  rw [row_set h.row]; rfl
set_option maxHeartbeats 1000000 in
theorem flush_none (p : Option Addr) (w : World) (h : NotGiven p w) : Calls Tryz.prog 99 #[.pointer p] w fun e w' => e = .returned (.int .i64 13) ∧ Below w.heap.size w w' := by
  have G := hidm (given_no p w h)
  go_enter Tryz.func99, Tryz.ntmps99
  go_wp2_with fail
  refine G.out.mono ?_
  rintro e w1 ⟨rfl, rfl⟩
  go_wp2_with fail
  go_ret
  exact ⟨rfl, Below.refl _ _⟩
set_option maxHeartbeats 1000000 in
theorem flush_burnt {D : Nat} {d : PD} {T : Nat → Prop} (w : World) (h : DiskIs D d T w) (hb : d.burnt = true) :
    Calls Tryz.prog 99 #[.pointer (some ⟨D, 0, none⟩)] w fun e w' => e = .returned (.int .i64 6) ∧ Below w.heap.size w w' := by
  obtain ⟨M, ao, cap, hA⟩ := h
  have G := hidm (given_yes D w hA.c0)
  have B := hidm (burnt_any D d.fu d.lf w hA.c6 hA.c7)
  go_enter Tryz.func99, Tryz.ntmps99
  go_wp2_with fail
  refine G.out.mono ?_
  rintro e w1 ⟨rfl, rfl⟩
  go_wp2_with fail
  refine B.out.mono ?_
  rintro e w1 ⟨rfl, rfl⟩
  rw [show (d.fu && d.lf == 0) = true from hb]
  go_wp2_with fail
  go_ret
  exact ⟨rfl, Below.refl _ _⟩
def PD.flush (d : PD) : PD := { d with cs := [], fl := d.fl + 1 }
theorem burnt_lf {d : PD} (hb : d.burnt = false) : d.fu = true → 1 ≤ d.lf := fun h => by
  unfold PD.burnt at hb
  rw [h] at hb
  have : d.lf ≠ 0 := by simpa using hb
  omega
set_option maxHeartbeats 1000000 in
theorem flush_on {D : Nat} {d : PD} {T : Nat → Prop} (w : World) (h : DiskIs D d T w) (hb : d.burnt = false) (hf : d.fl < 1000000) :
    Calls Tryz.prog 99 #[.pointer (some ⟨D, 0, none⟩)] w fun e w' => e = .returned (.int .i64 0) ∧ DiskIs D d.flush.burn T w' ∧ Only T w w' := by
  obtain ⟨M, ao, cap, hA⟩ := h
  have HA := hidm hA
  have G := hidm (given_yes D w hA.c0)
  have B := hidm (burnt_any D d.fu d.lf w hA.c6 hA.c7)
  have c3 := hA.c3
  have c5 := hA.c5
  have z3 := hA.z 3
  have z5 := hA.z 5
  have HBN := hidm (burnt_lf hb)
  have f4 : wrap64 ((d.fl : Int) + 1) = ((d.fl + 1 : Nat) : Int) := by unfold wrap64; omega
  obtain ⟨o1, o2, o3, o4, o5, o6⟩ := hA.ok
  clear hA
  go_enter Tryz.func99, Tryz.ntmps99
  go_wp2_with fail
  refine G.out.mono ?_
  rintro e w1 ⟨rfl, rfl⟩
  go_wp2_with fail
  refine B.out.mono ?_
  rintro e w1 ⟨rfl, rfl⟩
  rw [show (d.fu && d.lf == 0) = false from hb]
  go_wp2_with fail
  refine (burn_any (D := D) (d := d.flush) (T := T) _ ?b1 HBN.out).mono ?_
  case b1 => exact ⟨M, _, 0, HA.out.emptied.put 5 (.int .i64 ((d.fl + 1 : Nat) : Int)) d.flush rfl rfl rfl ⟨o1, fun x hx => (nomatch hx), Nat.zero_le _, o4, by show d.fl + 1 ≤ _; omega, o6⟩⟩
  rintro e w10 ⟨rfl, hd10, ho10⟩
  have HD10 := hidm hd10
  have HO10 := hidm ho10
  clear hd10 ho10
  go_wp2_with fail
  go_ret
  exact ⟨rfl, HD10.out, (((Only.refl _ _).set (.inl HA.out.tD) _).set (.inl HA.out.tD) _).trans HO10.out (fun q hq => .inl hq)⟩
/-! ### The cache, write by write -/
theorem flatW_at : ∀ (l : List Wt), (∀ x ∈ l, x.ok) → ∀ (i : Nat) (h : i < l.length) (j : Nat), j < 257 → (flatW l)[i * 257 + j]? = (l[i]).cells[j]?
  | [], _, i, h, _, _ => absurd h (by simp)
  | x :: l, ho, 0, _, j, hj => by
    have hx := Wt.cells_len (ho x (List.mem_cons_self ..))
    show (x.cells ++ flatW l)[0 * 257 + j]? = x.cells[j]?
    rw [Nat.zero_mul, Nat.zero_add, List.getElem?_append_left (by omega)]
  | x :: l, ho, i + 1, h, j, hj => by
    have hx := Wt.cells_len (ho x (List.mem_cons_self ..))
    show (x.cells ++ flatW l)[(i + 1) * 257 + j]? = _
    rw [List.getElem?_append_right (by omega), hx, show (i + 1) * 257 + j - 257 = i * 257 + j by omega, flatW_at l (fun y hy => ho y (List.mem_cons_of_mem _ hy)) i (by simpa using h) j hj]
    rfl
theorem DiskAt.at {D : Nat} {d : PD} {M : Nat} {ao : Option Addr} {cap : Nat} {T : Nat → Prop} {w : World} (h : DiskAt D d M ao cap T w) (hne : d.cs ≠ []) :
    ∃ g, ao = some ⟨g, 0, none⟩ ∧ T g ∧ g < w.heap.size ∧ d.cs.length ≤ cap ∧ cap ≤ 9223372036854775807 ∧ ∀ i (hi : i < d.cs.length), w.rangeAt g (i * 257) (d.cs[i]).val.toList := by
  rcases h.own.2 with ⟨_, h0⟩ | ⟨g, c, cur, hv, _, hh, hnc, hcm, hsz, htk⟩
  · exact absurd (List.eq_nil_of_length_eq_zero h0) hne
  · simp only [Value.slice.injEq, true_and] at hv
    obtain ⟨rfl, rfl⟩ := hv
    refine ⟨g, rfl, h.tC _ rfl, lt_of_block hh, hnc, by unfold maxLen at hcm; omega, fun i hi j v hj => ?_⟩
    have hok := h.ok.2.1
    have hxo : (d.cs[i]).cells.length = 257 := Wt.cells_len (hok _ (List.getElem_mem hi))
    have hv2 : (d.cs[i]).cells[j]? = some v := hj
    have hj2 : j < 257 := by
      have := (List.getElem?_eq_some_iff.1 hv2).1
      omega
    rw [cell_of_row _ _ _ _ _ (0, 0) hh]
    have h1 := flatW_at d.cs hok i hi j hj2
    rw [← htk, List.getElem?_take_of_lt (by have : i * 257 + 257 ≤ d.cs.length * 257 := by { have := Nat.mul_le_mul_right 257 (show i + 1 ≤ d.cs.length from hi); omega }; omega)] at h1
    rw [hv2] at h1
    simpa using h1
end Dsk
end Go.Proofs.YtmccnlffikegfaaGreatDoor
/- Dirty. Conditions: as each says. -/
namespace Go.Proofs.YtmccnlffikegfaaGreatDoor
open Go.RowKit
namespace Dsk
def ints (l : List Nat) : List Value := l.map fun (n : Nat) => Value.int .i64 (n : Int)
/-- The slice v holds these numbers, in blocks from base on. -/
def IntsAt (base : Nat) (l : List Nat) (v : Value) (w : World) : Prop := w.ownsRow base 3 1 v l.length (ints l)
theorem IntsAt.later {base : Nat} {l : List Nat} {v : Value} {w w' : World} (h : IntsAt base l v w) (hb : Below w.heap.size w w') : IntsAt base l v w' := owns_later h hb
theorem IntsAt.form {base : Nat} {l : List Nat} {v : Value} {w : World} (h : IntsAt base l v w) : ∃ ao cap, v = .slice ao l.length cap ∧ l.length ≤ cap ∧ cap ≤ 9223372036854775807 := by
  rcases h.2 with ⟨h1, h2⟩ | ⟨g, c, cur, hv, _, _, hnc, hcm, _⟩
  · exact ⟨none, 0, by rw [h1, h2], by omega, by omega⟩
  · exact ⟨_, c, hv, hnc, by unfold maxLen at hcm; omega⟩
theorem IntsAt.at {base : Nat} {l : List Nat} {v : Value} {w : World} (h : IntsAt base l v w) (i : Nat) (hi : i < l.length) : ∃ g cap, v = .slice (some ⟨g, 0, none⟩) l.length cap ∧ g < w.heap.size ∧ w.cell? ⟨g, i, none⟩ = some (.int .i64 (l[i] : Int)) := by
  rcases h.2 with ⟨_, h2⟩ | ⟨g, c, cur, hv, _, hh, hnc, hcm, hsz, htk⟩
  · omega
  · refine ⟨g, c, hv, lt_of_block hh, ?_⟩
    rw [cell_of_row _ _ _ _ _ (0, 0) hh]
    have h1 : (ints l)[i]? = some (.int .i64 (l[i] : Int)) := by unfold ints; simp [hi]
    rw [← htk, List.getElem?_take_of_lt (by omega)] at h1
    simpa using h1
theorem infoI : (Tryz.prog.info? 3).map (fun i => (i.zero, i.size, i.bytes)) = some (some (.int .i64 0), 1, 8) := by kernel_rfl
def PD.dirty (d : PD) : List Nat := d.cs.map (·.pos)
theorem dirty_len (d : PD) : d.dirty.length = d.cs.length := by simp [PD.dirty]
theorem ints_snoc (l : List Nat) (n : Nat) : ints (l ++ [n]) = ints l ++ [.int .i64 (n : Int)] := by simp [ints]
end Dsk
end Go.Proofs.YtmccnlffikegfaaGreatDoor
/- The cache backwards: slices.Backward and its iterator. Conditions: as each says. -/
namespace Go.Proofs.YtmccnlffikegfaaGreatDoor
open Go.RowKit
attribute [local go_sem] Oper.semAt_some
namespace Dsk
theorem wpListIn_load_mid {F : Fence} {n : Nat} {P : Program} {ops : Array Oper} {rest : List Oper} {op : Oper} {a : Act} {w : World} {Q : Exit → Act → World → Prop} (hgd : op.guard = none) (ty : TypeId) (x : Operand) (ho : op.op = .load ty x)
    (b o : Nat) (hx : a.eval x = .pointer (some ⟨b, o, none⟩)) (cs : List Value) (d : TypeDesc) (hc : w.rangeAt b o cs)
    (hu : P.underlying ty = some d) (hd : d.isRow = true) (hi : (P.info? ty).map (·.size) = some cs.length)
    (h : wpListIn F n P ops Q rest (a.put op.dst (.agg cs.toArray)) w) : wpListIn F n P ops Q (op :: rest) a w := by
  refine wpListIn_plain hgd fun K hK' => ?_
  unfold Oper.wpIn
  refine ⟨?_, ?_⟩
  · simp [Oper.about, ho]
  · rw [Oper.semAt_plain F _ _ (by rw [ho]; intro c hc'; cases hc')]
    unfold execOp
    simp only [ho, hx, Instr.loadAt, Instr.sureAddr, Sem.run_bind, Sem.run_pure, Result.andThen_ok, run_loadVar_mid w b o ty cs d hc hu hd hi]
    exact hK' _ _ h
theorem wpListIn_store_new {F : Fence} {n : Nat} {P : Program} {ops : Array Oper} {rest : List Oper} {op : Oper} {a : Act} {Q : Exit → Act → World → Prop} (hgd : op.guard = none) (ty : TypeId) (x y : Operand) (ho : op.op = .store ty x y)
    (w0 : World) (old cells : Array Value) (hx : a.eval x = .pointer (some ⟨w0.heap.size, 0, none⟩)) (hy : a.eval y = .agg cells)
    (hi : (P.info? ty).map (·.size) = some cells.size) (hold : old.size = cells.size) (h1 : cells.all (·.oneCell') = true)
    (h : wpListIn F n P ops Q rest (a.put op.dst undef) (w0.alloc (.cells cells ty))) : wpListIn F n P ops Q (op :: rest) a (w0.alloc (.cells old ty)) := by
  refine wpListIn_plain hgd fun K hK' => ?_
  unfold Oper.wpIn
  refine ⟨?_, ?_⟩
  · simp [Oper.about, ho]
  · rw [Oper.semAt_plain F _ _ (by rw [ho]; intro c hc'; cases hc')]
    unfold execOp
    simp only [ho, hx, hy, Sem.run_bind, run_storeAt_new (P := P) w0 ty old cells hi hold h1, Result.andThen_ok]
    exact hK' _ _ h
abbrev Ent := { x : Nat × Wt // x.2.ok }
def enc (x : Ent) : Array Value := #[.int .i64 (x.1.1 : Int), .agg x.1.2.val]
def dfl : Ent := ⟨(0, ⟨0, zeros, zeros⟩), zeros_len, zeros_len⟩
/-- The write number i, with its number. -/
def ent (cs : List Wt) (hok : ∀ x ∈ cs, x.ok) (i : Nat) : Ent := if h : i < cs.length then ⟨(i, cs[i]), hok _ (List.getElem_mem h)⟩ else dfl
theorem ent_eq {cs : List Wt} {hok : ∀ x ∈ cs, x.ok} {i : Nat} (h : i < cs.length) : ent cs hok i = ⟨(i, cs[i]), hok _ (List.getElem_mem h)⟩ := by simp [ent, h]
/-- What has come when k rounds are over: the last k writes, the last one first. -/
def back (cs : List Wt) (hok : ∀ x ∈ cs, x.ok) (k : Nat) : List Ent := (List.range k).map fun j => ent cs hok (cs.length - 1 - j)
theorem back_succ (cs : List Wt) (hok : ∀ x ∈ cs, x.ok) (k : Nat) : back cs hok (k + 1) = back cs hok k ++ [ent cs hok (cs.length - 1 - k)] := by simp [back, List.range_succ]
theorem back_length (cs : List Wt) (hok : ∀ x ∈ cs, x.ok) (k : Nat) : (back cs hok k).length = k := by simp [back]
/-- The two blocks that the iterator reads stay. -/
def Kp2 (b1 : Nat) (g : Option Nat) (W W' : World) : Prop := W'.heap[b1]? = W.heap[b1]? ∧ ∀ k, g = some k → W'.heap[k]? = W.heap[k]?
theorem Kp2.trans {b1 : Nat} {g : Option Nat} {A B C : World} (h : Kp2 b1 g A B) (k : Kp2 b1 g B C) : Kp2 b1 g A C := ⟨k.1.trans h.1, fun q hq => (k.2 q hq).trans (h.2 q hq)⟩
set_option maxHeartbeats 1000000 in
theorem backward_any (sl : Value) (ao : Option Addr) (n cap : Nat) (hsl : sl = .slice ao n cap) (w : World) :
    Calls Tryz.prog 49 #[sl] w fun e w' => e = .returned (.func (.func 81) #[] #[.pointer (some ⟨w.heap.size, 0, none⟩)]) ∧ w' = w.alloc (.cells #[sl] 88) := by
  subst hsl
  go_enter Tryz.func49, Tryz.ntmps49
  go_wp2_with fail
  go_ret
  exact ⟨rfl, rfl⟩
set_option maxHeartbeats 4000000 in
set_option maxRecDepth 100000 in
/-- The iterator: the writes, the last one first, for every loop body that keeps the two blocks. -/
theorem back_in (F : Fence) (n : Nat) (h7 : F.fn 81) (hro : F.round = none) (hn : 1 ≤ n) (l Bs : Nat) (ao : Option Addr) (cap : Nat) (cs : List Wt) (hok : ∀ x ∈ cs, x.ok) (hlen : cs.length ≤ 1000000) (J Jx : List Ent → World → Prop)
    (hY : ∀ pre x W, J pre W → pre.length < cs.length → YieldAt F (n - 1) Tryz.prog l (enc x) W fun e W' =>
      (e = .returned (.bool true) ∧ J (pre ++ [x]) W' ∧ Kp2 Bs (ao.map (·.block)) W W') ∨ (e = .returned (.bool false) ∧ Jx (pre ++ [x]) W'))
    (W : World) (hBs : W.cell? ⟨Bs, 0, none⟩ = some (.slice ao cs.length cap))
    (hc : cs ≠ [] → ∃ g, ao = some ⟨g, 0, none⟩ ∧ ∀ i (hi : i < cs.length), W.rangeAt g (i * 257) (cs[i]).val.toList) (h0 : J [] W) :
    CallsIn F n Tryz.prog 81 #[.func (.yield l) #[] #[], .pointer (some ⟨Bs, 0, none⟩)] W fun e W' => (∃ v, e = .returned v) ∧
      ((∃ ys, ys = back cs hok cs.length ∧ J ys W') ∨ (∃ pre, (∃ k, k ≤ cs.length ∧ pre = back cs hok k) ∧ Jx pre W')) := by
  obtain ⟨m, hm⟩ : ∃ m, m = cs.length := ⟨_, rfl⟩
  have HM := hidm hm
  rw [← hm] at hY hBs hlen ⊢
  have HC := hidm hc
  clear hm hc
  have f0 : wrap64 ((m : Int) - 1) = (m : Int) - 1 := by unfold wrap64; omega
  refine callsIn_of_wp Tryz.func81 rfl h7 ?_ hro
  simp only [Tryz.ntmps81, List.size_toArray, List.length_cons, List.length_nil, Nat.reduceAdd, Nat.reduceSub, Array.replicate_succ, Array.replicate_zero, List.push_toArray, List.append_toArray, List.nil_append, List.cons_append]
  gi_wp2
  gi_loopw [3] (fun i wr => ∃ k : Nat, k ≤ m ∧ i = .int .i64 ((m : Int) - 1 - k) ∧ Hid (J (back cs hok k) wr) ∧ Hid (Kp2 Bs (ao.map (·.block)) W wr))
    (fun i _ => (intOf i + 1).toNat)
  case atStart => exact ⟨0, Nat.zero_le _, by simp, hidm h0, hidm ⟨rfl, fun _ _ => rfl⟩⟩
  case round =>
    obtain ⟨k, hk, rfl, HJ, HK⟩ := hrel
    have hBr : wr.cell? ⟨Bs, 0, none⟩ = some (.slice ao m cap) := by rw [World.cell?_of_block (w := W) (a := ⟨Bs, 0, none⟩) HK.out.1]; exact hBs
    by_cases hlt : k < m
    · obtain ⟨q, hq⟩ : ∃ q, q = m - 1 - k := ⟨_, rfl⟩
      have hqi : (m : Int) - 1 - k = (q : Int) := by omega
      have hqm : q < cs.length := by have := HM.out; omega
      obtain ⟨g, hg, hrg⟩ := HC.out (fun e => by rw [e] at hqm; simp at hqm)
      subst hg
      have hr := rangeAt_keep (hrg q hqm) (HK.out.2 g rfl)
      obtain ⟨x, hx⟩ : ∃ x : Ent, x = ent cs hok q := ⟨_, rfl⟩
      have hxe : x.1 = (q, cs[q]) := by rw [hx, ent_eq hqm]
      have HXB := hidm (show back cs hok (k + 1) = back cs hok k ++ [x] from by rw [back_succ, ← HM.out, ← hq, ← hx])
      have hxv : cs[q] = x.1.2 := by rw [hxe]
      have hxq : x.1.1 = q := by rw [hxe]
      rw [hxv] at hr
      have hxo := x.2
      obtain ⟨fn, tmps, assign, body, hy, hR⟩ := hY _ x wr HJ.out (by rw [back_length]; exact hlt)
      unfold enc at hy
      rw [hxq] at hy
      obtain ⟨XV, hXV⟩ : ∃ XV, XV = x.1.2.val := ⟨_, rfl⟩
      rw [← hXV] at hr hy
      have hXs : XV.size = 257 := by rw [hXV]; exact Wt.val_size hxo
      have HXL := hidm (show (Tryz.prog.info? 102).map (·.size) = some XV.toList.length from by rw [Array.length_toList, hXs]; exact sizeW)
      have HR := hidm hr
      have f1 : wrap64 ((q : Int) - 1) = (q : Int) - 1 := by unfold wrap64; omega
      have f2 : (0 : Int) ≤ (q : Int) := by omega
      rw [hqi]
      have hqle : q < m := by omega
      have HQ := hidm hq
      clear hqi hrg hr hx hxe hxv hxq hxo hXV hXs hq HC
      gi_wp2_with (refine wpListIn_load_mid rfl 102 _ rfl g (q * 257) rfl XV.toList _ HR.out Tryz.underlying102 rfl HXL.out ?_)
      refine hR.mono ?_
      rintro e W3 (⟨rfl, hJ3, hk3⟩ | ⟨rfl, hJx3⟩)
      · gi_wp2
        go_roundw
        case rel => exact ⟨k + 1, by omega, by simp; have := HQ.out; omega, hidm (HXB.out ▸ hJ3), hidm (HK.out.trans hk3)⟩
        case measure => simp [intOf] <;> omega
      · gi_wp2
        refine bodyPost_ret (results_none rfl _ _ _) rfl ?_
        exact ⟨⟨_, rfl⟩, .inr ⟨_, ⟨k + 1, by omega, rfl⟩, HXB.out ▸ hJx3⟩⟩
    · obtain rfl : k = m := by omega
      have hz : (k : Int) - 1 - k = -1 := by omega
      rw [hz]
      gi_wp2
      go_end0
      exact ⟨⟨_, rfl⟩, .inl ⟨_, rfl, HJ.out⟩⟩
end Dsk
end Go.Proofs.YtmccnlffikegfaaGreatDoor
