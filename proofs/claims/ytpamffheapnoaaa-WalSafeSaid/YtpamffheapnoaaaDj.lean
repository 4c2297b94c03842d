/- The cache backwards: slices.Backward and its iterator. Conditions: as each says. -/
import Derived.Test.YtpamffheapnoaaaDi
import Derived.RangeFuncNested
import Derived.RangeFuncBound
import Derived.RangeFuncCalls
import Derived.RangeFuncLeaves
import Derived.OwnWalkIn
import Derived.TacticsInMore
import Derived.LoopNIn
import Derived.LoopIn
namespace Go.Proofs.Ytpamffheapnoaaa
open Go.RowKit
attribute [local go_sem] Oper.semAt_some
namespace Dsk
theorem wpListIn_load_mid {F : Fence} {n : Nat} {P : Program} {ops : Array Oper} {rest : List Oper} {op : Oper} {a : Act} {w : World} {Q : Exit → Act → World → Prop} (hgd : op.guard = none) (ty : TypeId) (x : Operand) (ho : op.op = .load ty x)
    (b o : Nat) (hx : a.eval x = .pointer (some ⟨b, o, none⟩)) (cs : List Value) (d : TypeDesc) (hc : w.rangeAt b o cs)
    (hu : P.underlying ty = some d) (hd : d.isRow = true) (hi : (P.info? ty).map (·.size) = some cs.length)
    (h : wpListIn F n P ops Q rest (a.put op.dst (.agg cs.toArray)) w) : wpListIn F n P ops Q (op :: rest) a w := by
  refine wpListIn_plain hgd fun K hK' => ?_
  unfold Oper.wpIn
  refine ⟨?_, ?_⟩
  · simp [Oper.about, ho]
  · rw [Oper.semAt_plain F _ _ (by rw [ho]; intro c hc'; cases hc')]
    unfold execOp
    simp only [ho, hx, Instr.loadAt, Instr.sureAddr, Sem.run_bind, Sem.run_pure, Result.andThen_ok, run_loadVar_mid w b o ty cs d hc hu hd hi]
    exact hK' _ _ h
theorem wpListIn_store_new {F : Fence} {n : Nat} {P : Program} {ops : Array Oper} {rest : List Oper} {op : Oper} {a : Act} {Q : Exit → Act → World → Prop} (hgd : op.guard = none) (ty : TypeId) (x y : Operand) (ho : op.op = .store ty x y)
    (w0 : World) (old cells : Array Value) (hx : a.eval x = .pointer (some ⟨w0.heap.size, 0, none⟩)) (hy : a.eval y = .agg cells)
    (hi : (P.info? ty).map (·.size) = some cells.size) (hold : old.size = cells.size) (h1 : cells.all (·.oneCell') = true)
    (h : wpListIn F n P ops Q rest (a.put op.dst undef) (w0.alloc (.cells cells ty))) : wpListIn F n P ops Q (op :: rest) a (w0.alloc (.cells old ty)) := by
  refine wpListIn_plain hgd fun K hK' => ?_
  unfold Oper.wpIn
  refine ⟨?_, ?_⟩
  · simp [Oper.about, ho]
  · rw [Oper.semAt_plain F _ _ (by rw [ho]; intro c hc'; cases hc')]
    unfold execOp
    simp only [ho, hx, hy, Sem.run_bind, run_storeAt_new (P := P) w0 ty old cells hi hold h1, Result.andThen_ok]
    exact hK' _ _ h
abbrev Ent := { x : Nat × Wt // x.2.ok }
def enc (x : Ent) : Array Value := #[.int .i64 (x.1.1 : Int), .agg x.1.2.val]
def dfl : Ent := ⟨(0, ⟨0, zeros, zeros⟩), zeros_len, zeros_len⟩
/-- The write number i, with its number. -/
def ent (cs : List Wt) (hok : ∀ x ∈ cs, x.ok) (i : Nat) : Ent := if h : i < cs.length then ⟨(i, cs[i]), hok _ (List.getElem_mem h)⟩ else dfl
theorem ent_eq {cs : List Wt} {hok : ∀ x ∈ cs, x.ok} {i : Nat} (h : i < cs.length) : ent cs hok i = ⟨(i, cs[i]), hok _ (List.getElem_mem h)⟩ := by simp [ent, h]
/-- What has come when k rounds are over: the last k writes, the last one first. -/
def back (cs : List Wt) (hok : ∀ x ∈ cs, x.ok) (k : Nat) : List Ent := (List.range k).map fun j => ent cs hok (cs.length - 1 - j)
theorem back_succ (cs : List Wt) (hok : ∀ x ∈ cs, x.ok) (k : Nat) : back cs hok (k + 1) = back cs hok k ++ [ent cs hok (cs.length - 1 - k)] := by simp [back, List.range_succ]
theorem back_length (cs : List Wt) (hok : ∀ x ∈ cs, x.ok) (k : Nat) : (back cs hok k).length = k := by simp [back]
/-- The two blocks that the iterator reads stay. -/
def Kp2 (b1 : Nat) (g : Option Nat) (W W' : World) : Prop := W'.heap[b1]? = W.heap[b1]? ∧ ∀ k, g = some k → W'.heap[k]? = W.heap[k]?
theorem Kp2.trans {b1 : Nat} {g : Option Nat} {A B C : World} (h : Kp2 b1 g A B) (k : Kp2 b1 g B C) : Kp2 b1 g A C := ⟨k.1.trans h.1, fun q hq => (k.2 q hq).trans (h.2 q hq)⟩
set_option maxHeartbeats 1000000 in
theorem backward_any (sl : Value) (ao : Option Addr) (n cap : Nat) (hsl : sl = .slice ao n cap) (w : World) :
    Calls Try.prog 42 #[sl] w fun e w' => e = .returned (.func (.func 58) #[] #[.pointer (some ⟨w.heap.size, 0, none⟩)]) ∧ w' = w.alloc (.cells #[sl] 59) := by
  subst hsl
  go_enter Try.func42, Try.ntmps42
  go_wp2_with fail
  go_ret
  exact ⟨rfl, rfl⟩
set_option maxHeartbeats 4000000 in
set_option maxRecDepth 100000 in
/-- The iterator: the writes, the last one first, for every loop body that keeps the two blocks. -/
theorem back_in (F : Fence) (n : Nat) (h7 : F.fn 58) (hro : F.round = none) (hn : 1 ≤ n) (l Bs : Nat) (ao : Option Addr) (cap : Nat) (cs : List Wt) (hok : ∀ x ∈ cs, x.ok) (hlen : cs.length ≤ 1000000) (J Jx : List Ent → World → Prop)
    (hY : ∀ pre x W, J pre W → pre.length < cs.length → YieldAt F (n - 1) Try.prog l (enc x) W fun e W' =>
      (e = .returned (.bool true) ∧ J (pre ++ [x]) W' ∧ Kp2 Bs (ao.map (·.block)) W W') ∨ (e = .returned (.bool false) ∧ Jx (pre ++ [x]) W'))
    (W : World) (hBs : W.cell? ⟨Bs, 0, none⟩ = some (.slice ao cs.length cap))
    (hc : cs ≠ [] → ∃ g, ao = some ⟨g, 0, none⟩ ∧ ∀ i (hi : i < cs.length), W.rangeAt g (i * 257) (cs[i]).val.toList) (h0 : J [] W) :
    CallsIn F n Try.prog 58 #[.func (.yield l) #[] #[], .pointer (some ⟨Bs, 0, none⟩)] W fun e W' => (∃ v, e = .returned v) ∧
      ((∃ ys, ys = back cs hok cs.length ∧ J ys W') ∨ (∃ pre, (∃ k, k ≤ cs.length ∧ pre = back cs hok k) ∧ Jx pre W')) := by
  obtain ⟨m, hm⟩ : ∃ m, m = cs.length := ⟨_, rfl⟩
  have HM := hidm hm
  rw [← hm] at hY hBs hlen ⊢
  have HC := hidm hc
  clear hm hc
  have f0 : wrap64 ((m : Int) - 1) = (m : Int) - 1 := by unfold wrap64; omega
  refine callsIn_of_wp Try.func58 rfl h7 ?_ hro
  simp only [Try.ntmps58, List.size_toArray, List.length_cons, List.length_nil, Nat.reduceAdd, Nat.reduceSub, Array.replicate_succ, Array.replicate_zero, List.push_toArray, List.append_toArray, List.nil_append, List.cons_append]
  gi_wp2
  gi_loopw [3] (fun i wr => ∃ k : Nat, k ≤ m ∧ i = .int .i64 ((m : Int) - 1 - k) ∧ Hid (J (back cs hok k) wr) ∧ Hid (Kp2 Bs (ao.map (·.block)) W wr))
    (fun i _ => (intOf i + 1).toNat)
  case atStart => exact ⟨0, Nat.zero_le _, by simp, hidm h0, hidm ⟨rfl, fun _ _ => rfl⟩⟩
  case round =>
    obtain ⟨k, hk, rfl, HJ, HK⟩ := hrel
    have hBr : wr.cell? ⟨Bs, 0, none⟩ = some (.slice ao m cap) := by rw [World.cell?_of_block (w := W) (a := ⟨Bs, 0, none⟩) HK.out.1]; exact hBs
    by_cases hlt : k < m
    · obtain ⟨q, hq⟩ : ∃ q, q = m - 1 - k := ⟨_, rfl⟩
      have hqi : (m : Int) - 1 - k = (q : Int) := by omega
      have hqm : q < cs.length := by have := HM.out; omega
      obtain ⟨g, hg, hrg⟩ := HC.out (fun e => by rw [e] at hqm; simp at hqm)
      subst hg
      have hr := rangeAt_keep (hrg q hqm) (HK.out.2 g rfl)
      obtain ⟨x, hx⟩ : ∃ x : Ent, x = ent cs hok q := ⟨_, rfl⟩
      have hxe : x.1 = (q, cs[q]) := by rw [hx, ent_eq hqm]
      have HXB := hidm (show back cs hok (k + 1) = back cs hok k ++ [x] from by rw [back_succ, ← HM.out, ← hq, ← hx])
      have hxv : cs[q] = x.1.2 := by rw [hxe]
      have hxq : x.1.1 = q := by rw [hxe]
      rw [hxv] at hr
      have hxo := x.2
      obtain ⟨fn, tmps, assign, body, hy, hR⟩ := hY _ x wr HJ.out (by rw [back_length]; exact hlt)
      unfold enc at hy
      rw [hxq] at hy
      obtain ⟨XV, hXV⟩ : ∃ XV, XV = x.1.2.val := ⟨_, rfl⟩
      rw [← hXV] at hr hy
      have hXs : XV.size = 257 := by rw [hXV]; exact Wt.val_size hxo
      have HXL := hidm (show (Try.prog.info? 78).map (·.size) = some XV.toList.length from by rw [Array.length_toList, hXs]; exact sizeW)
      have HR := hidm hr
      have f1 : wrap64 ((q : Int) - 1) = (q : Int) - 1 := by unfold wrap64; omega
      have f2 : (0 : Int) ≤ (q : Int) := by omega
      rw [hqi]
      have hqle : q < m := by omega
      have HQ := hidm hq
      clear hqi hrg hr hx hxe hxv hxq hxo hXV hXs hq HC
      gi_wp2_with (refine wpListIn_load_mid rfl 78 _ rfl g (q * 257) rfl XV.toList _ HR.out Try.underlying78 rfl HXL.out ?_)
      refine hR.mono ?_
      rintro e W3 (⟨rfl, hJ3, hk3⟩ | ⟨rfl, hJx3⟩)
      · gi_wp2
        go_roundw
        case rel => exact ⟨k + 1, by omega, by simp; have := HQ.out; omega, hidm (HXB.out ▸ hJ3), hidm (HK.out.trans hk3)⟩
        case measure => simp [intOf] <;> omega
      · gi_wp2
        refine bodyPost_ret (results_none rfl _ _ _) rfl ?_
        exact ⟨⟨_, rfl⟩, .inr ⟨_, ⟨k + 1, by omega, rfl⟩, HXB.out ▸ hJx3⟩⟩
    · obtain rfl : k = m := by omega
      have hz : (k : Int) - 1 - k = -1 := by omega
      rw [hz]
      gi_wp2
      go_end0
      exact ⟨⟨_, rfl⟩, .inl ⟨_, rfl, HJ.out⟩⟩
end Dsk
end Go.Proofs.Ytpamffheapnoaaa
