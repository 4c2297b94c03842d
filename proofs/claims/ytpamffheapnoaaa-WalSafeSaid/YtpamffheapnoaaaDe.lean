/- New, Read. Conditions: as each says. -/
import Derived.Test.YtpamffheapnoaaaDd
import Derived.Laws.IdiomStrings
import Derived.Lib.BufferWrite
namespace Go.Proofs.Ytpamffheapnoaaa
open Go.RowKit
namespace Dsk
set_option maxHeartbeats 1000000 in
theorem new_bad (n : Int) (hn : n < 1 ∨ 4096 < n) (w : World) :
    Calls Try.prog 14 #[.int .i64 n] w fun e w' => e = .returned (.tuple #[.pointer none, .int .i64 1]) ∧ w = w' := by
  rcases hn with h | h
  · go_enter Try.func14, Try.ntmps14
    go_wp2_with fail
    go_ret2
    exact ⟨rfl, rfl⟩
  · have f1 : ¬ n < 1 := by omega
    go_enter Try.func14, Try.ntmps14
    go_wp2_with fail
    go_ret2
    exact ⟨rfl, rfl⟩
/-- A new disk. -/
def PD.new (n : Nat) : PD := ⟨n, fun _ => zeros, [], 0, 0, false, 0⟩
theorem PD.new_ok {n : Nat} (h : n ≤ 4096) : (PD.new n).ok := ⟨h, by simp [PD.new], by simp [PD.new], by simp [PD.new], by simp [PD.new], by simp [PD.new]⟩
/-- The blocks that have come. -/
def Come (w w' : World) (k : Nat) : Prop := w.heap.size ≤ k ∧ k < w'.heap.size
set_option maxHeartbeats 1000000 in
theorem new_any (n : Nat) (h1 : 1 ≤ n) (h2 : n ≤ 4096) (w : World) :
    Calls Try.prog 14 #[.int .i64 (n : Int)] w fun e w' => e = .returned (.tuple #[.pointer (some ⟨w.heap.size + 1, 0, none⟩), .int .i64 0]) ∧ DiskIs (w.heap.size + 1) (PD.new n) (Come w w') w' ∧ Below w.heap.size w w' := by
  have hmm := @run_makeMap Try.prog
  have f1 : ¬ (n : Int) < 1 := by omega
  have f2 : ¬ (4096 : Int) < (n : Int) := by omega
  go_enter Try.func14, Try.ntmps14
  go_wp2_with fail
  go_ret2
  have hB : Below w.heap.size w ((w.alloc (.map #[] 0)).alloc (.cells (dcells (w.heap.size + 1) (PD.new n) w.heap.size (.slice none 0 0)) 61)) :=
    ((Below.refl _ w).alloc (Nat.le_refl _) _).alloc (by simp) _
  refine ⟨by simp, ⟨w.heap.size, none, 0, ?_⟩, hB⟩
  have hrow := heap_alloc_last (w.alloc (.map #[] 0)) (.cells (dcells (w.heap.size + 1) (PD.new n) w.heap.size (.slice none 0 0)) 61)
  rw [World.size_alloc] at hrow
  have hmap := (MapAt.made w).later ((Below.refl _ _).alloc (Nat.le_refl _) (.cells (dcells (w.heap.size + 1) (PD.new n) w.heap.size (.slice none 0 0)) 61))
  refine ⟨hrow, hmap, World.ownsRow_nil _ _ _ _, ?_, ?_, fun p hp => (nomatch hp), fun k hk => hk.2, PD.new_ok h2⟩
  · unfold Come; simp <;> omega
  · unfold Come; simp <;> omega
/-! ### Read -/
set_option maxHeartbeats 1000000 in
theorem read_none (p : Option Addr) (k : Int) (w : World) (h : NotGiven p w) : Calls Try.prog 66 #[.pointer p, .int .i64 k] w fun e w' => e = .returned (.tuple #[.string ⟨#[]⟩, .int .i64 13]) ∧ Below w.heap.size w w' := by
  have G := hidm (place_none p k w h)
  go_enter Try.func66, Try.ntmps66
  go_wp2_with fail
  refine G.out.mono ?_
  rintro e w1 ⟨rfl, rfl⟩
  go_wp2_with fail
  go_ret2
  exact ⟨rfl, Below.refl _ _⟩
set_option maxHeartbeats 1000000 in
theorem read_off {D : Nat} {d : PD} {T : Nat → Prop} (k : Int) (w : World) (h : DiskIs D d T w) (hk : off d.n k) :
    Calls Try.prog 66 #[.pointer (some ⟨D, 0, none⟩), .int .i64 k] w fun e w' => e = .returned (.tuple #[.string ⟨#[]⟩, .int .i64 2]) ∧ Below w.heap.size w w' := by
  have G := hidm (place_off k w h hk)
  go_enter Try.func66, Try.ntmps66
  go_wp2_with fail
  refine G.out.mono ?_
  rintro e w1 ⟨rfl, rfl⟩
  go_wp2_with fail
  go_ret2
  exact ⟨rfl, Below.refl _ _⟩
theorem wpList_store_new {P : Program} {ops : Array Oper} {rest : List Oper} {op : Oper} {a : Act} {Q : Exit → Act → World → Prop} (hgd : op.guard = none) (ty : TypeId) (x y : Operand) (ho : op.op = .store ty x y)
    (w0 : World) (old cells : Array Value) (hx : a.eval x = .pointer (some ⟨w0.heap.size, 0, none⟩)) (hy : a.eval y = .agg cells)
    (hi : (P.info? ty).map (·.size) = some cells.size) (hold : old.size = cells.size) (h1 : cells.all (·.oneCell') = true)
    (h : wpList P ops Q rest (a.put op.dst undef) (w0.alloc (.cells cells ty))) : wpList P ops Q (op :: rest) a (w0.alloc (.cells old ty)) := by
  refine wpList_plain hgd fun _ hK => ?_
  unfold Oper.wp execOp
  simp only [ho, hx, hy, Sem.run_bind, run_storeAt_new (P := P) w0 ty old cells hi hold h1, Result.andThen_ok]
  exact hK _ _ h
theorem secBytes (w : World) (s : List UInt8) : (convert 57 9 (.slice (some ⟨w.heap.size, 0, none⟩) s.length s.length)).run Try.prog (w.alloc (.cells (sec s) 76)) = .ok (.string (S s)) (w.alloc (.cells (sec s) 76)) := by
  refine run_convert_bytes_back (P := Try.prog) _ 57 9 5 ⟨w.heap.size, 0, none⟩ s.length s Try.underlying57 Try.underlying5 Try.underlying9 ?_
  intro j hj
  have hadd : (⟨w.heap.size, 0, none⟩ : Addr).add j = ⟨w.heap.size, j, none⟩ := by unfold Addr.add; split <;> simp_all
  rw [hadd, cell_of_row _ _ j _ _ (0, 0) (heap_alloc_last w _)]
  simp [sec, vals, hj, cell, Extern.Stop.cell]
set_option maxHeartbeats 4000000 in
set_option maxRecDepth 100000 in
theorem read_on {D : Nat} {d : PD} {T : Nat → Prop} (k : Nat) (w : World) (h : DiskIs D d T w) (hk : k < d.n) :
    Calls Try.prog 66 #[.pointer (some ⟨D, 0, none⟩), .int .i64 (k : Int)] w fun e w' => e = .returned (.tuple #[.string (S (d.f k)), .int .i64 0]) ∧ Below w.heap.size w w' := by
  have G := hidm (place_on k w h hk)
  obtain ⟨M, ao, cap, hA⟩ := h
  have h2 := hA.c2
  have hl := hA.map.look (k : Int)
  have hs := hA.map.1 (k : Int)
  obtain ⟨s, hss⟩ : ∃ s, s = d.f (k : Int) := ⟨_, rfl⟩
  rw [← hss] at hl hs ⊢
  clear hss hA
  have hcv := secBytes w s
  rw [hs] at hcv
  obtain ⟨C, hC⟩ : ∃ C, C = sec s := ⟨_, rfl⟩
  obtain ⟨Z, hZ⟩ : ∃ Z, Z = sec zeros := ⟨_, rfl⟩
  have hz := zeroSec
  rw [← hC] at hl hcv
  rw [← hZ] at hz
  have HI := hidm (show (Try.prog.info? 76).map (·.size) = some C.size from by rw [hC, sec_size, hs]; exact infoSec)
  have HZC := hidm (show Z.size = C.size from by rw [hZ, hC, sec_size, sec_size, hs, zeros_len])
  have H1 := hidm (show C.all (·.oneCell') = true from by rw [hC]; exact sec_one _)
  clear hC hZ hs
  go_enter Try.func66, Try.ntmps66
  go_wp2_with fail
  refine G.out.mono ?_
  rintro e w1 ⟨rfl, rfl⟩
  go_wp2_with (first
    | (refine wpList_store_new rfl 76 _ _ rfl w Z C rfl rfl HI.out HZC.out H1.out ?_))
  go_ret2
  exact ⟨rfl, (Below.refl _ _).alloc (Nat.le_refl _) _⟩
end Dsk
end Go.Proofs.Ytpamffheapnoaaa
