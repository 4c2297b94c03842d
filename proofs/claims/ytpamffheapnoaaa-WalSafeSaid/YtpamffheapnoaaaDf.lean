/- A write's value: built, laid into a slice's literal. No condition. -/
import Derived.Test.YtpamffheapnoaaaDe
import Derived.Deep.AppendLies
import Derived.Test.YtpamffheapnoaaaMan
namespace Go.Proofs.Ytpamffheapnoaaa
open Go.RowKit
namespace Dsk
/-- Bytes, and 0 behind them. -/
def pad (s : List UInt8) : List UInt8 := s ++ List.replicate (128 - s.length) 0
theorem pad_len {s : List UInt8} (h : s.length ≤ 128) : (pad s).length = 128 := by simp [pad]; omega
theorem fold_splice (o : Nat) (l : List Value) (cs : Array Value) (h : o + l.length ≤ cs.size) :
    (l.zipIdx 0).foldl (fun cs (x : Value × Nat) => cs.setIfInBounds (o + x.2) x.1) cs = (cs.toList.take o ++ l ++ cs.toList.drop (o + l.length)).toArray := by
  obtain ⟨h1, h2⟩ := Great.foldl_set o l 0 cs
  apply Array.ext
  · rw [h1]; simp; omega
  · intro i hi hi'
    have h3 := h2 i
    rw [h1] at hi
    have h4 := Array.getElem?_eq_getElem (xs := (l.zipIdx 0).foldl (fun cs (x : Value × Nat) => cs.setIfInBounds (o + x.2) x.1) cs) (i := i) (by rw [h1]; exact hi)
    rw [h4] at h3
    have h5 := Array.getElem?_eq_getElem (xs := (cs.toList.take o ++ l ++ cs.toList.drop (o + l.length)).toArray) (i := i) hi'
    have key : (cs.toList.take o ++ l ++ cs.toList.drop (o + l.length)).toArray[i]? = if o + 0 ≤ i ∧ i < o + 0 + l.length ∧ i < cs.size then l[i - (o + 0)]? else cs[i]? := by
      simp only [List.getElem?_toArray, Nat.add_zero]
      have hto : (cs.toList.take o).length = o := by simp; omega
      by_cases hA : i < o
      · rw [if_neg (by omega), List.append_assoc, List.getElem?_append_left (by rw [hto]; exact hA), List.getElem?_take_of_lt hA]
        simp
      · by_cases hB : i < o + l.length
        · rw [if_pos ⟨by omega, hB, by omega⟩, List.append_assoc, List.getElem?_append_right (by rw [hto]; omega), hto, List.getElem?_append_left (by omega)]
        · rw [if_neg (by omega), List.getElem?_append_right (by rw [List.length_append, hto]; omega), List.length_append, hto, List.getElem?_drop]
          rw [show o + l.length + (i - (o + l.length)) = i by omega]
          simp
    rw [key, ← h3] at h5
    exact Option.some.inj h5
theorem fill_cons {place : Nat → Option (Nat × Nat)} {cells : Array Value} {i o sz : Nat} {v : Value} {rest : List (Nat × Value)} (hp : place i = some (o, sz)) (hv : v.cells.size = sz) (hle : o + sz ≤ cells.size) :
    Instr.fill place cells ((i, v) :: rest) = Instr.fill place (cells.toList.take o ++ v.cells.toList ++ cells.toList.drop (o + sz)).toArray rest := by
  have hs := fold_splice o v.cells.toList cells (by simpa [hv] using hle)
  simp only [Array.length_toList, hv] at hs
  rw [Instr.fill]
  simp only [hp, hv]
  rw [if_neg (by simp; omega), ← hs, ← Array.foldl_toList, Array.toList_zipIdx]
/-- The zero of a write. -/
def zeroW : Array Value := (.int .i64 0 :: (vals zeros ++ vals zeros) : List Value).toArray
theorem infoW : (Try.prog.info? 78).map (fun i => (i.zero, i.size, i.bytes)) = some (some (.agg zeroW), 257, 264) := by kernel_rfl
theorem zeroWV (w : World) : (zeroValue 78).run Try.prog w = .ok (.agg zeroW) w := by
  obtain ⟨i, hi, hz, hs, _⟩ := info_parts infoW
  simp [zeroValue, typeInfo, hi, hz]
theorem sizeW : (Try.prog.info? 78).map (·.size) = some 257 := by
  obtain ⟨i, hi, hz, hs, _⟩ := info_parts infoW
  simp [hi, hs]
/-- The value of a write. -/
def Wt.val (x : Wt) : Array Value := x.cells.toArray
theorem Wt.val_size {x : Wt} (h : x.ok) : x.val.size = 257 := by simp [Wt.val, Wt.cells_len h]
theorem Wt.val_one (x : Wt) : x.val.all (·.oneCell') = true := all_oneCell_toArray x.cells_one
def fieldsW : List (Nat × Nat) := [(0, 1), (1, 128), (129, 128)]
def builtOf (parts : List (Nat × Value)) : Option (Array Value) := Instr.fill (fieldsW.toArray[·]?) zeroW parts
theorem built_eq (parts : List (Nat × Value)) : Try.prog.built 78 parts = builtOf parts := by
  obtain ⟨i, hi, hz, hs, _⟩ := info_parts infoW
  have hf : (match Try.prog.underlying 78 with | some (.struct fields) => fields.toList.mapM (fun f => (Try.prog.info? f.type).map fun i => (f.offset, i.size)) | _ => none) = some fieldsW := by kernel_rfl
  unfold Program.built
  cases hu : Try.prog.underlying 78 with
  | none => rw [hu] at hf; cases hf
  | some dsc =>
    rw [hu] at hf
    cases dsc <;> simp only [reduceCtorEq] at hf
    simp only [hi, hz, hf]
    rfl
theorem build_write (k : Int) (had : List UInt8) (hh : had.length = 128) :
    Try.prog.built 78 [(0, .int .i64 k), (2, .agg (sec had))] = some (.int .i64 k :: (vals zeros ++ vals had) : List Value).toArray := by
  have hz : (vals zeros).length = 128 := by rw [vals_len, zeros_len]
  rw [built_eq]
  unfold builtOf
  rw [fill_cons (o := 0) (sz := 1) rfl rfl (by simp [zeroW])]
  rw [fill_cons (o := 129) (sz := 128) rfl (by show (sec had).size = 128; rw [sec_size, hh]) (by simp [zeroW, Value.cells, hz])]
  unfold Instr.fill
  congr 2
  have hd : (Value.agg (sec had)).cells.toList = vals had := by simp [Value.cells, sec]
  have h1 : (Value.int IntKind.i64 k).cells.toList = [.int .i64 k] := rfl
  rw [hd, h1]
  have e0 : zeroW.toList = .int .i64 0 :: (vals zeros ++ vals zeros) := rfl
  rw [e0]
  generalize hv : vals zeros = v at hz ⊢
  have e1 : (List.take 0 (Value.int .i64 0 :: (v ++ v)) ++ [Value.int .i64 k] ++ List.drop (0 + 1) (Value.int .i64 0 :: (v ++ v))).toArray.toList = .int .i64 k :: (v ++ v) := by simp
  rw [e1]
  have e2 : List.take 129 (Value.int .i64 k :: (v ++ v)) = .int .i64 k :: v := by
    rw [List.take_succ_cons, List.take_left' hz]
  have e3 : List.drop (129 + 128) (Value.int .i64 k :: (v ++ v)) = [] := by
    apply List.drop_eq_nil_of_le
    simp [hz]
  rw [e2, e3]
  simp
set_option maxRecDepth 100000 in
theorem slice_one (w : World) (C : Array Value) (hC : C.size = 257) :
    (Instr.buildSlice 59 1 #[(0, .agg C)]).run Try.prog w = .ok (.slice (some ⟨w.heap.size, 0, none⟩) 1 1) (w.alloc (.cells C 78)) := by
  obtain ⟨i, hi, hz, hs, _⟩ := info_parts infoW
  refine run_buildSlice w 59 78 1 _ C i (.agg zeroW) Try.underlying59 hi hz (by rw [hs]; decide) (by rw [hs]; decide) ?_
  rw [hs]
  show Instr.fill _ _ [(0, Value.agg C)] = _
  rw [fill_cons (o := 0) (sz := 257) (v := .agg C) rfl hC (by simp)]
  unfold Instr.fill
  congr 1
  have : (List.drop (0 + 257) ((Array.range (1 * 257)).map fun x => (Value.agg zeroW).cells[x % (Value.agg zeroW).cells.size]!).toList) = [] := by
    apply List.drop_eq_nil_of_le
    simp
  rw [this]
  simp [Value.cells]
theorem val_one {P : Program} {ops : Array Oper} {o : Oper} {a : Act} {w w' : World} {K : Act → World → Prop} {Q : Exit → Act → World → Prop} {E : Prop} {v : Value} (hw : Region.wanted o (yielded ops a.tmps) = true)
    (hrun : (execOp a.eval o).run P w = .ok (.value v) w') (h : K (a.put o.dst v) w') : if Region.wanted o (yielded ops a.tmps) = true then Oper.wp P o a w K Q else E := by
  rw [if_pos hw]
  unfold Oper.wp
  rw [hrun, Oper.upon_value]
  exact h
theorem exec_slice1 {oi : Oper} {a : Act} {w : World} (x : Operand) (ho : oi.op = .buildSlice 59 1 #[(0, x)]) (C : Array Value) (hx : a.eval x = .agg C) (hC : C.size = 257) :
    (execOp a.eval oi).run Try.prog w = .ok (.value (.slice (some ⟨w.heap.size, 0, none⟩) 1 1)) (w.alloc (.cells C 78)) := by
  unfold execOp
  simp only [ho]
  have := slice_one w C hC
  simp [hx, this, Result.andThen]
/-- What is owned stays when a map is written. -/
theorem own_map {B : Nat} {v : Value} {n : Nat} {xs : List Value} {M : Nat} {f : Int → List UInt8} {w w' : World} (h : w.ownsRow B 78 257 v n xs) (hm : MapAt M f w) (ho : Only (fun j => j = M) w w') : w'.ownsRow B 78 257 v n xs := by
  refine ⟨h.1, ?_⟩
  rcases h.2 with h2 | ⟨g, c, cur, hv, hg, hh, rest⟩
  · exact .inl h2
  · have hne : g ≠ M := fun e => by
      obtain ⟨_, es, cl, hh2, _⟩ := hm
      rw [e, hh2] at hh
      simp at hh
    exact .inr ⟨g, c, cur, hv, hg, ho.keeps hne hh, rest⟩
theorem DiskAt.appended {D : Nat} {d : PD} {M : Nat} {ao : Option Addr} {cap : Nat} {T : Nat → Prop} {w : World} {f : Int → List UInt8} {g cap' : Nat} {x : Wt}
    (hrow : w.heap[D]? = some (.cells (dcells D d M (.slice ao d.cs.length cap)) 61 (0, 0))) (hm : MapAt M f w)
    (hown : w.ownsRow 0 78 257 (.slice (some ⟨g, 0, none⟩) (d.cs.length + 1) cap') (d.cs.length + 1) (flatW d.cs ++ x.cells))
    (tD : T D) (tM : T M) (tg : T g) (lt : ∀ k, T k → k < w.heap.size) (hok : ({ d with f := f, cs := d.cs ++ [x] } : PD).ok) :
    DiskAt D { d with f := f, cs := d.cs ++ [x] } M (some ⟨g, 0, none⟩) cap' T (w.setCell ⟨D, 3, none⟩ (.slice (some ⟨g, 0, none⟩) (d.cs.length + 1) cap')) := by
  have hlen : (d.cs ++ [x]).length = d.cs.length + 1 := by simp
  refine ⟨?_, map_set hrow hm 3 _, ?_, tD, tM, fun p hp => ?_, fun k hk => by simpa using lt k hk, hok⟩
  · rw [row_set hrow]
    show _ = some (Obj.cells (dcells D _ M (.slice (some ⟨g, 0, none⟩) (d.cs ++ [x]).length cap')) _ _)
    rw [hlen]
    rfl
  · show World.ownsRow _ _ _ _ (.slice (some ⟨g, 0, none⟩) (d.cs ++ [x]).length cap') (d.cs ++ [x]).length (flatW (d.cs ++ [x]))
    rw [hlen, flatW_snoc]
    exact own_set hrow hown 3 _
  · cases hp; exact tg
end Dsk
end Go.Proofs.Ytpamffheapnoaaa
